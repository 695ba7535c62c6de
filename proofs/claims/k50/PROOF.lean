import PyProof.Rows.All
import Wide.All
import OpenK.AllK
import Wide.FinOn
import HandS.ForMost
import HandS.AnyAll
import HandS.GenList
import HandS.EndTab
import PyProof.TupleOfGen
import HandS.SortRule
import HandS.Conv
import HandS.EndOwn
import HandS.EndBits
import HandS.Zip
import HandS.TupLe
import HandS.ForExc
import HandS.ExcIs
import HandS.Style
import HandS.TupAny
import HandS.IsInst
import HandS.CallLocal
import HandS.Wide
import HandS.Codes
import HandS.DictComp
import KE.KBits
import PyProof.SumWalkG
import KE.GoesEnum
import PyProof.Walks
import PyProof.MinMaxWalk
import HandS.TupSets
import HandS.Deep
import HandS.Text
import HandS.Gcd
import HandS.TupMul
import KE.KDictDisplayH
import HandS.TupLen
import KE.KDictWalk
import KE.KPairComp
import HandS.DictTup
import HandS.ExcCtx
import HandS.HotCalls
import HandS.SetFor
import HandS.Strs
import KE.GoesZip
import KE.GoesMore
import PySem.Challenge.RW_spinfield_k50_whole_joint_sums
set_option Elab.async false
set_option linter.all false
set_option maxRecDepth 100000
set_option maxHeartbeats 4000000
/-! Generator expressions over the layer: the generator's own frame as a context, its turns, what wakes it. -/
namespace GXP
open PySem PySem.Spec PyProof.Rows L2
/-- the generator's frame while its consumer stands at A -/
abbrev gcx (X : Cx) (A : Around) (s : Shared) (H : Hp) (ce : Env) (fp : List Addr) : Cx :=
  { X with A := A, s_0 := s, H_0 := H, env := ce, outer := X.stack, stack := ce :: X.stack, ex := fp, fn := fun _ => false, calm := true, pn := [], xe := fun _ _ => False }
/-- the cells of the frame that are taken over -/
theorem clo_look {cells : List (Str × Addr)} {names : List (Str × NameKind)} (hf : ∀ y ∈ names, y.2 = .free → ∃ c, cells.lookup y.1 = some c) {y : Str} {c : Addr} (e : (cloFrom cells names []).lookup y = some c) : cells.lookup y = some c ∧ (y, NameKind.free) ∈ names := by
  rcases cloFrom_mem (PySem.mem_of_lookup e) with z | ⟨z, rfl⟩
  · cases z
  · obtain ⟨d, hd⟩ := hf _ z rfl
    have hd : cells.lookup y = some d := hd
    rw [hd]
    exact ⟨rfl, z⟩
theorem gcx_start {X : Cx} {pins : List (Addr × Obj)} {σ : L2.St} {H : Hp} {s s5 : Shared} {A : Around} {ce : Env} {scope : Scope} {own : List (Str × Nat)} {fp : List Addr} {m0 : Str → Option Value}
    (I : Inv X pins σ H s) (ok : BlkOk X.N X.env.scope scope own) (hN : X.N.Nodup) (nocell : ∀ y ∈ scope.names, y.2 ≠ .cell) (hfp : ∀ b ∈ fp, FpOk X pins H b ∧ b < s.heap.objs.size)
    (hsc : ce.scope = scope) (hL : ce.locals = s.heap.objs.size) (hgl : ce.globals = mainGlobals) (hbl : ce.builtins = builtinsNs) (hcl : ce.cells = cloFrom X.env.cells scope.names []) (hfr : ce.frame = some ce.locals)
    (hA : A.frames = some (ce :: X.stack)) (hh : A.handled = none) (kp : ∀ b o, s.heap.get? b = some o → s5.heap.get? b = some o) (ns : s5.heap.Ns ce.locals m0) (hos : s5.os = s.os) (hb : AllBare s5.gens) :
    Inv (gcx X A s H ce fp) [] (wipe σ (own.map (·.2))) H s5 := by
  have hfree : ∀ y ∈ scope.names, y.2 = .free → ∃ c, X.env.cells.lookup y.1 = some c := fun y hy e => (ok.free y hy e).elim (fun k => I.ok.has _ (.inl k)) (fun k => I.ok.has _ (.inr k))
  have look : ∀ {y c}, ce.cells.lookup y = some c → X.env.cells.lookup y = some c ∧ (y, NameKind.free) ∈ scope.names := fun {y c} e => clo_look hfree (by rw [← hcl]; exact e)
  have cellLt : ∀ {y c}, X.env.cells.lookup y = some c → c < s.heap.objs.size := fun {y c} e => let ⟨_, z⟩ := I.cell y c e; z.lt
  have freeHas : ∀ {y}, scope.names.lookup y = some .free → ∃ c, ce.cells.lookup y = some c ∧ X.env.cells.lookup y = some c := fun {y} e => by
    obtain ⟨c, hc⟩ := mem_lookup (cloFrom_has (cells := X.env.cells) (acc := []) (PySem.mem_of_lookup e))
    rw [← hcl] at hc
    exact ⟨c, hc, (look hc).1⟩
  have okG : (gcx X A s H ce fp).Ok := by
    refine { mod := I.ok.mod, kind := ?kd, glob := hgl, blt := hbl, above := Nat.le_of_eq hL.symm, inj := ?inj, has := ?has, cab := fun _ _ z _ => (by cases z), hd := fun _ => hh, frames := hA, stk := .inr ⟨rfl, hfr⟩, exf := ?exf, bs := I.bs, bsz := Nat.le_trans I.ok.bsz I.sz, noex := ?noex, exfs := ?exfs, funs := I.stack, frf := I.stkFree }
    case kd =>
      show ce.scope.kind = _
      rw [hsc]
      exact ok.kind
    case inj => exact fun y z c e1 e2 => I.ok.inj y z c (look e1).1 (look e2).1
    case has =>
      intro y hy
      have hy : ce.scope.names.lookup y = some .cell ∨ ce.scope.names.lookup y = some .free := hy
      rw [hsc] at hy
      rcases hy with hy | hy
      · exact absurd rfl (nocell _ (PySem.mem_of_lookup hy))
      · exact let ⟨c, h, _⟩ := freeHas hy; ⟨c, h⟩
    case exf =>
      refine fun b hb => ⟨?_, fun y c e z => (hfp b hb).1.2.2.2.2.1 y c (look e).1 z⟩
      show b ≠ ce.locals
      rw [hL]
      exact Nat.ne_of_lt (hfp b hb).2
    case noex =>
      intro b o e hb
      rcases (hfp b hb).1.2.2.2.1 with z | z
      · exact I.ok.noex b o e z
      · have h1 := Heap.lt_size e
        have h2 := I.ok.bsz
        exact absurd (Nat.lt_of_lt_of_le h1 (Nat.le_trans h2 z)) (Nat.lt_irrefl _)
    case exfs =>
      intro b hb z
      rcases List.mem_cons.mp (I.stkSub b z) with z | z
      · exact (hfp b hb).1.2.1 z
      · exact (hfp b hb).1.2.2.1 z
  refine { ok := okG, os := hos, bare := hb, base := Un.kept kp, loc := ⟨m0, ns, ?loc⟩, cell := ?cell, free := ?free, freeC := fun y c e => I.freeC y c (look e).1, pin := fun p hp => absurd (show p ∈ ([] : List (Addr × Obj)) ++ [] from hp) (by simp), hok := I.hok.kept kp, len := by rw [wipe_length]; exact I.len }
  case loc =>
    intro i y v e1 e2 e3
    obtain ⟨e2, hne⟩ := wipe_some e2
    have e3 : ce.scope.names.lookup y = some .local ∨ ce.scope.names.lookup y = some .cell ∨ ce.scope.names.lookup y = some .free := e3
    rw [hsc] at e3
    have hfr : scope.names.lookup y = some .free := by
      rcases e3 with k | k | k
      · exfalso
        rcases ok.own _ (PySem.mem_of_lookup k) (.inl rfl) with h | h
        · obtain ⟨p, hp, hpy⟩ := List.mem_map.mp h
          have h3 := ok.ix p hp
          have : p.1 = y := hpy
          rw [this] at h3
          exact hne (List.mem_map.mpr ⟨p, hp, nodup_ix hN h3 e1⟩)
        · exact h (List.mem_of_getElem? e1)
      · exact absurd rfl (nocell _ (PySem.mem_of_lookup k))
      · exact k
    obtain ⟨c, h1, h2⟩ := freeHas hfr
    have hvis : Vis X.env.scope y := (ok.free _ (PySem.mem_of_lookup hfr) rfl).elim (fun k => .inr (.inl k)) (fun k => .inr (.inr k))
    obtain ⟨m, hn, hl⟩ := I.loc
    obtain ⟨u, r, q⟩ := hl i y v e1 e2 hvis
    refine ⟨u, r, .inr ⟨.inr (by show ce.scope.names.lookup y = _; rw [hsc]; exact hfr), ?_⟩⟩
    rcases q with ⟨k, _⟩ | ⟨_, d, hd, z⟩
    · have k : X.env.scope.names.lookup y = some .local := k
      rcases ok.free _ (PySem.mem_of_lookup hfr) rfl with k' | k' <;> rw [show X.env.scope.names.lookup y = _ from k'] at k <;> cases k
    · rw [h2] at hd
      cases hd
      exact ⟨c, h1, z.keeps kp⟩
  case cell =>
    intro y c e
    obtain ⟨v, z⟩ := I.cell y c (look e).1
    exact ⟨v, z.keeps kp⟩
  case free =>
    show H ce.locals = none
    rw [hL]
    exact I.hok.fresh (Nat.le_refl _)
/-- while the generator sleeps, its consumer writes at cw alone -/
structure Doz (cw : List Addr) (s s' : Shared) : Prop where
  os : s'.os = s.os
  bare : AllBare s'.gens
  keep : ∀ b o, b ∉ cw → s.heap.get? b = some o → s'.heap.get? b = some o
  there : ∀ b ∈ cw, ∃ o, s'.heap.get? b = some o ∧ ∀ v, o.data ≠ .cell v
/-- what stands at cw is left alone by a turn -/
def KeptAt (cw : List Addr) (s₀ s : Shared) : Prop := ∀ b ∈ cw, ∀ o, s₀.heap.get? b = some o → s.heap.get? b = some o
/-- what a consumer does with an item: the items so far, the item, the heap, and what the generator wants to go on -/
abbrev Cy := List V → V → Hp → (List V → Hp → Prop) → Prop
/-- how the items so far show in what the consumer keeps at cw -/
structure Lnk (cw : List Addr) (Lk : List V → Heap → Prop) : Prop where
  st : ∀ ys h h', Lk ys h → (∀ b ∈ cw, ∀ o, h.get? b = some o → h'.get? b = some o) → Lk ys h'
def GYld (Y : Cx) (gp : List (Addr × Obj)) (cw : List Addr) (Lk : List V → Heap → Prop) (cy : Cy) : Protocol := fun _ s₀ v s kap =>
  ∃ (ys : List V) (y : V) (σ : L2.St) (H : Hp) (Nx : List V → Hp → Prop), Inv Y gp σ H s ∧ RelV y v ∧ KeptAt cw s₀ s ∧ (∀ b ∈ cw, H b = none) ∧ Lk ys s.heap ∧ cy ys y H Nx ∧ ∀ ys', Nx ys' H → ∀ s', Doz cw s s' → Lk ys' s'.heap → kap (.send .none) s'
def GFin (Y : Cx) (gp : List (Addr × Obj)) (cw : List Addr) (Lk : List V → Heap → Prop) (Qe : List V → Hp → Prop) : GenEnd := fun _ s₀ r s =>
  r = .ok .next ∧ ∃ (ys : List V) (σ : L2.St) (H : Hp), Inv Y gp σ H s ∧ KeptAt cw s₀ s ∧ (∀ b ∈ cw, H b = none) ∧ Lk ys s.heap ∧ Qe ys H
/-- the turns of a generator expression: W by the turn, a measure and the items so far -/
def Turns (J : It) (g : TG) (tt : TT) (te : TE) (vs : List Nat) (σ : L2.St) (cy : Cy) (Qe : List V → Hp → Prop) (W : Nat → Nat → List V → Hp → Prop) : Prop :=
  ∀ i m ys H, W i m ys H → (J.stop i H ∧ Qe ys H) ∨ (J.go i H ∧ 0 < m ∧ ∃ Nx : List V → Hp → Prop, (∀ ys' H', Nx ys' H' → ∃ m', m' < m ∧ W (i + 1) m' ys' H') ∧
    ∀ x H', J.yld i H x H' → g x (wipe σ vs) H' fun σ2 H2 => wipe σ2 vs = wipe σ vs ∧ tt σ2 H2 fun b H3 => if b = true then te σ2 H3 fun y H4 => cy ys y H4 Nx else Nx ys H3)
/-- the iterator's and the consumer's objects in the generator's frame -/
structure GPlace (Y : Cx) (gp : List (Addr × Obj)) (fp cw : List Addr) : Prop where
  fx : ∀ b ∈ fp, b ∈ Y.ex ∧ b ≠ Y.env.locals ∧ b ∉ Y.fs ∧ (∀ x c, Y.env.cells.lookup x = some c → c ≠ b) ∧ (∀ p ∈ Y.pn ++ gp, p.1 ≠ b) ∧ b ∉ cw
  cx : ∀ b ∈ cw, Y.s_0.heap.objs.size ≤ b ∧ b ≠ Y.env.locals ∧ b ∉ Y.fs ∧ (∀ x c, Y.env.cells.lookup x = some c → c ≠ b) ∧ ∀ p ∈ Y.pn ++ gp, p.1 ≠ b
theorem GPlace.fpOk {Y : Cx} {gp : List (Addr × Obj)} {fp cw : List Addr} (G : GPlace Y gp fp cw) {s₀ : Shared} {H : Hp} (n : ∀ b ∈ fp, H b = none) : ∀ b ∈ fp, FpOk Y (gp ++ pinsAt cw s₀.heap) H b := fun b hb => by
  obtain ⟨h1, h2, h3, h4, h5, h6⟩ := G.fx b hb
  refine ⟨n b hb, h2, h3, .inl h1, h4, fun p hp => ?_⟩
  rw [← List.append_assoc] at hp
  rcases List.mem_append.mp hp with hp | hp
  · exact h5 p hp
  · intro z
    have h7 := (of_pinsAt hp).1
    rw [z] at h7
    exact h6 h7
/-- the consumer's objects are pinned as they stand -/
theorem GPlace.pin {Y : Cx} {gp : List (Addr × Obj)} {fp cw : List Addr} (G : GPlace Y gp fp cw) {σ : L2.St} {H : Hp} {s : Shared} (I : Inv Y gp σ H s) (n : ∀ b ∈ cw, H b = none) (t : ∀ b ∈ cw, ∃ o, s.heap.get? b = some o ∧ ∀ v, o.data ≠ .cell v) :
    Inv Y (gp ++ pinsAt cw s.heap) σ H s :=
  I.pinned (fun b hb => let ⟨h1, h2, h3, h4, h5⟩ := G.cx b hb; ⟨n b hb, h2, h3, .inr h1, h4, h5⟩) t
theorem kept_of {Y : Cx} {gp pl : List (Addr × Obj)} {cw : List Addr} {σ : L2.St} {H : Hp} {s₀ s : Shared} (I : Inv Y ((gp ++ pinsAt cw s₀.heap) ++ pl) σ H s) : KeptAt cw s₀ s := fun b hb o e =>
  (I.pin (b, o) (List.mem_append_right _ (List.mem_append_left _ (List.mem_append_right _ (mem_pinsAt hb e))))).1
/-- asleep: only cw is written -/
theorem GPlace.doz {Y : Cx} {gp : List (Addr × Obj)} {fp cw : List Addr} (G : GPlace Y gp fp cw) {σ : L2.St} {H : Hp} {s s' : Shared} (I : Inv Y gp σ H s) (n : ∀ b ∈ cw, H b = none) (z : Doz cw s s') : Inv Y gp σ H s' := by
  obtain ⟨z1, z2, z3, _⟩ := z
  have nt : ∀ b u, H b = some u → b ∉ cw := fun b u q hb => by
    rw [n b hb] at q
    cases q
  obtain ⟨hh, g, d, t, o⟩ := s'
  have ho : o = s.os := z1
  subst ho
  refine I.step (g' := g) (t' := t) (d' := d) (ch := cw) (fun b hb => ?_) (fun b ob _ _ hc q _ => z3 b ob hc q) (fun b ob _ _ hc q _ => ⟨ob.slots, z3 b ob hc q⟩) (fun _ _ _ _ k => k) (fun b ob hc q => ⟨ob, z3 b ob hc q⟩) (fun _ _ q => q) (fun _ _ _ q => q)
    (fun b ps q => ⟨#[], by rw [q]; simp⟩) (fun m hm => ?_) (fun b u q => ?_) z2
  · obtain ⟨h1, h2, h3, h4, h5⟩ := G.cx b hb
    exact ⟨.inr h1, h2, h4, h5⟩
  · obtain ⟨ob, es, ep, ho, r⟩ := hm
    exact ⟨ob, es, ep, z3 _ ob (fun hb => (G.cx _ hb).2.1 rfl) ho, r⟩
  · refine (I.hok b u q).stay (fun c v hc y => z3 c v ?_ y) (fun _ y => y) fun _ _ y => y
    rcases hc with y | y
    · rw [y]
      exact nt b u q
    · exact nt c _ y
section
variable {Y : Cx} {Aw : Around} {elt tg iter : Expr} {ifs : List Expr} {scope : Scope} {pos : Pos} {it : Addr} {fp cw : List Addr} {gp : List (Addr × Obj)} {tn : Nat → Heap → Prop} {J : It} {g : TG} {tt : TT} {te : TE} {vs : List Nat} {σ : L2.St} {cy : Cy} {Qe : List V → Hp → Prop} {Lk : List V → Heap → Prop}
  {W : Nat → Nat → List V → Hp → Prop}
abbrev gxE (elt tg iter : Expr) (ifs : List Expr) (scope : Scope) (pos : Pos) : Expr := .GeneratorExp elt [⟨tg, iter, ifs, 0⟩] scope pos
theorem gx_loop (hA : Aw.over (.compLoop (gxE elt tg iter ifs scope pos) 0 (.ref it) .none Y.env) [] = Y.A) (hx : Y.xe = fun _ _ => False) (hco : Y.env.scope.isCoroutine = false) (hc : Y.calm = true)
    (T : Turn Y.prog Y.w Y.K tg J fp it tn) (pg : PG Y tg g) (pt : PTs Y ifs tt) (pe : PE Y elt te) (G : GPlace Y gp fp cw) (hLk : Lnk cw Lk) (hW : Turns J g tt te vs σ cy Qe W) :
    ∀ (m n i : Nat) (ys : List V) (s₀ s : Shared) (H : Hp), m ≤ n → Inv Y (gp ++ pinsAt cw s₀.heap) (wipe σ vs) H s → (∀ b ∈ cw, ∃ o, s₀.heap.get? b = some o) → Lk ys s₀.heap → tn i s.heap → (∀ b ∈ fp, H b = none) → W i m ys H →
      Seg (model Y.prog Y.w) Aw (GFin Y gp cw Lk Qe) (GYld Y gp cw Lk cy) n s₀ (.compLoop (gxE elt tg iter ifs scope pos) 0 (.ref it) .none Y.env) ((model Y.prog Y.w).den (.compLoop (gxE elt tg iter ifs scope pos) 0 (.ref it) .none Y.env)) [] s := by
  have cwn : ∀ {s₀ s : Shared} {pl : List (Addr × Obj)} {σ' : L2.St} {H : Hp}, (∀ b ∈ cw, ∃ o, s₀.heap.get? b = some o) → Inv Y ((gp ++ pinsAt cw s₀.heap) ++ pl) σ' H s → ∀ b ∈ cw, H b = none := fun {s₀ s pl σ' H} h I b hb => by
    obtain ⟨o, e⟩ := h b hb
    exact (I.pin (b, o) (List.mem_append_right _ (List.mem_append_left _ (List.mem_append_right _ (mem_pinsAt hb e))))).2.1
  have nil : ∀ {l : List (Addr × Obj)} {σ' : L2.St} {H : Hp} {s : Shared}, Inv Y l σ' H s → Inv Y (l ++ []) σ' H s := fun {l σ' H s} I => by
    rw [List.append_nil]
    exact I
  intro m
  induction m using Nat.strongRecOn with
  | ind m ih =>
    intro n i ys s₀ s H hmn I hcw lk st nf w
    have fk := G.fpOk (s₀ := s₀) nf
    show Seg _ _ _ _ _ _ _ ((compTurn (gxE elt tg iter ifs scope pos) 0 (.ref it) .none Y.env).onRaise (leaving Y.env)) [] s
    rw [compTurn_gen elt tg iter ifs scope pos, Sem.onRaise_eq_wrap]
    refine seg_bind_wrap (wpAny_standAt (seg_bind_wrap ?_))
    rw [hA]
    rcases hW i m ys H w with ⟨stop, q⟩ | ⟨go, m0, Nx, hNx, step⟩
    · refine thnF (T.done Y rfl rfl rfl hc i _ s _ H _ I fk st stop) fun r s6 ⟨hr, I6⟩ => ?_
      subst hr
      exact seg_end (.ok .next) ⟨rfl, ys, _, H, I6.unpinned, kept_of (nil I6), cwn hcw (nil I6), hLk.st _ _ _ lk (kept_of (nil I6)), q⟩
    · refine thnF (T.item Y rfl rfl rfl hc i _ s _ H _ I fk st go) fun r s6 ⟨u, hr, h6⟩ => ?_
      subst hr
      refine seg_bind_wrap ?_
      rw [hA]
      refine thnF h6 fun _ s7 ⟨x, H7, I7, r7, y7, st7, n7⟩ => ?_
      have I7' := I7.pinned (G.fpOk n7) (T.obj _ _ st7)
      have kfp : ∀ {s' : Shared} {σ' : L2.St} {H' : Hp}, Inv Y ((gp ++ pinsAt cw s₀.heap) ++ pinsAt fp s7.heap) σ' H' s' → ∀ b ∈ fp, (∀ o, s7.heap.get? b = some o → s'.heap.get? b = some o) ∧ H' b = none := fun {s' σ' H'} I' b hb => by
        obtain ⟨o, e, _⟩ := T.obj _ _ st7 b hb
        obtain ⟨z1, z2, _⟩ := I'.pin (b, o) (List.mem_append_right _ (List.mem_append_right _ (mem_pinsAt hb e)))
        refine ⟨fun o' e' => ?_, z2⟩
        rw [e] at e'
        cases e'
        exact z1
      have exF : ∀ {e : Value} {s' : Shared} {Z : Prop}, Y.xe e s' → Z := fun {e s' Z} h => by
        rw [hx] at h
        exact False.elim h
      refine seg_bind_wrap ?_
      rw [hA]
      refine wpAny_mono (pg.run _ s7 _ H7 x u _ I7' r7 (step x H7 y7)) (fun _ s8 ⟨σ8, H8, I8, hw8, q8⟩ => ?_) fun _ _ h => exF h
      refine seg_bind_wrap ?_
      rw [hA]
      refine wpAny_mono (pt.run _ s8 σ8 H8 _ I8 q8) (fun b s9 ⟨H9, I9, q9⟩ => ?_) fun _ _ h => exF h
      have hl : (wipe σ vs).length = σ8.length := by rw [← hw8, wipe_length]
      have weak : ∀ {l : List (Addr × Obj)} {H' : Hp} {s' : Shared}, Inv Y l σ8 H' s' → Inv Y l (wipe σ vs) H' s' := fun {l H' s'} I' => I'.weak hl fun j v e => by
        rw [← hw8] at e
        exact (wipe_some e).1
      cases b with
      | false =>
        rw [if_neg Bool.false_ne_true] at q9
        obtain ⟨m', hm, w'⟩ := hNx _ _ q9
        simp only [Bool.false_eq_true, if_false]
        exact seg_again rfl (ih m' hm n (i + 1) ys s₀ s9 H9 (by omega) (weak I9.unpinned) hcw lk (T.keep _ _ _ st7 fun b hb => (kfp I9 b hb).1) (fun b hb => (kfp I9 b hb).2) w')
      | true =>
        rw [if_pos rfl] at q9
        simp only [if_true]
        have hy : ∀ v, yieldOut Y.env v = yieldValue v := fun v => by
          unfold yieldOut
          rw [hco]
          rfl
        simp only [hy]
        rw [Sem.bind_eq_wrap', Sem.bind_eq_wrap', Sem.wrap_wrap, Sem.wrap_wrap]
        refine seg_wrap ?_
        rw [hA]
        refine wpAny_mono (pe.run _ s9 σ8 H9 _ I9 q9) (fun v s10 ⟨y, H10, I10, r10, q10⟩ => ?_) fun _ _ h => exF h
        obtain ⟨n', rfl⟩ : ∃ n', n = n' + 1 := ⟨n - 1, by omega⟩
        have Ig : Inv Y gp σ8 H10 s10 := I10.pins_of fun p hp => I10.pin p (List.mem_append_right _ (List.mem_append_left _ (List.mem_append_left _ hp)))
        refine seg_at (seg_yield rfl rfl rfl ⟨ys, y, σ8, H10, Nx, Ig, r10, kept_of I10, cwn hcw I10, hLk.st _ _ _ lk (kept_of I10), q10, fun ys' hys s' hz lk' => ?_⟩)
        obtain ⟨m', hm, w'⟩ := hNx ys' H10 hys
        have nc := cwn hcw I10
        have Iz := G.doz Ig nc hz
        refine seg_again rfl (ih m' hm n' (i + 1) ys' s' s' H10 (by omega) (weak (G.pin Iz nc hz.there)) (fun b hb => let ⟨o, e, _⟩ := hz.there b hb; ⟨o, e⟩) lk' (T.keep _ _ _ st7 fun b hb o e => ?_) (fun b hb => (kfp I10 b hb).2) w')
        exact hz.keep b o (G.fx b hb).2.2.2.2.2 ((kfp I10 b hb).1 o e)
end
section
variable {Y : Cx} {Aw : Around} {elt tg iter : Expr} {ifs : List Expr} {scope : Scope} {pos : Pos} {it : Addr} {fp cw : List Addr} {gp : List (Addr × Obj)} {tn : Nat → Heap → Prop} {J : It} {g : TG} {tt : TT} {te : TE} {vs : List Nat} {σ : L2.St} {cy : Cy} {Qe : List V → Hp → Prop} {Lk : List V → Heap → Prop}
  {W : Nat → Nat → List V → Hp → Prop}
theorem gx_first (hA : Aw.over (.compLoop (gxE elt tg iter ifs scope pos) 0 (.ref it) .none Y.env) [] = Y.A) (hx : Y.xe = fun _ _ => False) (hco : Y.env.scope.isCoroutine = false) (hc : Y.calm = true)
    (T : Turn Y.prog Y.w Y.K tg J fp it tn) (pg : PG Y tg g) (pt : PTs Y ifs tt) (pe : PE Y elt te) (G : GPlace Y gp fp cw) (hLk : Lnk cw Lk) (hW : Turns J g tt te vs σ cy Qe W)
    {m : Nat} {s : Shared} {H : Hp} (I : Inv Y gp (wipe σ vs) H s) (nc : ∀ b ∈ cw, H b = none) (hcw : ∀ b ∈ cw, ∃ o, s.heap.get? b = some o ∧ ∀ v, o.data ≠ .cell v) (lk : Lk [] s.heap) (st : tn 0 s.heap) (nf : ∀ b ∈ fp, H b = none) (w : W 0 m [] H) :
    Seg (model Y.prog Y.w) Aw (GFin Y gp cw Lk Qe) (GYld Y gp cw Lk cy) m s (.compStart (gxE elt tg iter ifs scope pos) 0 (.ref it) .none Y.env) ((model Y.prog Y.w).den (.compStart (gxE elt tg iter ifs scope pos) 0 (.ref it) .none Y.env)) [] s := by
  have go := gx_loop (pos := pos) hA hx hco hc T pg pt pe G hLk hW m m 0 [] s s H (Nat.le_refl _) (G.pin I nc hcw) (fun b hb => let ⟨o, e, _⟩ := hcw b hb; ⟨o, e⟩) lk st nf w
  show Seg _ _ _ _ _ _ _ ((compStart (gxE elt tg iter ifs scope pos) 0 (.ref it) .none Y.env).onRaise (leaving Y.env)) [] s
  unfold compStart
  rw [Sem.onRaise_eq_wrap]
  show Seg _ _ _ _ _ _ _ ((ask >>= _).wrap _ _ _ _) [] s
  refine seg_bind_wrap (wpAny_askSetting ?_)
  split
  · exact seg_again rfl go
  · have last := T.self (Aw.over (.compStart (gxE elt tg iter ifs scope pos) 0 (.ref it) .none Y.env) []) 0 s
    first
      | exact seg_bind_wrap (wpAny_rule (seg_bind_wrap (wpAny_standAt (seg_bind_wrap (last _ _ st (seg_again rfl go))))))
      | (refine seg_bind_wrap (wpAny_rule ?_); show Seg _ _ _ _ _ _ _ ((standAt iter.pos >>= _).wrap _ _ _ _) [] s; exact seg_bind_wrap (wpAny_standAt (seg_bind_wrap (last _ _ st (seg_again rfl go)))))
end
/-- a generator that was made in X's code: what stood then, its frame's objects, its own object -/
structure GMk (X : Cx) (pins : List (Addr × Obj)) (σ : L2.St) (sg : Shared) (Hg : Hp) (fp : List Addr) (a g : Addr) (go : Obj) : Prop where
  inv : Inv X pins σ Hg sg
  fx : ∀ b ∈ fp, FpOk X pins Hg b
  isGen : ∀ h : Heap, h.get? a = some go → h.IsGen a g
/-- it sleeps; ys is out, at most n more come -/
structure GRun (Y : Cx) (cw : List Addr) (Lk : List V → Heap → Prop) (cy : Cy) (Qe : List V → Hp → Prop) (a g : Addr) (go : Obj) (Aw : Around) (n : Nat) (ys : List V) (s : Shared) : Prop where
  here : s.heap.get? a = some go
  lim : s.heap.NoLimit
  run : ∃ gs, s.gens[g]? = some gs ∧ ∀ s', Doz cw s s' → Lk ys s'.heap → gs.Goes (model Y.prog Y.w) Aw (GFin Y [(a, go)] cw Lk Qe) (GYld Y [(a, go)] cw Lk cy) n (.send .none) s'
theorem Doz.turn {cw : List Addr} {s s' s'' : Shared} (x : Doz cw s s') (y : Doz cw s' s'') : Doz cw s s'' :=
  ⟨y.os.trans x.os, y.bare, fun b o hb e => y.keep b o hb (x.keep b o hb e), y.there⟩
theorem GRun.doz {Y : Cx} {cw : List Addr} {Lk : List V → Heap → Prop} {cy : Cy} {Qe : List V → Hp → Prop} {a g : Addr} {go : Obj} {Aw : Around} {n : Nat} {ys : List V} {s s' : Shared} (R : GRun Y cw Lk cy Qe a g go Aw n ys s) (z : Doz cw s s') (ha : a ∉ cw) (hs : cStatics ∉ cw) (hg : s'.gens = s.gens) :
    GRun Y cw Lk cy Qe a g go Aw n ys s' := by
  obtain ⟨h1, ⟨mc, hn, hnn⟩, gs, h3, h4⟩ := R
  exact ⟨z.keep _ _ ha h1, ⟨mc, hn.at' fun o e => z.keep _ o hs e, hnn⟩, gs, by rw [hg]; exact h3, fun s2 y lk => h4 s2 (z.turn y) lk⟩
section
variable {X : Cx} {pins : List (Addr × Obj)} {σ : L2.St} {sg : Shared} {Hg : Hp} {fp cw : List Addr} {a g : Addr} {go : Obj} {A A1 : Around} {ce : Env} {cy : Cy} {Qe : List V → Hp → Prop} {Lk : List V → Heap → Prop} {s : Shared} {E : Value → Shared → Prop}
/-- back in the consumer's frame -/
theorem GMk.back (M : GMk X pins σ sg Hg fp a g go) {σ' : L2.St} {H : Hp} {s1 s' : Shared} (I : Inv (gcx X A1 sg Hg ce fp) [(a, go)] σ' H s1) (ho : s'.os = s1.os) (kp : ∀ b o, s1.heap.get? b = some o → s'.heap.get? b = some o) (hb : AllBare s'.gens) : Inv X pins σ H s' :=
  M.inv.call' (ch := fp) (ho.trans I.os) (I.base.trans (Un.kept kp)) (I.hok.kept kp) hb fun b hb => ⟨(M.fx b hb).2.2.2.1, (M.fx b hb).2.1, (M.fx b hb).2.2.2.2.1, (M.fx b hb).2.2.2.2.2⟩
/-- what next(generator) gives -/
def GNext (X : Cx) (pins : List (Addr × Obj)) (σ : L2.St) (Y : Cx) (cw : List Addr) (Lk : List V → Heap → Prop) (cy : Cy) (Qe : List V → Hp → Prop) (a g : Addr) (go : Obj) (A : Around) (n : Nat) (s : Shared) (r : Option Value) (s' : Shared) : Prop :=
  KeptAt cw s s' ∧ match r with
  | none => ∃ ys H, Inv X pins σ H s' ∧ (∀ b ∈ cw, H b = none) ∧ Lk ys s'.heap ∧ Qe ys H
  | some v => ∃ ys y H Nx, Inv X pins σ H s' ∧ RelV y v ∧ (∀ b ∈ cw, H b = none) ∧ Lk ys s'.heap ∧ cy ys y H Nx ∧ ∀ ys', Nx ys' H → ∀ s2, Doz cw s' s2 → Lk ys' s2.heap → s2.gens = s'.gens → ∃ n', n = n' + 1 ∧ GRun Y cw Lk cy Qe a g go A n' ys' s2
theorem gx_next (M : GMk X pins σ sg Hg fp a g go) (hLk : Lnk cw Lk) (ha : a ∉ cw) (hs : cStatics ∉ cw) {n : Nat} {ys : List V} (hh : A.handled = none) (hd : A.depth < recursionLimit) (R : GRun (gcx X A1 sg Hg ce fp) cw Lk cy Qe a g go A.in1 n ys s) (hb : AllBare s.gens) (hcw : ∀ b ∈ cw, ∃ o, s.heap.get? b = some o ∧ ∀ v, o.data ≠ .cell v)
    (lk : Lk ys s.heap) : wpAny (model X.prog X.w) A (pyNext (.ref a)) (GNext X pins σ (gcx X A1 sg Hg ce fp) cw Lk cy Qe a g go A.in1 n s) E s := by
  obtain ⟨h1, h2, gs, h3, h4⟩ := R
  have hgl : g < s.gens.size := (Array.getElem?_eq_some_iff.mp h3).1
  have z0 : Doz cw s (s.setGen g .running) := ⟨rfl, allBare_setGen hb rfl, fun _ _ _ e => e, hcw⟩
  refine GenW.wpAny_gsz (n := g + 1) hgl ?_
  refine wpAny_pyNext_genexpQ (P := fun _ s₀ s1 => ∃ (ys : List V) (σ' : L2.St) (H : Hp), Inv (gcx X A1 sg Hg ce fp) [(a, go)] σ' H s1 ∧ KeptAt cw s₀ s1 ∧ (∀ b ∈ cw, H b = none) ∧ Lk ys s1.heap ∧ Qe ys H)
    hh h2 hd (M.isGen _ h1) h3 (h4 _ z0 lk) (fun v s1 gs' hbare hv => ?_) fun s1 hp h' hk => ?_
  · obtain ⟨ys1, y, σ', H, Nx, I, r, kc, nc, lk1, q, wake⟩ := hv
    intro hsz
    have hsz1 : g < s1.gens.size := by
      rw [GenW.setGen_size] at hsz
      exact hsz
    refine ⟨kc, ys1, y, H, Nx, M.back I rfl (fun _ _ e => e) (allBare_setGen I.bare hbare), r, nc, lk1, q, fun ys' hN s2 z lk2 hgs => ?_⟩
    have w2 := wake ys' hN s2 ⟨z.os, z.bare, z.keep, z.there⟩ lk2
    cases n with
    | zero => exact w2.elim
    | succ n' =>
      have R1 : GRun (gcx X A1 sg Hg ce fp) cw Lk cy Qe a g go A.in1 n' ys' (s1.setGen g gs') :=
        ⟨(I.pin (a, go) (List.mem_append_right _ (List.mem_singleton.mpr rfl))).1, I.nolimit, gs', setGen_at hsz1, fun s2 z lk2 => wake ys' hN s2 ⟨z.os, z.bare, z.keep, z.there⟩ lk2⟩
      exact ⟨n', rfl, R1.doz z ha hs hgs⟩
  · obtain ⟨ys1, σ', H, I, kc, nc, lk1, q⟩ := hp
    intro _
    refine ⟨fun b hb o e => hk _ _ (kc b hb o e), ys1, H, M.back I rfl hk (allBare_setGen I.bare rfl), nc, hLk.st _ _ _ lk1 fun b _ o e => hk b o e, q⟩
end
theorem over_gx {A : Around} {elt tg iter : Expr} {ifs : List Expr} {scope : Scope} {pos : Pos} {it : Addr} {ce : Env} : A.over (.compLoop (gxE elt tg iter ifs scope pos) 0 (.ref it) .none ce) [] = A.deeper ce := by
  first
    | rfl
    | (obtain ⟨hd, d, fr, gs, u⟩ := A; simp [Around.over, Around.deeper, marksOver, frameCount, unitsOf, envsOf, guardsOf, pushEnvs, pushGuards, Code.envs, Code.env?, Code.isFrame, Code.guards, Code.isGuard, Code.weight, Code.frames, Code.isCreation, Code.isCaller, Code.cUnits])
/-- the generator has been made and has not begun; at most m items come -/
structure GReady (X : Cx) (pins : List (Addr × Obj)) (σ : L2.St) (m : Nat) (cy : Cy) (Qe : List V → Hp → Prop) (a : Addr) (s : Shared) : Prop where
  ex : ∃ (g : Addr) (go : Obj) (sg : Shared) (Hg : Hp) (fp : List Addr) (ce : Env), GMk X pins σ sg Hg fp a g go ∧ Inv X pins σ Hg s ∧ s.heap.get? a = some go ∧ s.heap.NoLimit ∧
    ∀ (cw : List Addr) (Lk : List V → Heap → Prop) (A : Around) (s2 : Shared), Lnk cw Lk → A.handled = none → A.frames = some X.stack → A.depth ≤ X.A.depth + 1 → A.units ≤ X.A.units + 8 → (∀ b ∈ cw, s.heap.objs.size ≤ b) →
      (∀ b o, s.heap.get? b = some o → s2.heap.get? b = some o) → (∀ b ∈ cw, ∃ o, s2.heap.get? b = some o ∧ ∀ v, o.data ≠ .cell v) → s2.os = s.os → s2.gens = s.gens → Lk [] s2.heap →
      GRun (gcx X (A.deeper ce) sg Hg ce fp) cw Lk cy Qe a g go A m [] s2
section
variable {X : Cx} {pins : List (Addr × Obj)} {σ : L2.St} {H : Hp} {s : Shared} {c P : Addr} {elt iter tg : Expr} {ifs : List Expr} {scope : Scope} {gpos : Pos} {own : List (Str × Nat)} {wi : TI} {g : TG} {tt : TT} {te : TE} {k : Nat} {cy : Cy} {Qe : List V → Hp → Prop}
theorem gx_make (hr : Room (k + 1) X.A) (TB : LamX.TabB X.base X.mg c P) (hcode : X.env.code = .ref c) (hco : scope.isCoroutine = false) (ok : BlkOk X.N X.env.scope scope own) (hN : X.N.Nodup) (nocell : ∀ y ∈ scope.names, y.2 ≠ .cell)
    (h0 : scope.names.lookup (".0" : Str) = some NameKind.local) (hi : PI X tg iter wi)
    (pg : ∀ (A : Around) (s : Shared) (H : Hp) (C : Addr) (cl : List (Str × Addr)) (code : Value) (bi : Addr) (fp : List Addr), Room k A → PG (gcx X A s H (genEnv scope cl C code bi X.env) fp) tg g)
    (pt : ∀ (A : Around) (s : Shared) (H : Hp) (C : Addr) (cl : List (Str × Addr)) (code : Value) (bi : Addr) (fp : List Addr), Room k A → PTs (gcx X A s H (genEnv scope cl C code bi X.env) fp) ifs tt)
    (pe : ∀ (A : Around) (s : Shared) (H : Hp) (C : Addr) (cl : List (Str × Addr)) (code : Value) (bi : Addr) (fp : List Addr), Room k A → PE (gcx X A s H (genEnv scope cl C code bi X.env) fp) elt te)
    (hs : ∀ v, genFold iter X.env v = pure v) (I : Inv X pins σ H s)
    (h : wi σ H fun J H1 => GxR.TabG H1 P ∧ ∀ H2, GxR.Tabbed P H1 H2 → ∃ W m, W 0 m [] H2 ∧ Turns J g tt te (own.map (·.2)) σ cy Qe W) :
    wpAny (model X.prog X.w) X.A (eval (gxE elt tg iter ifs scope gpos) X.env) (fun u s' => ∃ a m, u = .ref a ∧ GReady X pins σ m cy Qe a s') X.xe s := by
  have hfree : ∀ y ∈ scope.names, y.2 = .free → ∃ c, X.env.cells.lookup y.1 = some c := fun y hy e => (ok.free y hy e).elim (fun z => I.ok.has _ (.inl z)) (fun z => I.ok.has _ (.inr z))
  refine wpAny_GeneratorExp_make hco (closure_ok hfree) nocell h0 ok.kind (by have := hr.dp; omega) ?_ hs
  refine thn (hi.run pins s σ H _ I h) fun xv s1 hx => thn hx fun itv s2 h2 => ?_
  obtain ⟨it, fp, tn, J, H2, rfl, I2, T, st2, f2, ⟨ps, hP, ht⟩, q⟩ := h2
  refine ⟨I2.nolimit, ?_⟩
  have hPs : s2.heap.get? P = some { cls := .none, data := .fields ps } := I2.hok P _ hP
  have cd : PySem.W.CodeHd s2.heap c P := TB.code.keeps fun b u e => I2.bk b u e
  have sz : ∀ b ∈ fp, b < s2.heap.objs.size := fun b hb => by
    obtain ⟨o, e, _⟩ := T.obj _ _ st2 b hb
    exact Heap.lt_size e
  have nP : ∀ b ∈ fp, b ≠ P := fun b hb z => by
    have := (f2 b hb).1
    rw [z, hP] at this
    cases this
  have cont : ∀ (code : Value) (h3 : Heap) (tk : Nat) (more : Array Value), Heap.ExtBut P s2.heap h3 → s2.heap.objs.size ≤ h3.objs.size → h3.get? P = some { cls := .none, data := .fields (ps ++ more) } → TriplesOk (ps ++ more).toList →
      wpAny (model X.prog X.w) X.A (builtinsFor X.env.globals X.env.builtins) (fun bi s4 => ∀ h', h'.Ns s4.heap.objs.size (fun y => if y = ".0" then some (.ref it) else none) → Heap.SameBut s4.heap.objs.size (s4.heap.push { cls := .type "frame", data := .dict #[] }) h' →
        ∃ a m, Value.ref h'.objs.size = .ref a ∧ GReady X pins σ m cy Qe a { s4 with
            gens := s4.gens.push (.fresh (.compStart (gxE elt tg iter ifs scope gpos) 0 (.ref it) .none (genEnv scope (cloFrom X.env.cells scope.names []) s4.heap.objs.size code bi X.env))),
            toks := s4.toks + 1 + 1 + 1,
            heap := h'.push { cls := .type "generator", data := .fields #[.int s4.gens.size 0, .str "<genexpr>" (s4.toks + 1), .str (X.env.qual ++ "<genexpr>") (s4.toks + 1 + 1)] } }) X.xe { s2 with heap := h3, toks := tk } := by
    intro code h3 tk more hx3 hsz hP3 ht3
    have kp3 : ∀ b o, b ≠ P → s2.heap.get? b = some o → h3.get? b = some o := fun b o hb e => hx3 b o hb e
    have I3 : Inv X pins σ (upd H2 P (.tbl (ps ++ more))) { s2 with heap := h3, toks := tk } := GxR.inv_tab (g' := s2.gens) (d' := s2.drawn) (t' := tk) I2 hP kp3 hP3 I2.bare
    obtain ⟨W, m, w0, hW⟩ := q (upd H2 P (.tbl (ps ++ more))) ⟨⟨_, upd_same, ht3⟩, fun b hb => upd_ne hb⟩
    have f3 : ∀ b ∈ fp, FpOk X pins (upd H2 P (.tbl (ps ++ more))) b := fun b hb => ⟨by rw [upd_ne (nP b hb)]; exact (f2 b hb).1, (f2 b hb).2⟩
    have st3 : tn 0 h3 := T.keep _ _ _ st2 fun b hb o e => kp3 b o (nP b hb) e
    have sz3 : ∀ b ∈ fp, b < h3.objs.size := fun b hb => Nat.lt_of_lt_of_le (sz b hb) hsz
    obtain ⟨bm, ob, e1, e2, e3, e4, e5, e6, e7, e8⟩ := TB.bm
    refine wpAny_builtinsFor (m := X.mg) (by rw [I3.ok.glob]; exact I3.mod.glob.keeps I3.bk) e1 e2 (I3.bk _ _ e5) e6 e7 e8 ?_
    generalize upd H2 P (.tbl (ps ++ more)) = H3 at I3 w0 f3 hW
    generalize hs3 : ({ s2 with heap := h3, toks := tk } : Shared) = s3 at I3 ⊢
    have e3h : s3.heap = h3 := by rw [← hs3]
    rw [← e3h] at st3 sz3
    intro h' hn' hb'
    have hsz' : h'.objs.size = s3.heap.objs.size + 1 := by rw [hb'.1, Heap.size_push]
    have kp' : ∀ b o, s3.heap.get? b = some o → h'.get? b = some o := fun b o e => hb'.extBut b o (Nat.ne_of_lt (Heap.lt_size e)) (Heap.get?_push_of_some _ e)
    refine ⟨_, m, rfl, ?_⟩
    generalize hgo : ({ cls := .type "generator", data := .fields #[.int s3.gens.size 0, .str "<genexpr>" (s3.toks + 1), .str (X.env.qual ++ "<genexpr>") (s3.toks + 1 + 1)] } : Obj) = go
    have isg : ∀ h : Heap, h.get? h'.objs.size = some go → h.IsGen h'.objs.size s3.gens.size := fun h e => ⟨go, _, _, e, by rw [← hgo], by rw [← hgo], by rw [← hgo]⟩
    have gnc : ∀ v, go.data ≠ .cell v := fun v z => by
      rw [← hgo] at z
      cases z
    have nf : go.data ≠ .freed := fun z => by
      rw [← hgo] at z
      cases z
    have hat : (h'.push go).get? h'.objs.size = some go := by
      rw [← hgo]
      exact Heap.get?_push_size _ rfl
    generalize hce : genEnv scope (cloFrom X.env.cells scope.names []) s3.heap.objs.size code builtinsNs X.env = ce
    have ce1 : ce.scope = scope := by rw [← hce]; rfl
    have ce2 : ce.locals = s3.heap.objs.size := by rw [← hce]; rfl
    have ce3 : ce.globals = mainGlobals := by rw [← hce]; exact I3.ok.glob
    have ce4 : ce.builtins = builtinsNs := by rw [← hce]; rfl
    have ce5 : ce.cells = cloFrom X.env.cells scope.names [] := by rw [← hce]; rfl
    have ce6 : ce.frame = some ce.locals := by rw [← hce]; rfl
    generalize hs5 : ({ s3 with gens := s3.gens.push (.fresh (.compStart (gxE elt tg iter ifs scope gpos) 0 (.ref it) .none ce)), toks := s3.toks + 1 + 1 + 1, heap := h'.push go } : Shared) = s5
    have h5 : s5.heap = h'.push go := by rw [← hs5]
    have g5 : s5.gens = s3.gens.push (.fresh (.compStart (gxE elt tg iter ifs scope gpos) 0 (.ref it) .none ce)) := by rw [← hs5]
    have o5 : s5.os = s3.os := by rw [← hs5]
    have kp5 : ∀ b o, s3.heap.get? b = some o → s5.heap.get? b = some o := fun b o e => by rw [h5]; exact Heap.get?_push_of_some _ (kp' b o e)
    have b5 : AllBare s5.gens := by rw [g5]; exact I3.bare.push rfl
    have M : GMk X pins σ s3 H3 fp h'.objs.size s3.gens.size go := ⟨I3, f3, isg⟩
    have lim5 : s5.heap.NoLimit := I3.nolimit.keeps kp5
    have I5 : Inv X pins σ H3 s5 := I3.call' (ch := []) o5 (Un.kept kp5) (I3.hok.kept kp5) b5 fun b z => by simp at z
    have at5 : s5.heap.get? h'.objs.size = some go := by rw [h5]; exact hat
    have sz5 : s5.heap.objs.size = s3.heap.objs.size + 2 := by rw [h5, Heap.size_push, hsz']
    refine ⟨⟨s3.gens.size, go, s3, H3, fp, ce, M, I5, at5, lim5, fun cw Lk A s6 hLk hh hfr hdp hun hcw kp6 tc os6 gs6 lk => ?_⟩⟩
    have kp36 : ∀ b o, s3.heap.get? b = some o → s6.heap.get? b = some o := fun b o e => kp6 b o (kp5 b o e)
    have hrA : Room k (A.deeper ce) := by
      refine ⟨hh, ?_, ?_⟩
      · have := hr.dp
        show A.depth + 1 + 3 * k + 5 < _
        omega
      · have := hr.un
        show A.units + 3 + 16 * k + 200 < _
        omega
    have nsC : s6.heap.Ns ce.locals (fun y => if y = ".0" then some (.ref it) else none) := by
      rw [ce2]
      exact (hn'.push go).keeps fun b o e => kp6 b o (by rw [h5]; exact e)
    have b6 : AllBare s6.gens := by rw [gs6]; exact b5
    have I6 : Inv (gcx X (A.deeper ce) s3 H3 ce fp) [] (wipe σ (own.map (·.2))) H3 s6 :=
      gcx_start I3 ok hN nocell (fun b hb => ⟨f3 b hb, sz3 b hb⟩) ce1 ce2 ce3 ce4 ce5 ce6 (Around.frames_deeper hfr) hh kp36 nsC (os6.trans o5) b6
    have young : ∀ b, s3.heap.objs.size < b → H3 b = none ∧ b ≠ ce.locals ∧ b ∉ frs X.stack ∧ (∀ x c, ce.cells.lookup x = some c → c ≠ b) := fun b hb => by
      refine ⟨I3.hok.fresh (Nat.le_of_lt hb), by rw [ce2]; exact Nat.ne_of_gt hb, fun z => ?_, fun x d e z => ?_⟩
      · rcases List.mem_cons.mp (I3.stkSub b z) with z | z
        · exact absurd (Nat.lt_trans (by rw [z]; exact I3.lt) hb) (Nat.lt_irrefl _)
        · exact I3.nofs (Nat.le_of_lt hb) z
      · obtain ⟨v, zc⟩ := I6.cell x d e
        rw [ce5] at e
        obtain ⟨u, zd⟩ := I3.cell x d (clo_look hfree e).1
        have := zd.lt
        rw [z] at this
        exact absurd (Nat.lt_trans this hb) (Nat.lt_irrefl _)
    have ga : s3.heap.objs.size < h'.objs.size := by rw [hsz']; exact Nat.lt_succ_self _
    have I6' : Inv (gcx X (A.deeper ce) s3 H3 ce fp) [(h'.objs.size, go)] (wipe σ (own.map (·.2))) H3 s6 := I6.pins_of fun p hp => by
      rw [List.mem_singleton.mp hp]
      obtain ⟨y1, y2, y3, _⟩ := young _ ga
      exact ⟨kp6 _ _ at5, y1, y2, y3, gnc⟩
    have cwlt : ∀ b ∈ cw, s3.heap.objs.size < b ∧ b ≠ h'.objs.size := fun b hb => by
      have h1 : s3.heap.objs.size + 2 ≤ b := by rw [← sz5]; exact hcw b hb
      refine ⟨Nat.lt_of_lt_of_le (Nat.lt_succ_of_lt (Nat.lt_succ_self _)) h1, fun z => ?_⟩
      rw [z, hsz'] at h1
      exact absurd (Nat.lt_of_succ_le h1) (Nat.lt_irrefl _)
    have G : GPlace (gcx X (A.deeper ce) s3 H3 ce fp) [(h'.objs.size, go)] fp cw := by
      refine ⟨fun b hb => ⟨hb, (I6.ok.exf b hb).1, I6.ok.exfs b hb, fun x d e => (I6.ok.exf b hb).2 x d e, fun p hp => ?_, fun z => ?_⟩, fun b hb => ?_⟩
      · rw [List.mem_singleton.mp (show p ∈ [(h'.objs.size, go)] from hp)]
        exact fun z => absurd (Nat.lt_trans (sz3 b hb) (by rw [← z]; exact ga)) (Nat.lt_irrefl _)
      · exact absurd (Nat.lt_trans (sz3 b hb) (cwlt b z).1) (Nat.lt_irrefl _)
      · obtain ⟨y1, y2, y3, y4⟩ := young b (cwlt b hb).1
        refine ⟨Nat.le_of_lt (cwlt b hb).1, y2, y3, y4, fun p hp => ?_⟩
        rw [List.mem_singleton.mp (show p ∈ [(h'.objs.size, go)] from hp)]
        exact (cwlt b hb).2.symm
    have nc : ∀ b ∈ cw, H3 b = none := fun b hb => (young b (cwlt b hb).1).1
    refine ⟨kp6 _ _ at5, lim5.keeps kp6, .fresh (.compStart (gxE elt tg iter ifs scope gpos) 0 (.ref it) .none ce), by rw [gs6, g5]; exact Array.getElem?_push_size .., fun s7 z lk7 => ⟨rfl, ?_⟩⟩
    have I7 := G.doz I6' nc z
    have st7 : tn 0 s7.heap := T.keep _ _ _ st3 fun b hb o e => z.keep b o (fun hc => absurd (Nat.lt_trans (sz3 b hb) (cwlt b hc).1) (Nat.lt_irrefl _)) (kp36 b o e)
    have pg' := pg (A.deeper ce) s3 H3 s3.heap.objs.size (cloFrom X.env.cells scope.names []) code builtinsNs fp hrA
    have pt' := pt (A.deeper ce) s3 H3 s3.heap.objs.size (cloFrom X.env.cells scope.names []) code builtinsNs fp hrA
    have pe' := pe (A.deeper ce) s3 H3 s3.heap.objs.size (cloFrom X.env.cells scope.names []) code builtinsNs fp hrA
    rw [hce] at pg' pt' pe'
    exact gx_first (Y := gcx X (A.deeper ce) s3 H3 ce fp) over_gx rfl (by show ce.scope.isCoroutine = false; rw [ce1]; exact hco) rfl T pg' pt' pe' G hLk hW I7 nc z.there lk7 st7 (fun b hb => (f3 b hb).1) w0
  cases hf : codeAmong gpos ps.toList with
  | none =>
    refine wpAny_genexprCodeX hcode (cd.code hPs ht) (cd.tab hPs) hf fun c' h' tk hx hge hlt hco' _ htab' _ => ?_
    obtain ⟨o1, vs, f1, tf, fl, tg, inF, tx, tt, op, _, _, _, _, _, _, _, _, _, htr, _⟩ := hco'
    exact cont _ h' tk _ hx (Nat.le_trans hge (Nat.le_of_lt hlt)) htab'.2 htr
  | some cv =>
    refine wpAny_genexprCode_hit hcode (cd.code hPs ht) hf ?_
    exact cont cv s2.heap s2.toks #[] (Heap.ExtBut.refl _ _) (Nat.le_refl _) (by rw [Array.append_empty]; exact hPs) (by rw [Array.append_empty]; exact ht)
end
end GXP
namespace GXP
open PySem PySem.Spec PyProof.Rows L2
/-! the consumers -/
/-- the list that the consumer fills -/
abbrev tmpL (acc : Array Value) (c : Nat) : Obj := { cls := .type "list", dict := none, data := .seq acc c, slots := #[] }
def LkT (S : Addr) (ys : List V) (h : Heap) : Prop := ∃ acc c, h.get? S = some (tmpL acc c) ∧ Vals ys acc.toList ∧ ys.length ≤ sizeLine
theorem lnkT (S : Addr) : Lnk [S] (LkT S) := ⟨fun _ _ _ ⟨acc, c, e, r⟩ k => ⟨acc, c, k S (List.mem_singleton.mpr rfl) _ e, r⟩⟩
def cyT : Cy := fun ys y H Nx => ys.length < sizeLine ∧ Nx (ys ++ [y]) H
theorem lnkN : Lnk [] (fun _ _ => True) := ⟨fun _ _ _ _ _ => trivial⟩
/-- all, any: b0 ends it -/
def cyB (b0 : Bool) (Qf : Hp → Prop) : Cy := fun ys y H Nx => ∃ b, y = .bl b ∧ if b = b0 then Qf H else Nx (ys ++ [y]) H
def sumV : List V → Int
  | [] => 0
  | .int z :: r => z + sumV r
  | _ :: r => sumV r
theorem sumV_snoc : ∀ (ys : List V) (z : Int), sumV (ys ++ [.int z]) = sumV ys + z
  | [], z => by simp [sumV]
  | y :: r, z => by
    have ih := sumV_snoc r z
    cases y <;> simp only [List.cons_append, sumV, ih] <;> omega
def LkS (S : Addr) (ys : List V) (h : Heap) : Prop := ∃ t c, h.get? S = some (tmpL #[.int (sumV ys) t] c)
theorem lnkS (S : Addr) : Lnk [S] (LkS S) := ⟨fun _ _ _ ⟨t, c, e⟩ k => ⟨t, c, k S (List.mem_singleton.mpr rfl) _ e⟩⟩
def cyS : Cy := fun ys y H Nx => ∃ z, y = .int z ∧ InLong z ∧ InLong (sumV ys + z) ∧ Nx (ys ++ [y]) H
section
variable {X : Cx} {pins : List (Addr × Obj)} {σ : L2.St} {sg : Shared} {Hg : Hp} {fp : List Addr} {a g S : Addr} {go : Obj} {A A1 : Around} {ce : Env} {Qe : List V → Hp → Prop} {R : Result → Shared → Prop}
theorem gx_drain (M : GMk X pins σ sg Hg fp a g go) (hh : A.handled = none) (hd : A.depth < recursionLimit) (hSa : a ∉ [S]) (hSc : cStatics ∉ [S]) {res : Value}
    (fin : ∀ (s' : Shared) (ys : List V) (H : Hp) (acc : Array Value) (c : Nat), Inv X pins σ H s' → H S = none → s'.heap.get? S = some (tmpL acc c) → Vals ys acc.toList → ys.length ≤ sizeLine → Qe ys H → R (.ok (.ret res)) s') :
    ∀ (n : Nat) (ys : List V) (s : Shared), GRun (gcx X A1 sg Hg ce fp) [S] (LkT S) cyT Qe a g go A.in1.in1 n ys s → LkT S ys s.heap → AllBare s.gens → codeAny (model X.prog X.w) A (.builtin "list.extend.loop" ⟨[.ref S, .ref a, res], []⟩) R s := by
  have E0 := F.entry_extend_loop
  intro n
  induction n with
  | zero =>
    intro ys s G lk hb
    obtain ⟨acc, c, eS, r, hz⟩ := id lk
    refine codeAny_builtin E0 ?_
    rw [Around.under_plainId F.plain_extend_loop]
    refine wpAny_bind (thnF (gx_next M (lnkT S) hSa hSc (A := A.in1) hh hd G hb (fun b hb => ?_) lk) fun r s1 hN => ?_)
    · rw [List.mem_singleton.mp hb]
      exact ⟨_, eS, fun v z => by cases z⟩
    · obtain ⟨kc, hN⟩ := hN
      cases r with
      | none =>
        obtain ⟨ys1, H1, I1, n1, ⟨acc1, c1, e1, r1, z1⟩, q1⟩ := hN
        exact wpAny_pure (fin s1 ys1 H1 acc1 c1 I1 (n1 S (List.mem_singleton.mpr rfl)) e1 r1 z1 q1)
      | some v =>
        obtain ⟨ys1, y, H1, Nx, I1, ry, n1, ⟨acc1, c1, e1, r1, z1⟩, ⟨hlt, hN1⟩, wake⟩ := hN
        have hs : acc1.size < sizeLine := by
          have := r1.length
          simp only [Array.length_toList] at this
          omega
        show wpAny _ A.in1 (updateSeq S (·.push v) >>= _) _ _ _
        refine wpAny_bind (wpAny_updateSeq e1 rfl ?_ (Nat.le_of_lt hs) (by show (acc1.push v).size ≤ sizeLine + 1; rw [Array.size_push]; omega))
        have o1 := Heap.get?_update_self (Obj.mapSeq (·.push v)) e1 rfl
        refine (wake (ys1 ++ [y]) hN1 { s1 with heap := s1.heap.update S (Obj.mapSeq (·.push v)) } ⟨rfl, I1.bare, fun b o hb e => ?_, fun b hb => ?_⟩ ⟨_, _, o1, ?_, ?_⟩ rfl).elim (fun n' h => (Nat.succ_ne_zero n' h.1.symm).elim)
        · exact (Heap.get?_update_other _ _ (fun z => hb (List.mem_singleton.mpr z.symm))).trans e
        · rw [List.mem_singleton.mp hb]
          exact ⟨_, o1, fun v z => by cases z⟩
        · rw [Array.toList_push]
          exact r1.append (.cons ry .nil)
        · rw [List.length_append]
          exact hlt
  | succ n ih =>
    intro ys s G lk hb
    obtain ⟨acc, c, eS, r, hz⟩ := id lk
    refine codeAny_builtin E0 ?_
    rw [Around.under_plainId F.plain_extend_loop]
    refine wpAny_bind (thnF (gx_next M (lnkT S) hSa hSc (A := A.in1) hh hd G hb (fun b hb => ?_) lk) fun r s1 hN => ?_)
    · rw [List.mem_singleton.mp hb]
      exact ⟨_, eS, fun v z => by cases z⟩
    · obtain ⟨kc, hN⟩ := hN
      cases r with
      | none =>
        obtain ⟨ys1, H1, I1, n1, ⟨acc1, c1, e1, r1, z1⟩, q1⟩ := hN
        exact wpAny_pure (fin s1 ys1 H1 acc1 c1 I1 (n1 S (List.mem_singleton.mpr rfl)) e1 r1 z1 q1)
      | some v =>
        obtain ⟨ys1, y, H1, Nx, I1, ry, n1, ⟨acc1, c1, e1, r1, z1⟩, ⟨hlt, hN1⟩, wake⟩ := hN
        have hs : acc1.size < sizeLine := by
          have := r1.length
          simp only [Array.length_toList] at this
          omega
        show wpAny _ A.in1 (updateSeq S (·.push v) >>= _) _ _ _
        refine wpAny_bind (wpAny_updateSeq e1 rfl (wpAny_pure ⟨plainId_quiet F.plain_extend_loop _, ?_⟩) (Nat.le_of_lt hs) (by show (acc1.push v).size ≤ sizeLine + 1; rw [Array.size_push]; omega))
        have o1 := Heap.get?_update_self (Obj.mapSeq (·.push v)) e1 rfl
        have lk2 : LkT S (ys1 ++ [y]) (s1.heap.update S (Obj.mapSeq (·.push v))) := ⟨_, _, o1, by rw [Array.toList_push]; exact r1.append (.cons ry .nil), by rw [List.length_append]; exact hlt⟩
        obtain ⟨n', hn, G'⟩ := wake (ys1 ++ [y]) hN1 { s1 with heap := s1.heap.update S (Obj.mapSeq (·.push v)) } ⟨rfl, I1.bare, fun b o hb e => (Heap.get?_update_other _ _ (fun z => hb (List.mem_singleton.mpr z.symm))).trans e, fun b hb => by
          rw [List.mem_singleton.mp hb]
          exact ⟨_, o1, fun v z => by cases z⟩⟩ lk2 rfl
        cases hn
        exact ih (ys1 ++ [y]) _ G' lk2 I1.bare
end
end GXP
namespace GXP
open PySem PySem.Spec PyProof.Rows L2
section
variable {X : Cx} {pins : List (Addr × Obj)} {σ : L2.St} {sg : Shared} {Hg : Hp} {fp : List Addr} {a g S : Addr} {go : Obj} {A A1 : Around} {ce : Env} {Qe : List V → Hp → Prop} {Qf : Hp → Prop} {R : Result → Shared → Prop}
theorem gx_all (M : GMk X pins σ sg Hg fp a g go) (hh : A.handled = none) (hd : A.depth < recursionLimit)
    (fin : ∀ (s' : Shared) (H : Hp) (b : Bool), Inv X pins σ H s' → (b = true → ∃ ys, Qe ys H) → (b = false → Qf H) → R (.ok (.ret (.bool b))) s') :
    ∀ (n : Nat) (ys : List V) (s : Shared), GRun (gcx X A1 sg Hg ce fp) [] (fun _ _ => True) (cyB false Qf) Qe a g go A.in1.in1 n ys s → AllBare s.gens → codeAny (model X.prog X.w) A (.builtin "all.loop" ⟨[.ref a], []⟩) R s := by
  have E0 := F.entry_all_loop
  intro n
  induction n with
  | zero =>
    intro ys s G hb
    refine codeAny_builtin E0 ?_
    rw [Around.under_plainId F.plain_all_loop]
    refine wpAny_bind (thnF (gx_next M lnkN (by simp) (by simp) (A := A.in1) hh hd G hb (fun b hb => by cases hb) trivial) fun r s1 ⟨_, hN⟩ => ?_)
    cases r with
    | none =>
      obtain ⟨ys1, H1, I1, _, _, q1⟩ := hN
      exact wpAny_bind (wpAny_rule (wpAny_pure (fin s1 H1 true I1 (fun _ => ⟨ys1, q1⟩) (fun z => by cases z))))
    | some v =>
      obtain ⟨ys1, y, H1, Nx, I1, ry, _, _, ⟨b, rfl, q⟩, wake⟩ := hN
      cases ry
      refine wpAny_bind (wpAny_holding (wpAny_truthy_bool (wpAny_bind (wpAny_letGo ?_))))
      cases b with
      | true =>
        rw [if_neg (by decide)] at q
        obtain ⟨n', h, _⟩ := wake _ q s1 ⟨rfl, I1.bare, fun _ _ _ e => e, fun b hb => by cases hb⟩ trivial rfl
        cases h
      | false =>
        rw [if_pos rfl] at q
        exact wpAny_bind (wpAny_rule (wpAny_pure (fin s1 H1 false I1 (fun z => by cases z) (fun _ => q))))
  | succ n ih =>
    intro ys s G hb
    refine codeAny_builtin E0 ?_
    rw [Around.under_plainId F.plain_all_loop]
    refine wpAny_bind (thnF (gx_next M lnkN (by simp) (by simp) (A := A.in1) hh hd G hb (fun b hb => by cases hb) trivial) fun r s1 ⟨_, hN⟩ => ?_)
    cases r with
    | none =>
      obtain ⟨ys1, H1, I1, _, _, q1⟩ := hN
      exact wpAny_bind (wpAny_rule (wpAny_pure (fin s1 H1 true I1 (fun _ => ⟨ys1, q1⟩) (fun z => by cases z))))
    | some v =>
      obtain ⟨ys1, y, H1, Nx, I1, ry, _, _, ⟨b, rfl, q⟩, wake⟩ := hN
      cases ry
      refine wpAny_bind (wpAny_holding (wpAny_truthy_bool (wpAny_bind (wpAny_letGo ?_))))
      cases b with
      | true =>
        rw [if_neg (by decide)] at q
        obtain ⟨n', h, G'⟩ := wake _ q s1 ⟨rfl, I1.bare, fun _ _ _ e => e, fun b hb => by cases hb⟩ trivial rfl
        cases h
        exact wpAny_pure ⟨plainId_quiet F.plain_all_loop _, ih _ s1 G' I1.bare⟩
      | false =>
        rw [if_pos rfl] at q
        exact wpAny_bind (wpAny_rule (wpAny_pure (fin s1 H1 false I1 (fun z => by cases z) (fun _ => q))))
theorem gx_any (M : GMk X pins σ sg Hg fp a g go) (hh : A.handled = none) (hd : A.depth < recursionLimit)
    (fin : ∀ (s' : Shared) (H : Hp) (b : Bool), Inv X pins σ H s' → (b = false → ∃ ys, Qe ys H) → (b = true → Qf H) → R (.ok (.ret (.bool b))) s') :
    ∀ (n : Nat) (ys : List V) (s : Shared), GRun (gcx X A1 sg Hg ce fp) [] (fun _ _ => True) (cyB true Qf) Qe a g go A.in1.in1 n ys s → AllBare s.gens → codeAny (model X.prog X.w) A (.builtin "any.loop" ⟨[.ref a], []⟩) R s := by
  have E0 := F.entry_any_loop
  intro n
  induction n with
  | zero =>
    intro ys s G hb
    refine codeAny_builtin E0 ?_
    rw [Around.under_plainId F.plain_any_loop]
    refine wpAny_bind (thnF (gx_next M lnkN (by simp) (by simp) (A := A.in1) hh hd G hb (fun b hb => by cases hb) trivial) fun r s1 ⟨_, hN⟩ => ?_)
    cases r with
    | none =>
      obtain ⟨ys1, H1, I1, _, _, q1⟩ := hN
      exact wpAny_bind (wpAny_rule (wpAny_pure (fin s1 H1 false I1 (fun _ => ⟨ys1, q1⟩) (fun z => by cases z))))
    | some v =>
      obtain ⟨ys1, y, H1, Nx, I1, ry, _, _, ⟨b, rfl, q⟩, wake⟩ := hN
      cases ry
      refine wpAny_bind (wpAny_holding (wpAny_truthy_bool (wpAny_bind (wpAny_letGo ?_))))
      cases b with
      | false =>
        rw [if_neg (by decide)] at q
        obtain ⟨n', h, _⟩ := wake _ q s1 ⟨rfl, I1.bare, fun _ _ _ e => e, fun b hb => by cases hb⟩ trivial rfl
        cases h
      | true =>
        rw [if_pos rfl] at q
        exact wpAny_bind (wpAny_rule (wpAny_pure (fin s1 H1 true I1 (fun z => by cases z) (fun _ => q))))
  | succ n ih =>
    intro ys s G hb
    refine codeAny_builtin E0 ?_
    rw [Around.under_plainId F.plain_any_loop]
    refine wpAny_bind (thnF (gx_next M lnkN (by simp) (by simp) (A := A.in1) hh hd G hb (fun b hb => by cases hb) trivial) fun r s1 ⟨_, hN⟩ => ?_)
    cases r with
    | none =>
      obtain ⟨ys1, H1, I1, _, _, q1⟩ := hN
      exact wpAny_bind (wpAny_rule (wpAny_pure (fin s1 H1 false I1 (fun _ => ⟨ys1, q1⟩) (fun z => by cases z))))
    | some v =>
      obtain ⟨ys1, y, H1, Nx, I1, ry, _, _, ⟨b, rfl, q⟩, wake⟩ := hN
      cases ry
      refine wpAny_bind (wpAny_holding (wpAny_truthy_bool (wpAny_bind (wpAny_letGo ?_))))
      cases b with
      | false =>
        rw [if_neg (by decide)] at q
        obtain ⟨n', h, G'⟩ := wake _ q s1 ⟨rfl, I1.bare, fun _ _ _ e => e, fun b hb => by cases hb⟩ trivial rfl
        cases h
        exact wpAny_pure ⟨plainId_quiet F.plain_any_loop _, ih _ s1 G' I1.bare⟩
      | true =>
        rw [if_pos rfl] at q
        exact wpAny_bind (wpAny_rule (wpAny_pure (fin s1 H1 true I1 (fun z => by cases z) (fun _ => q))))
theorem gx_sum (M : GMk X pins σ sg Hg fp a g go) (hh : A.handled = none) (hd : A.depth < recursionLimit) (hSa : a ∉ [S]) (hSc : cStatics ∉ [S])
    (fin : ∀ (s' : Shared) (ys : List V) (H : Hp) (t : Tok), Inv X pins σ H s' → H S = none → Qe ys H → R (.ok (.ret (.int (sumV ys) t))) s') :
    ∀ (n : Nat) (ys : List V) (s : Shared), GRun (gcx X A1 sg Hg ce fp) [S] (LkS S) cyS Qe a g go A.in1.in1 n ys s → LkS S ys s.heap → AllBare s.gens → codeAny (model X.prog X.w) A (.builtin "sum.loop" ⟨[.ref a, .ref S, rawInt 0, rawInt 0], []⟩) R s := by
  have E0 := F.entry_sum_loop
  have cwt : ∀ {ys : List V} {s : Shared}, LkS S ys s.heap → ∀ b ∈ [S], ∃ o, s.heap.get? b = some o ∧ ∀ v, o.data ≠ .cell v := fun {ys s} lk b hb => by
    obtain ⟨t, c, e⟩ := lk
    rw [List.mem_singleton.mp hb]
    exact ⟨_, e, fun v z => by cases z⟩
  have turn : ∀ (n : Nat) (ys : List V) (s : Shared), GRun (gcx X A1 sg Hg ce fp) [S] (LkS S) cyS Qe a g go A.in1.in1 n ys s → LkS S ys s.heap → AllBare s.gens →
      (∀ ys2 s2, (∃ n', n = n' + 1 ∧ GRun (gcx X A1 sg Hg ce fp) [S] (LkS S) cyS Qe a g go A.in1.in1 n' ys2 s2) → LkS S ys2 s2.heap → AllBare s2.gens → codeAny (model X.prog X.w) A (.builtin "sum.loop" ⟨[.ref a, .ref S, rawInt 0, rawInt 0], []⟩) R s2) →
      codeAny (model X.prog X.w) A (.builtin "sum.loop" ⟨[.ref a, .ref S, rawInt 0, rawInt 0], []⟩) R s := by
    intro n ys s G lk hb next
    obtain ⟨t, c, eS⟩ := id lk
    refine codeAny_builtin E0 ?_
    rw [Around.under_plainId F.plain_sum_loop]
    show wpAny _ A.in1 (seqItems? (.ref S) >>= _) _ _ s
    refine wpAny_bind (wpAny_seqItems eS rfl ?_)
    show wpAny _ A.in1 (tryCatch (pyNext (.ref a)) _ >>= _) _ _ s
    refine wpAny_bind (wpAny_tryCatch (thnF (gx_next M (lnkS S) hSa hSc (A := A.in1) hh hd G hb (cwt lk) lk) fun r s1 ⟨kc, hN⟩ => ?_))
    have eS1 := kc S (List.mem_singleton.mpr rfl) _ eS
    cases r with
    | none =>
      obtain ⟨ys1, H1, I1, n1, ⟨t1, c1, e1⟩, q1⟩ := hN
      have hd1 := congrArg Obj.data (Option.some.inj (eS1.symm.trans e1))
      simp only [Data.seq.injEq, Array.mk.injEq, List.cons.injEq, Value.int.injEq, and_true] at hd1
      rw [hd1.1.1]
      exact wpAny_pure (fin s1 ys1 H1 _ I1 (n1 S (List.mem_singleton.mpr rfl)) q1)
    | some v =>
      obtain ⟨ys1, y, H1, Nx, I1, ry, n1, ⟨t1, c1, e1⟩, ⟨z, rfl, ⟨f1, f2⟩, ⟨f3, f4⟩, hN1⟩, wake⟩ := hN
      obtain ⟨tz, rfl⟩ := ry
      have hd1 := congrArg Obj.data (Option.some.inj (eS1.symm.trans e1))
      simp only [Data.seq.injEq, Array.mk.injEq, List.cons.injEq, Value.int.injEq, and_true] at hd1
      rw [hd1.1.1]
      have hc : ((decide (-(2 ^ 63) ≤ z) && decide (z < 2 ^ 63)) && (decide (-(2 ^ 63) ≤ sumV ys1 + z) && decide (sumV ys1 + z < 2 ^ 63))) = true := by
        simp only [Bool.and_eq_true, decide_eq_true_eq]
        exact ⟨⟨f1, f2⟩, f3, f4⟩
      show wpAny _ A.in1 (if (_ : Bool) = true then (mkInt (sumV ys1 + z) >>= _) else _) _ _ _
      split
      · refine wpAny_bind (wpAny_mkInt ?_)
        show wpAny _ A.in1 (updateSeq S (fun _ => #[.int (sumV ys1 + z) s1.toks]) >>= _) _ _ _
        have o1 := Heap.get?_update_self (Obj.mapSeq (fun _ => #[Value.int (sumV ys1 + z) s1.toks])) e1 rfl
        have lk2 : LkS S (ys1 ++ [.int z]) (s1.heap.update S (Obj.mapSeq (fun _ => #[Value.int (sumV ys1 + z) s1.toks]))) := ⟨s1.toks, _, by rw [sumV_snoc]; exact o1⟩
        refine wpAny_bind (wpAny_updateSeq e1 rfl (wpAny_pure ⟨plainId_quiet F.plain_sum_loop _, ?_⟩))
        refine next (ys1 ++ [.int z]) _ (wake _ hN1 { s1 with heap := s1.heap.update S (Obj.mapSeq (fun _ => #[Value.int (sumV ys1 + z) s1.toks])), toks := s1.toks + 1 } ⟨rfl, I1.bare, fun b o hb e => (Heap.get?_update_other _ _ (fun q => hb (List.mem_singleton.mpr q.symm))).trans e, cwt lk2⟩ lk2 rfl) lk2 I1.bare
      · rename_i hneg
        exact absurd hc hneg
  intro n
  induction n with
  | zero =>
    intro ys s G lk hb
    exact turn 0 ys s G lk hb fun ys2 s2 ⟨n', h, _⟩ => by cases h
  | succ n ih =>
    intro ys s G lk hb
    refine turn (n + 1) ys s G lk hb fun ys2 s2 ⟨n', h, G'⟩ lk2 hb2 => ?_
    cases h
    exact ih ys2 s2 G' lk2 hb2
end
end GXP
namespace GXP
open PySem PySem.Spec PyProof.Rows L2
section
variable {X : Cx} {pins : List (Addr × Obj)} {σ : L2.St} {a : Addr} {A : Around} {Qe : List V → Hp → Prop} {s : Shared} {m : Nat} {E : Value → Shared → Prop}
theorem gx_collect (hG : GReady X pins σ m cyT Qe a s) (hh : A.handled = none) (hf : A.frames = some X.stack) (hd : A.depth ≤ X.A.depth + 1) (hu : A.units + 2 ≤ X.A.units + 8) (hl : A.depth < recursionLimit) {Q : List Value → Shared → Prop}
    (hQ : ∀ (items : List Value) (s' : Shared) (ys : List V) (H : Hp), Inv X pins σ H s' → Vals ys items → ys.length ≤ sizeLine → Qe ys H → Q items s') : wpAny (model X.prog X.w) A (collect (.ref a)) Q E s := by
  obtain ⟨g, go, sg, Hg, fp, ce, M, I0, ha, lim, ready⟩ := hG.ex
  have hgen := fun (h : Heap) (e : h.get? a = some go) => M.isGen h e
  have hSa : s.heap.objs.size ≠ a := fun z => by
    have := Heap.lt_size ha
    rw [← z] at this
    exact Nat.lt_irrefl _ this
  have hSc : s.heap.objs.size ≠ cStatics := fun z => by
    obtain ⟨_, hn, _⟩ := lim
    have := hn.lt
    rw [← z] at this
    exact Nat.lt_irrefl _ this
  unfold collect
  refine wpAny_bind (wpAny_runValue (codeAny_builtin F.entry_proto_collect ?_))
  rw [Around.under_plainId F.plain_proto_collect]
  show wpAny _ A.in1 (newList [] >>= fun l => again (.builtin "list.__iadd__" ⟨[l, .ref a], []⟩)) _ _ s
  refine wpAny_bind (wpAny_newObj_type (wpAny_pure ⟨plainId_quiet F.plain_list_iadd _, codeAny_builtin F.entry_list_iadd ?_⟩))
  rw [Around.under_plainId F.plain_list_iadd]
  show wpAny _ A.in1 (Builtin.List.listExtendWith (.ref s.heap.objs.size) (.ref a) (.ref s.heap.objs.size)) _ _ _
  unfold Builtin.List.listExtendWith
  have k1 : ∀ b o, s.heap.get? b = some o → (s.heap.push { cls := .type "list", data := .seq ([] : List Value).toArray }).get? b = some o := fun b o e => Heap.get?_push_of_some _ e
  refine wpAny_bind (wpAny_typeOf (Heap.IsGen.typeIs (s := { s with heap := _ }) (hgen _ (k1 _ _ ha))) ?_)
  have q1 : Builtin.List.listSameRef (.ref s.heap.objs.size) (.ref a) = false := by simp [Builtin.List.listSameRef, hSa]
  have q2 : (Value.type "generator" == Value.type "list") = false := by decide
  have q3 : (Value.type "generator" == Value.type "tuple") = false := by decide
  simp only [q1, q2, q3, Bool.or_false, Bool.false_eq_true, if_false]
  refine wpAny_bind (wpAny_pyIter_gen (s := { s with heap := _ }) (hgen _ (k1 _ _ ha)) (wpAny_bind (wpAny_holding ?_)))
  unfold Builtin.List.listLengthHint
  refine wpAny_bind (wpAny_specialOf (Heap.IsGen.typeIs (s := { s with heap := _ }) (hgen _ (k1 _ _ ha))) F.gen_no_len ?_)
  show wpAny _ A.in1 (specialOf (Value.ref a) (Str.ofString "__length_hint__") >>= _) _ _ _
  refine wpAny_bind (wpAny_specialOf (Heap.IsGen.typeIs (s := { s with heap := _ }) (hgen _ (k1 _ _ ha))) F.gen_no_hint (wpAny_pure ?_))
  show wpAny _ A.in1 (rule "list.extend.makes-room" >>= fun _ => Builtin.List.listTouch (.ref s.heap.objs.size) >>= fun _ =>
    again (.builtin "list.extend.loop" ⟨[.ref s.heap.objs.size, .ref a, .ref s.heap.objs.size], []⟩)) _ _ _
  refine wpAny_bind (wpAny_rule (wpAny_bind ?_))
  have o1 : (s.heap.push { cls := .type "list", data := .seq ([] : List Value).toArray }).get? s.heap.objs.size = some { cls := .type "list", data := .seq ([] : List Value).toArray } := Heap.get?_push_size _ rfl
  show wpAny _ A.in1 (updateSeq s.heap.objs.size (·.push .none) >>= fun _ => updateSeq s.heap.objs.size (·.pop)) _ _ _
  refine wpAny_bind (wpAny_updateSeq o1 rfl ?_)
  have o2 := Heap.get?_update_self (Obj.mapSeq (·.push Value.none)) o1 rfl
  refine wpAny_updateSeq o2 rfl (wpAny_pure ⟨plainId_quiet F.plain_extend_loop _, ?_⟩)
  have o3 := Heap.get?_update_self (Obj.mapSeq (·.pop)) o2 rfl
  have k3 : ∀ b o, s.heap.get? b = some o → (((s.heap.push { cls := .type "list", data := .seq ([] : List Value).toArray }).update s.heap.objs.size (Obj.mapSeq (·.push Value.none))).update s.heap.objs.size (Obj.mapSeq (·.pop))).get? b = some o := fun b o e =>
    have hb : s.heap.objs.size ≠ b := fun z => Nat.lt_irrefl b (by have := Heap.lt_size e; rw [z] at this; exact this)
    (Heap.get?_update_other _ _ hb).trans ((Heap.get?_update_other _ _ hb).trans (k1 b o e))
  have lk0 : LkT s.heap.objs.size [] (((s.heap.push { cls := .type "list", data := .seq ([] : List Value).toArray }).update s.heap.objs.size (Obj.mapSeq (·.push Value.none))).update s.heap.objs.size (Obj.mapSeq (·.pop))) := ⟨_, _, o3, .nil, Nat.zero_le _⟩
  have G := ready [s.heap.objs.size] (LkT s.heap.objs.size) A.in1.in1 { s with heap := ((s.heap.push { cls := .type "list", data := .seq ([] : List Value).toArray }).update s.heap.objs.size (Obj.mapSeq (·.push Value.none))).update s.heap.objs.size (Obj.mapSeq (·.pop)) } (lnkT _) hh hf hd hu
    (fun b hb => by rw [List.mem_singleton.mp hb]; exact Nat.le_refl _) k3 (fun b hb => by rw [List.mem_singleton.mp hb]; exact ⟨_, o3, fun v z => by cases z⟩) rfl rfl lk0
  refine gx_drain M hh hl (fun hm => hSa (List.mem_singleton.mp hm).symm) (fun hm => hSc (List.mem_singleton.mp hm).symm) (fun s' ys H acc c I' n' e' r' z' q' => ?_) m [] _ G lk0 I0.bare
  show wpAny _ A (load s.heap.objs.size >>= _) _ _ s'
  exact wpAny_bind (wpAny_load e' (wpAny_pure (hQ acc.toList s' ys H I' r' z' q')))
theorem call_tuple_gx (hr : Room 1 X.A) (hf : X.A.frames = some X.stack) {Q : VK} (hG : GReady X pins σ m cyT (fun ys H => ∀ p, H p = none → Q (.ref p) (upd H p (.tup ys))) a s) :
    wpAny (model X.prog X.w) X.A (call (.type "tuple") [.ref a]) (EP X pins σ Q) E s := by
  obtain ⟨g, go, sg, Hg, fp, ce, M, I0, ha, lim, ready⟩ := id hG.ex
  have hTI : s.TypeIs (.ref a) "generator" := (M.isGen _ ha).typeIs
  refine callType_codes (Q₁ := fun obj s1 => s1.TypeIs obj "tuple" ∧ EP X pins σ Q obj s1) F.called_tuple (F.typeCall_tuple_1 _) F.entry_object_init (codeAny_of_tree ?_) fun obj s1 h1 =>
    ⟨h1.1, F.args_object_init_2 obj _, object_init_meets F.called_tuple.init.lookup F.called_tuple.made (by decide) X.prog X.w X.A.in1 _ s1 ⟨h1.1, rfl, h1.2⟩⟩
  show wpAny _ X.A.in1.in1 (do checkBuiltinCall "tuple.__new__" ⟨[.type "tuple", .ref a], []⟩; again (.builtin "tuple.__new__" ⟨[.type "tuple", .ref a], []⟩)) _ _ s
  refine wpAny_bind (wpAny_of_eq (F.newCall_tuple_1 _) (wpAny_pure ⟨plainId_quiet F.plain_tuple_new _, codeAny_builtin F.entry_tuple_new ?_⟩))
  rw [Around.under_plainId F.plain_tuple_new]
  have hsub := sub_tuple_self
  have hinit := init_tuple_lookup
  have hmh := madeHere_tuple
  have hr1 := hr.dp
  have hr2 := hr.hd
  have col := fun (Q : List Value → Shared → Prop) (E : Value → Shared → Prop) hQ => gx_collect (A := X.A.in1.in1) (E := E) (Q := Q) hG hr2 hf (Nat.le_succ _) (by show X.A.units + 1 + 1 + 2 ≤ _; omega) (by show X.A.depth < _; omega) hQ
  wp_walk using wpAny_typeOf hTI, col
  intro items s' ys H I' r' z' q'
  show wpAny _ _ (Builtin.Tuple.tupleExact items.toArray >>= fun v => ret v) _ _ _
  unfold Builtin.Tuple.tupleExact
  refine wpAny_bind (wpAny_newObj_type (wpAny_pure ?_) ?_)
  · have hn : H s'.heap.objs.size = none := I'.hok.fresh (Nat.le_refl _)
    refine ⟨⟨_, Heap.get?_push_size _ rfl, rfl⟩, .ref s'.heap.objs.size, _, I'.laid (t' := s'.toks) (o := .tup ys) (fun b o e => Heap.get?_push_of_some _ e) (Nat.le_refl _) ⟨z', items, r', ?_⟩, rfl, q' _ hn⟩
    exact ⟨_, Heap.get?_push_size _ rfl, rfl, 0, rfl⟩
  · show items.toArray.size ≤ sizeLine
    rw [List.size_toArray, ← r'.length]
    exact z'
theorem call_all_gx (hr : Room 1 X.A) (hf : X.A.frames = some X.stack) {Q : VK} (hG : GReady X pins σ m (cyB false (Q (.bl false))) (fun _ H => Q (.bl true) H) a s) :
    wpAny (model X.prog X.w) X.A (call (.builtin "all") [.ref a]) (EP X pins σ Q) E s := by
  obtain ⟨g, go, sg, Hg, fp, ce, M, I0, ha, lim, ready⟩ := id hG.ex
  have hr1 := hr.dp
  refine call_function_tree F.kind_all F.plain_all F.entry_all (F.args_all1 _) ?_
  unfold Builtin.«all»
  refine wpAny_bind (m := oneArg "all" _) (wpAny_pure (wpAny_bind (wpAny_pyIter_gen (M.isGen _ ha) (wpAny_pure ⟨plainId_quiet F.plain_all_loop _, ?_⟩))))
  have G := ready [] (fun _ _ => True) X.A.in1.in1 s lnkN hr.hd hf (Nat.le_succ _) (by show X.A.units + 1 + 1 ≤ _; omega) (fun b hb => by cases hb) (fun _ _ e => e) (fun b hb => by cases hb) rfl rfl trivial
  refine gx_all M hr.hd (by omega) (fun s' H b I' h1 h2 => ?_) m [] s G I0.bare
  cases b with
  | true =>
    obtain ⟨_, q⟩ := h1 rfl
    exact ⟨.bl true, H, I', rfl, q⟩
  | false => exact ⟨.bl false, H, I', rfl, h2 rfl⟩
theorem call_any_gx (hr : Room 1 X.A) (hf : X.A.frames = some X.stack) {Q : VK} (hG : GReady X pins σ m (cyB true (Q (.bl true))) (fun _ H => Q (.bl false) H) a s) :
    wpAny (model X.prog X.w) X.A (call (.builtin "any") [.ref a]) (EP X pins σ Q) E s := by
  obtain ⟨g, go, sg, Hg, fp, ce, M, I0, ha, lim, ready⟩ := id hG.ex
  have hr1 := hr.dp
  refine call_function_tree F.kind_any F.plain_any F.entry_any (F.args_any1 _) ?_
  unfold Builtin.«any»
  refine wpAny_bind (m := oneArg "any" _) (wpAny_pure (wpAny_bind (wpAny_pyIter_gen (M.isGen _ ha) (wpAny_pure ⟨plainId_quiet F.plain_any_loop _, ?_⟩))))
  have G := ready [] (fun _ _ => True) X.A.in1.in1 s lnkN hr.hd hf (Nat.le_succ _) (by show X.A.units + 1 + 1 ≤ _; omega) (fun b hb => by cases hb) (fun _ _ e => e) (fun b hb => by cases hb) rfl rfl trivial
  refine gx_any M hr.hd (by omega) (fun s' H b I' h1 h2 => ?_) m [] s G I0.bare
  cases b with
  | false =>
    obtain ⟨_, q⟩ := h1 rfl
    exact ⟨.bl false, H, I', rfl, q⟩
  | true => exact ⟨.bl true, H, I', rfl, h2 rfl⟩
theorem call_sum_gx (hr : Room 1 X.A) (hf : X.A.frames = some X.stack) {Q : VK} (hG : GReady X pins σ m cyS (fun ys H => Q (.int (sumV ys)) H) a s) :
    wpAny (model X.prog X.w) X.A (call (.builtin "sum") [.ref a]) (EP X pins σ Q) E s := by
  obtain ⟨g, go, sg, Hg, fp, ce, M, I0, ha, lim, ready⟩ := id hG.ex
  have hr1 := hr.dp
  have hSa : s.heap.objs.size ≠ a := fun z => by
    have := Heap.lt_size ha
    rw [← z] at this
    exact Nat.lt_irrefl _ this
  have hSc : s.heap.objs.size ≠ cStatics := fun z => by
    obtain ⟨_, hn, _⟩ := lim
    have := hn.lt
    rw [← z] at this
    exact Nat.lt_irrefl _ this
  refine call_function_tree F.kind_sum F.plain_sum F.entry_sum (F.args_sum1 _) ?_
  unfold Builtin.«sum»
  simp only [List.length_cons, List.length_nil]; rw [if_neg (by decide)]
  refine wpAny_bind (wpAny_of_eq (show Builtin.Builtins.bindParams "sum" ["start"] 0 { } = pure [none] from rfl) (wpAny_bind (wpAny_pyIter_gen (M.isGen _ ha) (wpAny_bind (wpAny_mkInt (wpAny_bind (wpAny_pure ?_)))))))
  simp only [List.forIn_cons, List.forIn_nil]; refine wpAny_bind (wpAny_bind (wpAny_bind (wpAny_isInstance (T := "int") (b := false) (typeIs_int _ _ _) PySem.sub_int_str ?_)))
  simp only [Bool.false_eq_true, if_false]; refine wpAny_pure (wpAny_bind (wpAny_bind (wpAny_isInstance (T := "int") (b := false) (typeIs_int _ _ _) sub_int_bytes ?_)))
  simp only [Bool.false_eq_true, if_false]; refine wpAny_pure (wpAny_bind (wpAny_bind (wpAny_isInstance (T := "int") (b := false) (typeIs_int _ _ _) sub_int_bytearray ?_)))
  simp only [Bool.false_eq_true, if_false]; refine wpAny_pure (wpAny_pure (wpAny_bind (wpAny_newObj_type (wpAny_pure ⟨plainId_quiet F.plain_sum_loop _, ?_⟩))))
  have o1 : (s.heap.push { cls := .type "list", data := .seq ([.int 0 s.toks] : List Value).toArray }).get? s.heap.objs.size = some { cls := .type "list", data := .seq ([.int 0 s.toks] : List Value).toArray } := Heap.get?_push_size _ rfl
  have lk0 : LkS s.heap.objs.size [] (s.heap.push { cls := .type "list", data := .seq ([.int 0 s.toks] : List Value).toArray }) := ⟨s.toks, 0, o1⟩
  have G := ready [s.heap.objs.size] (LkS s.heap.objs.size) X.A.in1.in1 { s with heap := s.heap.push { cls := .type "list", data := .seq ([.int 0 s.toks] : List Value).toArray }, toks := s.toks + 1 } (lnkS _) hr.hd hf (Nat.le_succ _) (by show X.A.units + 1 + 1 ≤ _; omega)
    (fun b hb => by rw [List.mem_singleton.mp hb]; exact Nat.le_refl _) (fun b o e => Heap.get?_push_of_some _ e) (fun b hb => by rw [List.mem_singleton.mp hb]; exact ⟨_, o1, fun v z => by cases z⟩) rfl rfl lk0
  refine gx_sum M hr.hd (by omega) (fun hm => hSa (List.mem_singleton.mp hm).symm) (fun hm => hSc (List.mem_singleton.mp hm).symm) (fun s' ys H t I' n' q' => ?_) m [] _ G lk0 I0.bare
  exact ⟨.int (sumV ys), H, I', ⟨t, rfl⟩, q'⟩
end
end GXP
namespace GXP
open PySem PySem.Spec PyProof.Rows L2
/-- F(elt for target in iter if ..): what its reading asks; P the table of the def's code object -/
def tGx (P : Addr) (wi : TI) (g : TG) (tt : TT) (te : TE) (vs : List Nat) (cy : VK → Cy) (Qe : VK → List V → Hp → Prop) : TE := fun σ H Q =>
  wi σ H fun J H1 => GxR.TabG H1 P ∧ ∀ H2, GxR.Tabbed P H1 H2 → ∃ W m, W 0 m [] H2 ∧ Turns J g tt te vs σ (cy Q) (Qe Q) W
section
variable {X : Cx} {c P : Addr} {elt iter tg : Expr} {ifs : List Expr} {scope : Scope} {p pos gpos : Pos} {own : List (Str × Nat)} {wi : TI} {g : TG} {tt : TT} {te : TE} {k : Nat}
/-- what is asked of the expression itself -/
structure GxOk (X : Cx) (k : Nat) (c P : Addr) (elt tg iter : Expr) (ifs : List Expr) (scope : Scope) (own : List (Str × Nat)) (wi : TI) (g : TG) (tt : TT) (te : TE) : Prop where
  hr : Room (k + 1) X.A
  hc : X.calm = true
  tb : LamX.TabB X.base X.mg c P
  code : X.env.code = .ref c
  co : scope.isCoroutine = false
  ok : BlkOk X.N X.env.scope scope own
  nd : X.N.Nodup
  nocell : ∀ y ∈ scope.names, y.2 ≠ .cell
  dot : scope.names.lookup (".0" : Str) = some NameKind.local
  pi : PI X tg iter wi
  pg : ∀ (A : Around) (s : Shared) (H : Hp) (C : Addr) (cl : List (Str × Addr)) (code : Value) (bi : Addr) (fp : List Addr), Room k A → PG (gcx X A s H (genEnv scope cl C code bi X.env) fp) tg g
  pt : ∀ (A : Around) (s : Shared) (H : Hp) (C : Addr) (cl : List (Str × Addr)) (code : Value) (bi : Addr) (fp : List Addr), Room k A → PTs (gcx X A s H (genEnv scope cl C code bi X.env) fp) ifs tt
  pe : ∀ (A : Around) (s : Shared) (H : Hp) (C : Addr) (cl : List (Str × Addr)) (code : Value) (bi : Addr) (fp : List Addr), Room k A → PE (gcx X A s H (genEnv scope cl C code bi X.env) fp) elt te
  fold : ∀ v, genFold iter X.env v = pure v
theorem GxOk.make (G : GxOk X k c P elt tg iter ifs scope own wi g tt te) {cy : Cy} {Qe : List V → Hp → Prop} {pins : List (Addr × Obj)} {s : Shared} {σ : L2.St} {H : Hp} (I : Inv X pins σ H s)
    (h : wi σ H fun J H1 => GxR.TabG H1 P ∧ ∀ H2, GxR.Tabbed P H1 H2 → ∃ W m, W 0 m [] H2 ∧ Turns J g tt te (own.map (·.2)) σ cy Qe W) :
    wpAny (model X.prog X.w) X.A (eval (gxE elt tg iter ifs scope gpos) X.env) (fun u s' => ∃ a m, u = .ref a ∧ GReady X pins σ m cy Qe a s') X.xe s :=
  gx_make G.hr G.tb G.code G.co G.ok G.nd G.nocell G.dot G.pi G.pg G.pt G.pe G.fold I h
theorem pe_tupleGx (hg : Gl X "tuple") (hm : X.mg "tuple" = none) (G : GxOk X k c P elt tg iter ifs scope own wi g tt te)
    (he : starEach [gxE elt tg iter ifs scope gpos] X.env = (false, eval (gxE elt tg iter ifs scope gpos) X.env) :: starEach [] X.env := by rfl) :
    PE X (.Call (.Name "tuple" p) [gxE elt tg iter ifs scope gpos] [] pos) (tGx P wi g tt te (own.map (·.2)) (fun _ => cyT) fun Q ys H => ∀ p, H p = none → Q (.ref p) (upd H p (.tup ys))) := by
  refine ⟨fun pins s σ H Q I h => ?_⟩
  refine wpAny_Call_Name_kw (ld_blt I hg hm (by decide +kernel : bootBuiltins "tuple" = some (.type "tuple")) (PyProof.Rows.callWith_type1 ?_ he (by rfl)))
  rw [he]
  show wpAny _ _ (spliced ((false, eval (gxE elt tg iter ifs scope gpos) X.env) :: backTo pos (starEach [] X.env))) _ _ s
  exact Calls.spliced_cons (thn (G.make I h) fun u s1 ⟨a, m, e, hG⟩ => e ▸ Calls.spliced_nil (call_tuple_gx (G.hr.mono (by omega)) I.ok.frames hG))
theorem pe_allGx (hg : Gl X "all") (hm : X.mg "all" = none) (G : GxOk X k c P elt tg iter ifs scope own wi g tt te)
    (he : starEach [gxE elt tg iter ifs scope gpos] X.env = (false, eval (gxE elt tg iter ifs scope gpos) X.env) :: starEach [] X.env := by rfl) :
    PE X (.Call (.Name "all" p) [gxE elt tg iter ifs scope gpos] [] pos) (tGx P wi g tt te (own.map (·.2)) (fun Q => cyB false (Q (.bl false))) fun Q _ H => Q (.bl true) H) := by
  refine ⟨fun pins s σ H Q I h => ?_⟩
  refine wpAny_Call_Name_kw (ld_blt I hg hm (by decide +kernel : bootBuiltins "all" = some (.builtin "all")) (PyProof.Rows.callWith_builtin1 ?_ he (by rfl)))
  rw [he]
  show wpAny _ _ (spliced ((false, eval (gxE elt tg iter ifs scope gpos) X.env) :: backTo pos (starEach [] X.env))) _ _ s
  exact Calls.spliced_cons (thn (G.make I h) fun u s1 ⟨a, m, e, hG⟩ => e ▸ Calls.spliced_nil (call_all_gx (G.hr.mono (by omega)) I.ok.frames hG))
theorem pe_anyGx (hg : Gl X "any") (hm : X.mg "any" = none) (G : GxOk X k c P elt tg iter ifs scope own wi g tt te)
    (he : starEach [gxE elt tg iter ifs scope gpos] X.env = (false, eval (gxE elt tg iter ifs scope gpos) X.env) :: starEach [] X.env := by rfl) :
    PE X (.Call (.Name "any" p) [gxE elt tg iter ifs scope gpos] [] pos) (tGx P wi g tt te (own.map (·.2)) (fun Q => cyB true (Q (.bl true))) fun Q _ H => Q (.bl false) H) := by
  refine ⟨fun pins s σ H Q I h => ?_⟩
  refine wpAny_Call_Name_kw (ld_blt I hg hm (by decide +kernel : bootBuiltins "any" = some (.builtin "any")) (PyProof.Rows.callWith_builtin1 ?_ he (by rfl)))
  rw [he]
  show wpAny _ _ (spliced ((false, eval (gxE elt tg iter ifs scope gpos) X.env) :: backTo pos (starEach [] X.env))) _ _ s
  exact Calls.spliced_cons (thn (G.make I h) fun u s1 ⟨a, m, e, hG⟩ => e ▸ Calls.spliced_nil (call_any_gx (G.hr.mono (by omega)) I.ok.frames hG))
theorem pe_sumGx (hg : Gl X "sum") (hm : X.mg "sum" = none) (G : GxOk X k c P elt tg iter ifs scope own wi g tt te)
    (he : starEach [gxE elt tg iter ifs scope gpos] X.env = (false, eval (gxE elt tg iter ifs scope gpos) X.env) :: starEach [] X.env := by rfl) :
    PE X (.Call (.Name "sum" p) [gxE elt tg iter ifs scope gpos] [] pos) (tGx P wi g tt te (own.map (·.2)) (fun _ => cyS) fun Q ys H => Q (.int (sumV ys)) H) := by
  refine ⟨fun pins s σ H Q I h => ?_⟩
  refine wpAny_Call_Name_kw (ld_blt I hg hm (by decide +kernel : bootBuiltins "sum" = some (.builtin "sum")) (PyProof.Rows.callWith_builtin1 ?_ he (by rfl)))
  rw [he]
  show wpAny _ _ (spliced ((false, eval (gxE elt tg iter ifs scope gpos) X.env) :: backTo pos (starEach [] X.env))) _ _ s
  exact Calls.spliced_cons (thn (G.make I h) fun u s1 ⟨a, m, e, hG⟩ => e ▸ Calls.spliced_nil (call_sum_gx (G.hr.mono (by omega)) I.ok.frames hG))
end
/-! readings over a list, a tuple, a range: an invariant by the turn, the items so far, the heap -/
section
variable {K : PySem.W.Frag} {a : Addr} {xs : List V} {g : TG} {tt : TT} {te : TE} {vs : List Nat} {σ : L2.St} {cy : Cy} {Qe : List V → Hp → Prop} {H0 : Hp}
theorem gx_tup (Pv : Nat → List V → Hp → Prop) (h0 : Pv 0 [] H0) (hl : ∀ i ys H, i ≤ xs.length → Pv i ys H → SqT K H a xs)
    (hs : ∀ i x ys H, xs[i]? = some x → Pv i ys H → g x (wipe σ vs) H fun σ2 H2 => wipe σ2 vs = wipe σ vs ∧ tt σ2 H2 fun b H3 => if b = true then te σ2 H3 fun y H4 => cy ys y H4 (Pv (i + 1)) else Pv (i + 1) ys H3)
    (hd : ∀ ys H, Pv xs.length ys H → Qe ys H) : ∃ W m, W 0 m [] H0 ∧ Turns (Itt K a) g tt te vs σ cy Qe W := by
  refine ⟨fun i m ys H => m = xs.length - i ∧ i ≤ xs.length ∧ Pv i ys H, xs.length, ⟨rfl, Nat.zero_le _, h0⟩, ?_⟩
  rintro i m ys H ⟨rfl, hi, p⟩
  have q := hl i ys H hi p
  by_cases hlt : i < xs.length
  · refine .inr ⟨⟨xs, _, q, List.getElem?_eq_getElem hlt⟩, by omega, Pv (i + 1), fun ys' H' p' => ⟨_, by omega, rfl, hlt, p'⟩, fun x H' y => ?_⟩
    obtain ⟨rfl, y⟩ := y
    exact hs i x ys _ (y xs q) p
  · have e : i = xs.length := by omega
    subst e
    exact .inl ⟨⟨xs, q, Nat.le_refl _⟩, hd ys H p⟩
theorem gx_list (Pv : Nat → List V → Hp → Prop) (h0 : Pv 0 [] H0) (hl : ∀ i ys H, i ≤ xs.length → Pv i ys H → SqL K H a xs)
    (hs : ∀ i x ys H, xs[i]? = some x → Pv i ys H → g x (wipe σ vs) H fun σ2 H2 => wipe σ2 vs = wipe σ vs ∧ tt σ2 H2 fun b H3 => if b = true then te σ2 H3 fun y H4 => cy ys y H4 (Pv (i + 1)) else Pv (i + 1) ys H3)
    (hd : ∀ ys H, Pv xs.length ys H → Qe ys H) : ∃ W m, W 0 m [] H0 ∧ Turns (Itl K a) g tt te vs σ cy Qe W := by
  refine ⟨fun i m ys H => m = xs.length - i ∧ i ≤ xs.length ∧ Pv i ys H, xs.length, ⟨rfl, Nat.zero_le _, h0⟩, ?_⟩
  rintro i m ys H ⟨rfl, hi, p⟩
  have q := hl i ys H hi p
  by_cases hlt : i < xs.length
  · refine .inr ⟨⟨xs, _, q, List.getElem?_eq_getElem hlt⟩, by omega, Pv (i + 1), fun ys' H' p' => ⟨_, by omega, rfl, hlt, p'⟩, fun x H' y => ?_⟩
    obtain ⟨rfl, y⟩ := y
    exact hs i x ys _ (y xs q) p
  · have e : i = xs.length := by omega
    subst e
    exact .inl ⟨⟨xs, q, Nat.le_refl _⟩, hd ys H p⟩
theorem gx_range {lo : Int} {n : Nat} (Pv : Nat → List V → Hp → Prop) (h0 : Pv 0 [] H0)
    (hs : ∀ i ys H, i < n → Pv i ys H → g (.int (lo + i)) (wipe σ vs) H fun σ2 H2 => wipe σ2 vs = wipe σ vs ∧ tt σ2 H2 fun b H3 => if b = true then te σ2 H3 fun y H4 => cy ys y H4 (Pv (i + 1)) else Pv (i + 1) ys H3)
    (hd : ∀ ys H, Pv n ys H → Qe ys H) : ∃ W m, W 0 m [] H0 ∧ Turns (Itr lo n) g tt te vs σ cy Qe W := by
  refine ⟨fun i m ys H => m = n - i ∧ i ≤ n ∧ Pv i ys H, n, ⟨rfl, Nat.zero_le _, h0⟩, ?_⟩
  rintro i m ys H ⟨rfl, hi, p⟩
  by_cases hlt : i < n
  · refine .inr ⟨hlt, by omega, Pv (i + 1), fun ys' H' p' => ⟨_, by omega, rfl, hlt, p'⟩, fun x H' y => ?_⟩
    obtain ⟨rfl, rfl⟩ := y
    exact hs i ys _ hlt p
  · have e : i = n := by omega
    subst e
    exact .inl ⟨Nat.le_refl _, hd ys H p⟩
end
end GXP
/-! ### sorted(d) of a dict whose keys are pairs of ints, any number of them -/
namespace SDT
open PySem PySem.Spec PyProof.Rows L2
def keyAt (H : Hp) (b : Addr) : Int × Int := match H b with
  | some (.tup [.int i, .int j]) => (i, j)
  | _ => (0, 0)
def keyOf (H : Hp) (v : Value) : Int × Int := match v with
  | .ref b => keyAt H b
  | _ => (0, 0)
theorem keyAt_of {H : Hp} {b : Addr} {i j : Int} (e : H b = some (.tup [.int i, .int j])) : keyAt H b = (i, j) := by
  unfold keyAt
  rw [e]
def pairKey (k : Int × Int) : List Key := [Sum.inl k.1, Sum.inl k.2]
/-- b holds the pair k -/
abbrev PairAt (H : Hp) (k : Int × Int) (b : Addr) : Prop := H b = some (.tup [.int k.1, .int k.2])
def rSortedDT : List V → Hp → VK → Prop := fun vs H Q => ∃ (d : Addr) (kvs : List (List Key × V)) (ks : List (Int × Int)), vs = [V.ref d] ∧ Rd H d (.dT kvs) ∧ kvs.map (·.1) = ks.map pairKey ∧
  ∀ (ys : List (Int × Int)) (bs : List Addr) (p : Addr), ys.Perm ks → ys.Pairwise (fun x y => SrtO.lexB y x = false) → Paired (PairAt H) ys bs → H p = none → Q (.ref p) (upd H p (.lst (bs.map V.ref)))
theorem paired_keys {H : Hp} : ∀ {kvs : List (List Key × V)} {xs : List (List Key × Addr × Value)} {ks : List (Int × Int)}, KT H kvs xs → kvs.map (·.1) = ks.map pairKey → (∀ x ∈ xs, ∃ k : Int × Int, PairAt H k x.2.1) ∧ xs.map (fun x => keyAt H x.2.1) = ks
  | _, _, [], .nil, _ => ⟨fun x m => absurd m List.not_mem_nil, rfl⟩
  | _, _, _ :: _, .nil, e => by cases e
  | _, _, [], .cons _ _, e => by cases e
  | _, _, k :: ks, .cons h t, e => by
    obtain ⟨e1, e2⟩ := List.cons.inj e
    obtain ⟨h1, h2, _⟩ := h
    dsimp only at e1
    rw [e1] at h2
    have q : PairAt H k _ := h2
    obtain ⟨r1, r2⟩ := paired_keys t e2
    refine ⟨fun x m => ?_, ?_⟩
    · rcases List.mem_cons.mp m with rfl | m
      · exact ⟨k, q⟩
      · exact r1 x m
    · rw [List.map_cons, keyAt_of q, r2]
theorem paired_of {H : Hp} : ∀ {bs : List Addr}, (∀ b ∈ bs, ∃ k : Int × Int, PairAt H k b) → Paired (PairAt H) (bs.map (keyAt H)) bs
  | [], _ => .nil
  | b :: bs, h => by
    refine .cons ?_ (paired_of fun x m => h x (List.mem_cons_of_mem _ m))
    obtain ⟨k, e⟩ := h b List.mem_cons_self
    rw [keyAt_of e]
    exact e
theorem refs_of : ∀ {us : List Value}, (∀ u ∈ us, ∃ a, u = Value.ref a) → ∃ bs : List Addr, us = bs.map Value.ref
  | [], _ => ⟨[], rfl⟩
  | u :: us, h => by
    obtain ⟨bs, e⟩ := refs_of (us := us) fun x m => h x (List.mem_cons_of_mem _ m)
    obtain ⟨a, e2⟩ := h u List.mem_cons_self
    exact ⟨a :: bs, by rw [e, e2]; rfl⟩
section
variable {X : Cx}
theorem cr_sortedDT (hc : X.calm = true) : CallR X (.builtin "sorted") rSortedDT := by
  intro pins s σ H xs us Q I r h
  obtain ⟨d, kvs, ks, rfl, hd, hks, q⟩ := h
  obtain ⟨u, rfl, rx⟩ := vals1 r
  cases rx
  obtain ⟨z, hs, ps, pr, o, es, ep, ho, hx, hdt, he, hn⟩ := (show ObjOk X.prog X.w H s.heap d (.dT kvs) from hd.ok I.hok)
  have l1 : es.size = ps.length := size_of_entries he
  have l2 : kvs.length = ps.length := Paired.length pr
  obtain ⟨pk, ek⟩ := paired_keys pr hks
  refine Calls.call_function_entry PyProof.Rows.kind_sorted PyProof.Rows.plain_sorted PyProof.Rows.entry_sorted (PyProof.Rows.args_sorted1 _) ?_
  unfold Builtin.«sorted»
  refine wpAny_bind (m := checkCount "sorted" 1 1 _) (wpAny_pure ?_)
  refine wpAny_bind (PySem.W.kdu_collect (A := X.A.in1) (kdl_raw hs hx hdt) (I.ok.hd hc) ho (by omega) fun h' tk acc hk it => ?_)
  have ea : acc.toList = ps.map fun x => Value.ref x.2.1 := by
    have hl : acc.toList.length = ps.length := by rw [Array.length_toList, it.1]; exact l1
    apply List.ext_getElem?
    intro j
    rw [List.getElem?_map]
    cases hj : acc.toList[j]? with
    | none =>
      have h1 := List.getElem?_eq_none_iff.mp hj
      rw [List.getElem?_eq_none (by omega)]
      all_goals rfl
    | some v =>
      obtain ⟨en, hen, hv⟩ := it.2 j v (by rw [← Array.getElem?_toList]; exact hj)
      have qe := entry_at he j
      rw [hen] at qe
      cases hb : ps[j]? with
      | none =>
        rw [hb] at qe
        exact nomatch (show some en = none from qe)
      | some b =>
        rw [hb] at qe
        have e2 : en = entryOfKey (tupleKind (mixKind X.prog X.w)) b := Option.some.inj qe
        rw [hv, e2]
        all_goals rfl
  have hal : acc.toList.length = ps.length := by rw [ea, List.length_map]
  have I1 : Inv X pins σ H { s with heap := h', toks := tk } := I.kept hk
  refine wpAny_bind (wpAny_newList ?_ (by rw [hal]; omega))
  have hoL : (h'.push (seqObj "list" acc.toList.toArray 0)).get? h'.objs.size = some (seqObj "list" acc.toList.toArray 0) := Heap.get?_push_size _ rfl
  show wpAny _ _ _ _ _ { s with heap := h'.push (seqObj "list" acc.toList.toArray 0), toks := tk }
  have pair : ∀ v ∈ acc.toList, Srt.IsPair (h'.push (seqObj "list" acc.toList.toArray 0)) v (keyOf H v).1 (keyOf H v).2 := fun v m => by
    rw [ea] at m
    obtain ⟨x, hm, rfl⟩ := List.mem_map.mp m
    obtain ⟨k, hk2⟩ := pk x hm
    obtain ⟨_, its2, r2, o2, ho2, hc2, n2, hd2⟩ := I1.hok _ _ hk2
    obtain ⟨u1, u2, rfl, ri, rj⟩ := vals2 r2
    obtain ⟨t1, rfl⟩ := ri
    obtain ⟨t2, rfl⟩ := rj
    have e : keyOf H (Value.ref x.2.1) = k := keyAt_of hk2
    rw [e]
    exact ⟨x.2.1, o2, t1, t2, n2, rfl, Heap.get?_push_of_some _ ho2, hc2, hd2⟩
  refine wpAny_bind (wpAny_holding (wpAny_call_entry PyProof.Rows.slot_list_sort ⟨_, hoL, rfl⟩ PyProof.Rows.entry_list_sort
    (SrtO.list_sort_ord (s := { s with heap := h'.push (seqObj "list" acc.toList.toArray 0), toks := tk }) (SrtO.swo_lex (keyOf H)) hoL (by rw [hal]; omega)
      (fun h2 => SrtO.pairs_sortableO (by omega) pair fun o1 e c => ?_) fun out h1 h2 => ⟨_, rfl, ?_⟩)
    (PyProof.Rows.args_list_sort _)))
  · have e' : some o1 = some (seqObj "list" acc.toList.toArray 0) := e.symm.trans hoL
    cases e'
    exact absurd (Value.type.inj c) (by decide)
  obtain ⟨e', he'⟩ := PyProof.Rows.sortedHeap_at (vs := acc.toList) (out := out.toArray) hoL
  have hm : ∀ u ∈ out, ∃ x ∈ ps, u = Value.ref x.2.1 := fun u hu => by
    have := h2.perm.mem_iff.mp hu
    rw [ea] at this
    obtain ⟨x, hx, e⟩ := List.mem_map.mp this
    exact ⟨x, hx, e.symm⟩
  obtain ⟨bs, rfl⟩ := refs_of (us := out) fun u hu => by
    obtain ⟨x, _, e⟩ := hm u hu
    exact ⟨_, e⟩
  have hb : ∀ b ∈ bs, ∃ k : Int × Int, PairAt H k b := fun b hb => by
    obtain ⟨x, hx, e⟩ := hm _ (List.mem_map.mpr ⟨b, hb, rfl⟩)
    cases e
    exact pk x hx
  have ev : (bs.map Value.ref).map (keyOf H) = bs.map (keyAt H) := by
    rw [List.map_map]
    rfl
  have hp : (bs.map (keyAt H)).Perm ks := by
    have := h2.perm.map (keyOf H)
    rw [ev, ea, List.map_map] at this
    rw [← ek]
    exact this
  have hsr : (bs.map (keyAt H)).Pairwise fun x y => SrtO.lexB y x = false := by
    rw [← ev]
    exact SrtO.srtd_map (f := keyOf H) (lt := SrtO.lexB) h1
  have hlen : (bs.map V.ref).length ≤ sizeLine := by
    have := h2.perm.length_eq
    rw [List.length_map] at this
    rw [List.length_map]
    omega
  refine wpAny_pure ⟨_, rfl, .ref h'.objs.size, upd H h'.objs.size (.lst (bs.map V.ref)), I1.laid (t' := tk) (fun b u e => ?_) (Nat.le_refl _)
    (show ObjOk X.prog X.w _ _ _ (.lst (bs.map V.ref)) from ⟨hlen, bs.map Value.ref, e', vals_refs bs, he'⟩), rfl, q _ bs _ hp hsr (paired_of hb) (I1.hok.fresh (Nat.le_refl _))⟩
  have hb : b < h'.objs.size := Heap.lt_size e
  rw [PyProof.Rows.sortedHeap_old (Nat.ne_of_lt hb) (by rw [size_push']; exact Nat.lt_succ_of_lt hb)]
  exact Heap.get?_push_of_some _ e
end
end SDT
namespace PM
/-- terms: the pair of exponents and the coefficient -/
abbrev Ex := Int × Int
abbrev Trm := Ex × Int
def ltE (p q : Ex) : Prop := p.1 < q.1 ∨ (p.1 = q.1 ∧ p.2 < q.2)
instance (p q : Ex) : Decidable (ltE p q) := by
  unfold ltE
  exact inferInstance
theorem ltE_trans {p q r : Ex} (h : ltE p q) (k : ltE q r) : ltE p r := by
  unfold ltE at *
  omega
theorem ltE_irr {p : Ex} : ¬ ltE p p := by
  unfold ltE
  omega
theorem ltE_ne {p q : Ex} (h : ltE p q) : p ≠ q := fun e => by
  subst e
  exact ltE_irr h
theorem ltE_or {p q : Ex} (h : ¬ ltE p q) (k : p ≠ q) : ltE q p := by
  unfold ltE at *
  have k : ¬ (p.1 = q.1 ∧ p.2 = q.2) := fun z => k (Prod.ext z.1 z.2)
  omega
/-- the value of a list of terms under a weighing of the exponents -/
def lin (f : Ex → Int) : List Trm → Int
  | [] => 0
  | t :: r => t.2 * f t.1 + lin f r
def Eqv (p q : List Trm) : Prop := ∀ f, lin f p = lin f q
theorem Eqv.refl (p : List Trm) : Eqv p p := fun _ => rfl
theorem Eqv.symm {p q : List Trm} (h : Eqv p q) : Eqv q p := fun f => (h f).symm
theorem Eqv.trans {p q r : List Trm} (h : Eqv p q) (k : Eqv q r) : Eqv p r := fun f => (h f).trans (k f)
theorem lin_append (f : Ex → Int) : ∀ p q : List Trm, lin f (p ++ q) = lin f p + lin f q
  | [], q => by simp [lin]
  | t :: r, q => by
    simp only [List.cons_append, lin, lin_append f r q]
    omega
theorem Eqv.append {p p' q q' : List Trm} (h : Eqv p p') (k : Eqv q q') : Eqv (p ++ q) (p' ++ q') := fun f => by
  rw [lin_append, lin_append, h f, k f]
theorem Eqv.perm {p q : List Trm} (h : p.Perm q) : Eqv p q := fun f => by
  induction h with
  | nil => rfl
  | cons x _ ih => simp only [lin, ih]
  | swap x y l =>
    simp only [lin]
    omega
  | trans _ _ a b => exact a.trans b
/-- strictly ascending, no coefficient 0 -/
def Canon (p : List Trm) : Prop := p.Pairwise (fun s t => ltE s.1 t.1) ∧ ∀ t ∈ p, t.2 ≠ 0
theorem lin_zero {f : Ex → Int} : ∀ {p : List Trm}, (∀ t ∈ p, f t.1 = 0) → lin f p = 0
  | [], _ => rfl
  | t :: r, h => by
    rw [lin, h t List.mem_cons_self, lin_zero (p := r) fun s hs => h s (List.mem_cons_of_mem _ hs)]
    simp
theorem canon_uniq : ∀ {p q : List Trm}, Canon p → Canon q → Eqv p q → p = q
  | [], [], _, _, _ => rfl
  | [], t :: r, _, hq, h => by
    exfalso
    have e := h fun x => if x = t.1 then 1 else 0
    have z : lin (fun x => if x = t.1 then (1 : Int) else 0) r = 0 := lin_zero fun s hs => if_neg (ltE_ne ((List.pairwise_cons.mp hq.1).1 s hs)).symm
    simp only [lin, z, if_pos] at e
    exact hq.2 t List.mem_cons_self (by omega)
  | t :: r, [], hp, _, h => by
    exfalso
    have e := h fun x => if x = t.1 then 1 else 0
    have z : lin (fun x => if x = t.1 then (1 : Int) else 0) r = 0 := lin_zero fun s hs => if_neg (ltE_ne ((List.pairwise_cons.mp hp.1).1 s hs)).symm
    simp only [lin, z, if_pos] at e
    exact hp.2 t List.mem_cons_self (by omega)
  | t :: r, u :: w, hp, hq, h => by
    have p1 := List.pairwise_cons.mp hp.1
    have q1 := List.pairwise_cons.mp hq.1
    have key : t.1 = u.1 := by
      by_cases e : t.1 = u.1
      · exact e
      · exfalso
        by_cases l : ltE t.1 u.1
        · have z1 : lin (fun x => if x = t.1 then (1 : Int) else 0) r = 0 := lin_zero fun s hs => if_neg (ltE_ne (p1.1 s hs)).symm
          have z2 : lin (fun x => if x = t.1 then (1 : Int) else 0) (u :: w) = 0 := lin_zero fun s hs => by
            refine if_neg (Ne.symm ?_)
            rcases List.mem_cons.mp hs with rfl | hs
            · exact e
            · exact ltE_ne (ltE_trans l (q1.1 s hs))
          have e2 := h fun x => if x = t.1 then 1 else 0
          rw [z2] at e2
          simp only [lin, z1, if_pos] at e2
          exact hp.2 t List.mem_cons_self (by omega)
        · have l := ltE_or l e
          have z1 : lin (fun x => if x = u.1 then (1 : Int) else 0) w = 0 := lin_zero fun s hs => if_neg (ltE_ne (q1.1 s hs)).symm
          have z2 : lin (fun x => if x = u.1 then (1 : Int) else 0) (t :: r) = 0 := lin_zero fun s hs => by
            refine if_neg (Ne.symm ?_)
            rcases List.mem_cons.mp hs with rfl | hs
            · exact Ne.symm e
            · exact ltE_ne (ltE_trans l (p1.1 s hs))
          have e2 := h fun x => if x = u.1 then 1 else 0
          rw [z2] at e2
          simp only [lin, z1, if_pos] at e2
          exact hq.2 u List.mem_cons_self (by omega)
    have z1 : lin (fun x => if x = t.1 then (1 : Int) else 0) r = 0 := lin_zero fun s hs => if_neg (ltE_ne (p1.1 s hs)).symm
    have z2 : lin (fun x => if x = t.1 then (1 : Int) else 0) w = 0 := lin_zero fun s hs => if_neg (by rw [key]; exact (ltE_ne (q1.1 s hs)).symm)
    have e2 := h fun x => if x = t.1 then 1 else 0
    simp only [lin, z1, z2] at e2
    simp only [if_true, if_pos key.symm] at e2
    have ec : t.2 = u.2 := by omega
    have et : t = u := Prod.ext key ec
    have er : Eqv r w := fun f => by
      have e3 := h f
      simp only [lin, et] at e3
      omega
    rw [et, canon_uniq ⟨p1.2, fun s hs => hp.2 s (List.mem_cons_of_mem _ hs)⟩ ⟨q1.2, fun s hs => hq.2 s (List.mem_cons_of_mem _ hs)⟩ er]
/-- a term put into a list in order -/
def ins (t : Trm) : List Trm → List Trm
  | [] => if t.2 = 0 then [] else [t]
  | u :: r => if ltE t.1 u.1 then (if t.2 = 0 then u :: r else t :: u :: r) else if t.1 = u.1 then (if t.2 + u.2 = 0 then r else (t.1, t.2 + u.2) :: r) else u :: ins t r
def canon (ts : List Trm) : List Trm := ts.foldr ins []
theorem lin_ins (f : Ex → Int) (t : Trm) : ∀ p : List Trm, lin f (ins t p) = t.2 * f t.1 + lin f p
  | [] => by
    unfold ins
    split
    · rename_i h
      rw [h]
      simp [lin]
    · simp [lin]
  | u :: r => by
    unfold ins
    split
    · split
      · rename_i h
        rw [h]
        simp
      · simp [lin]
    · split
      · rename_i e
        split
        · rename_i h
          simp only [lin]
          rw [← e]
          have : t.2 * f t.1 + u.2 * f t.1 = 0 := by
            rw [← Int.add_mul, h, Int.zero_mul]
          omega
        · simp only [lin]
          rw [← e, Int.add_mul]
          omega
      · simp only [lin, lin_ins f t r]
        omega
theorem eqv_canon (ts : List Trm) : Eqv (canon ts) ts := fun f => by
  induction ts with
  | nil => rfl
  | cons t r ih =>
    show lin f (ins t (canon r)) = _
    rw [lin_ins, ih]
    rfl
theorem mem_ins {t s : Trm} : ∀ {p : List Trm}, s ∈ ins t p → s.1 = t.1 ∨ s ∈ p
  | [], h => by
    unfold ins at h
    split at h
    · cases h
    · rw [List.mem_singleton] at h
      exact .inl (by rw [h])
  | u :: r, h => by
    unfold ins at h
    split at h
    · split at h
      · exact .inr h
      · rcases List.mem_cons.mp h with h | h
        · exact .inl (by rw [h])
        · exact .inr h
    · split at h
      · split at h
        · exact .inr (List.mem_cons_of_mem _ h)
        · rcases List.mem_cons.mp h with h | h
          · exact .inl (by rw [h])
          · exact .inr (List.mem_cons_of_mem _ h)
      · rcases List.mem_cons.mp h with h | h
        · exact .inr (h ▸ List.mem_cons_self)
        · rcases mem_ins h with h | h
          · exact .inl h
          · exact .inr (List.mem_cons_of_mem _ h)
theorem canon_ins {t : Trm} : ∀ {p : List Trm}, Canon p → Canon (ins t p)
  | [], _ => by
    unfold ins
    split
    · exact ⟨List.Pairwise.nil, fun s hs => by cases hs⟩
    · rename_i h
      exact ⟨List.pairwise_singleton _ _, fun s hs => by
        rw [List.mem_singleton] at hs
        rw [hs]
        exact h⟩
  | u :: r, hp => by
    have p1 := List.pairwise_cons.mp hp.1
    have tl : Canon r := ⟨p1.2, fun s hs => hp.2 s (List.mem_cons_of_mem _ hs)⟩
    unfold ins
    split
    · rename_i l
      split
      · exact hp
      · rename_i h
        refine ⟨List.pairwise_cons.mpr ⟨fun s hs => ?_, hp.1⟩, fun s hs => ?_⟩
        · rcases List.mem_cons.mp hs with rfl | hs
          · exact l
          · exact ltE_trans l (p1.1 s hs)
        · rcases List.mem_cons.mp hs with rfl | hs
          · exact h
          · exact hp.2 s hs
    · rename_i l
      split
      · rename_i e
        split
        · exact tl
        · rename_i h
          refine ⟨List.pairwise_cons.mpr ⟨fun s hs => ?_, p1.2⟩, fun s hs => ?_⟩
          · show ltE t.1 s.1
            rw [e]
            exact p1.1 s hs
          · rcases List.mem_cons.mp hs with rfl | hs
            · exact h
            · exact hp.2 s (List.mem_cons_of_mem _ hs)
      · rename_i e
        have ih := canon_ins (t := t) tl
        refine ⟨List.pairwise_cons.mpr ⟨fun s hs => ?_, ih.1⟩, fun s hs => ?_⟩
        · rcases mem_ins hs with h | h
          · rw [h]
            exact ltE_or l e
          · exact p1.1 s h
        · rcases List.mem_cons.mp hs with rfl | hs
          · exact hp.2 s List.mem_cons_self
          · exact ih.2 s hs
theorem canon_canon (ts : List Trm) : Canon (canon ts) := by
  induction ts with
  | nil => exact ⟨List.Pairwise.nil, fun s hs => by cases hs⟩
  | cons t r ih => exact canon_ins ih
theorem canon_of {p ts : List Trm} (h : Canon p) (e : Eqv p ts) : p = canon ts := canon_uniq h (canon_canon ts) (e.trans (eqv_canon ts).symm)
theorem canon_congr {p q : List Trm} (h : Eqv p q) : canon p = canon q := canon_uniq (canon_canon p) (canon_canon q) ((eqv_canon p).trans (h.trans (eqv_canon q).symm))
theorem canon_self {p : List Trm} (h : Canon p) : canon p = p := (canon_of h (Eqv.refl p)).symm
/-! products -/
def addE (p q : Ex) : Ex := (p.1 + q.1, p.2 + q.2)
def mulT (p q : List Trm) : List Trm := p.flatMap fun x => q.map fun y => (addE x.1 y.1, x.2 * y.2)
theorem lin_scale (f : Ex → Int) (x : Trm) : ∀ q : List Trm, lin f (q.map fun y => (addE x.1 y.1, x.2 * y.2)) = x.2 * lin (fun y => f (addE x.1 y)) q
  | [] => by simp [lin]
  | y :: r => by
    simp only [List.map_cons, lin, lin_scale f x r]
    rw [Int.mul_add, Int.mul_assoc]
theorem lin_mul (f : Ex → Int) (q : List Trm) : ∀ p : List Trm, lin f (mulT p q) = lin (fun x => lin (fun y => f (addE x y)) q) p
  | [] => rfl
  | x :: r => by
    show lin f ((q.map fun y => (addE x.1 y.1, x.2 * y.2)) ++ mulT r q) = _
    rw [lin_append, lin_scale, lin_mul f q r]
    rfl
theorem lin_congr {f g : Ex → Int} (h : ∀ x, f x = g x) (p : List Trm) : lin f p = lin g p := by
  rw [show f = g from funext h]
theorem lin_add (f g : Ex → Int) : ∀ p : List Trm, lin (fun x => f x + g x) p = lin f p + lin g p
  | [] => by simp [lin]
  | t :: r => by
    simp only [lin, lin_add f g r]
    rw [Int.mul_add]
    omega
theorem lin_smul (c : Int) (f : Ex → Int) : ∀ p : List Trm, lin (fun x => c * f x) p = c * lin f p
  | [] => by simp [lin]
  | t :: r => by
    simp only [lin, lin_smul c f r]
    rw [Int.mul_add, Int.mul_left_comm]
theorem lin_const0 : ∀ p : List Trm, lin (fun _ => 0) p = 0
  | [] => rfl
  | t :: r => by simp [lin, lin_const0 r]
theorem lin_swap (g : Ex → Ex → Int) (q : List Trm) : ∀ p : List Trm, lin (fun x => lin (fun y => g x y) q) p = lin (fun y => lin (fun x => g x y) p) q
  | [] => by simp only [lin, lin_const0]
  | t :: r => by
    simp only [lin]
    rw [lin_swap g q r, lin_add, lin_smul]
theorem Eqv.mul {p p' q q' : List Trm} (h : Eqv p p') (k : Eqv q q') : Eqv (mulT p q) (mulT p' q') := fun f => by
  rw [lin_mul, lin_mul, h, lin_congr fun x => k _]
theorem mul_comm (p q : List Trm) : Eqv (mulT p q) (mulT q p) := fun f => by
  rw [lin_mul, lin_mul, lin_swap]
  refine lin_congr (fun y => lin_congr (fun x => ?_) _) _
  unfold addE
  rw [Int.add_comm, Int.add_comm x.2]
theorem mul_assoc (p q r : List Trm) : Eqv (mulT (mulT p q) r) (mulT p (mulT q r)) := fun f => by
  rw [lin_mul, lin_mul, lin_mul]
  refine lin_congr (fun x => ?_) _
  rw [lin_mul]
  refine lin_congr (fun y => lin_congr (fun z => ?_) _) _
  unfold addE
  simp only [Int.add_assoc]
def one : List Trm := [((0, 0), 1)]
theorem one_mul (p : List Trm) : Eqv (mulT one p) p := fun f => by
  rw [lin_mul]
  show (1 : Int) * lin _ p + 0 = _
  rw [Int.one_mul, Int.add_zero]
  refine lin_congr (fun y => ?_) _
  unfold addE
  simp
/-- powers -/
def pw (p : List Trm) : Nat → List Trm
  | 0 => one
  | n + 1 => mulT (pw p n) p
theorem pw_add (p : List Trm) (i : Nat) : ∀ j, Eqv (mulT (pw p i) (pw p j)) (pw p (i + j))
  | 0 => (mul_comm _ _).trans (one_mul _)
  | j + 1 => (mul_assoc _ _ _).symm.trans (Eqv.mul (pw_add p i j) (Eqv.refl p))
theorem pw_congr {p q : List Trm} (h : Eqv p q) : ∀ n, Eqv (pw p n) (pw q n)
  | 0 => Eqv.refl _
  | n + 1 => Eqv.mul (pw_congr h n) h
/-! the size of coefficients -/
def norm : List Trm → Nat
  | [] => 0
  | t :: r => t.2.natAbs + norm r
theorem norm_append : ∀ p q : List Trm, norm (p ++ q) = norm p + norm q
  | [], q => by simp [norm]
  | t :: r, q => by
    simp only [List.cons_append, norm, norm_append r q]
    omega
theorem norm_ins (t : Trm) : ∀ p : List Trm, norm (ins t p) ≤ t.2.natAbs + norm p
  | [] => by
    unfold ins
    split <;> simp [norm]
  | u :: r => by
    unfold ins
    split
    · split <;> simp [norm]
    · split
      · split
        · simp only [norm]
          omega
        · simp only [norm]
          omega
      · have := norm_ins t r
        simp only [norm]
        omega
theorem norm_canon : ∀ ts : List Trm, norm (canon ts) ≤ norm ts
  | [] => Nat.le_refl _
  | t :: r => by
    show norm (ins t (canon r)) ≤ _
    have h1 := norm_ins t (canon r)
    have h2 := norm_canon r
    simp only [norm]
    omega
theorem norm_scale (x : Trm) : ∀ q : List Trm, norm (q.map fun y => (addE x.1 y.1, x.2 * y.2)) = x.2.natAbs * norm q
  | [] => by simp [norm]
  | y :: r => by
    simp only [List.map_cons, norm, norm_scale x r]
    rw [Nat.mul_add, Int.natAbs_mul]
theorem norm_mul (q : List Trm) : ∀ p : List Trm, norm (mulT p q) = norm p * norm q
  | [] => by simp [norm, mulT]
  | x :: r => by
    show norm ((q.map fun y => (addE x.1 y.1, x.2 * y.2)) ++ mulT r q) = _
    rw [norm_append, norm_scale, norm_mul q r]
    simp only [norm]
    rw [Nat.add_mul]
theorem norm_mem {t : Trm} : ∀ {p : List Trm}, t ∈ p → t.2.natAbs ≤ norm p
  | u :: r, h => by
    rcases List.mem_cons.mp h with rfl | h
    · simp only [norm]
      omega
    · have := norm_mem h
      simp only [norm]
      omega
theorem length_canon_le : ∀ ts : List Trm, (canon ts).length ≤ ts.length
  | [] => Nat.le_refl _
  | t :: r => by
    have h : ∀ p : List Trm, (ins t p).length ≤ p.length + 1 := by
      intro p
      induction p with
      | nil =>
        unfold ins
        split <;> simp
      | cons u w ih =>
        unfold ins
        split
        · split <;> simp
        · split
          · split <;> simp <;> omega
          · simp only [List.length_cons]
            omega
    have h2 := length_canon_le r
    have h3 := h (canon r)
    show (ins t (canon r)).length ≤ _
    simp only [List.length_cons]
    omega
theorem length_mul (p q : List Trm) : (mulT p q).length = p.length * q.length := by
  induction p with
  | nil => simp [mulT]
  | cons x r ih =>
    show ((q.map fun y => (addE x.1 y.1, x.2 * y.2)) ++ mulT r q).length = _
    rw [List.length_append, List.length_map, ih, List.length_cons, Nat.add_mul]
    omega
/-! a dict that gathers: pairs in the order in which they came, no key twice -/
def look (d : List Trm) (k : Ex) : Int := match d.find? (fun p => decide (p.1 = k)) with
  | some p => p.2
  | none => 0
def put (d : List Trm) (k : Ex) (v : Int) : List Trm := if d.any (fun p => decide (p.1 = k)) then d.map (fun p => if p.1 = k then (p.1, v) else p) else d ++ [(k, v)]
def addTo (d : List Trm) (t : Trm) : List Trm := put d t.1 (look d t.1 + t.2)
def gather (ts : List Trm) : List Trm := ts.foldl addTo []
def keys (d : List Trm) : List Ex := d.map (·.1)
theorem keys_put (d : List Trm) (k : Ex) (v : Int) : keys (put d k v) = if k ∈ keys d then keys d else keys d ++ [k] := by
  have h : (d.any fun p => decide (p.1 = k)) = true ↔ k ∈ keys d := by
    rw [List.any_eq_true]
    unfold keys
    constructor
    · rintro ⟨p, hp, e⟩
      exact List.mem_map.mpr ⟨p, hp, of_decide_eq_true e⟩
    · intro h
      obtain ⟨p, hp, e⟩ := List.mem_map.mp h
      exact ⟨p, hp, decide_eq_true e⟩
  unfold put
  by_cases hk : k ∈ keys d
  · rw [if_pos (h.mpr hk), if_pos hk]
    unfold keys
    rw [List.map_map]
    refine List.map_congr_left fun p _ => ?_
    show (if p.1 = k then (p.1, v) else p).1 = p.1
    split <;> rfl
  · rw [if_neg (fun z => hk (h.mp z)), if_neg hk]
    unfold keys
    rw [List.map_append]
    rfl
theorem nodup_put {d : List Trm} (h : (keys d).Nodup) (k : Ex) (v : Int) : (keys (put d k v)).Nodup := by
  rw [keys_put]
  split
  · exact h
  · rename_i hk
    rw [List.nodup_append]
    refine ⟨h, List.pairwise_singleton _ _, fun a ha b hb => ?_⟩
    rw [List.mem_singleton] at hb
    rw [hb]
    exact fun e => hk (e ▸ ha)
theorem look_none {d : List Trm} {k : Ex} (h : k ∉ keys d) : look d k = 0 := by
  unfold look
  rw [List.find?_eq_none.mpr]
  intro p hp e
  exact h (List.mem_map.mpr ⟨p, hp, of_decide_eq_true e⟩)
theorem look_cons (p : Trm) (d : List Trm) (k : Ex) : look (p :: d) k = if p.1 = k then p.2 else look d k := by
  unfold look
  rw [List.find?_cons]
  by_cases h : p.1 = k
  · simp [h]
  · simp [h]
theorem lin_map_put (f : Ex → Int) (k : Ex) (v : Int) : ∀ {d : List Trm}, (keys d).Nodup → k ∈ keys d → lin f (d.map fun p => if p.1 = k then (p.1, v) else p) = lin f d + (v - look d k) * f k
  | [], _, h => by simp [keys] at h
  | p :: r, hn, hk => by
    have n1 : p.1 ∉ keys r ∧ (keys r).Nodup := List.nodup_cons.mp hn
    rw [look_cons]
    simp only [List.map_cons, lin]
    by_cases e : p.1 = k
    · rw [if_pos e, if_pos e]
      have z : r.map (fun p => if p.1 = k then (p.1, v) else p) = r := by
        refine (List.map_congr_left fun q hq => if_neg fun z => n1.1 (List.mem_map.mpr ⟨q, hq, by rw [z, e]⟩)).trans (List.map_id' r)
      rw [z, ← e, Int.sub_mul]
      show v * f p.1 + lin f r = _
      omega
    · have hk2 : k ∈ keys r := by
        rcases List.mem_cons.mp (show k ∈ p.1 :: keys r from hk) with z | z
        · exact absurd z.symm e
        · exact z
      rw [if_neg e, if_neg e, lin_map_put f k v n1.2 hk2]
      omega
theorem lin_put (f : Ex → Int) {d : List Trm} (hn : (keys d).Nodup) (k : Ex) (v : Int) : lin f (put d k v) = lin f d + (v - look d k) * f k := by
  have h : (d.any fun p => decide (p.1 = k)) = true ↔ k ∈ keys d := by
    rw [List.any_eq_true]
    unfold keys
    constructor
    · rintro ⟨p, hp, e⟩
      exact List.mem_map.mpr ⟨p, hp, of_decide_eq_true e⟩
    · intro h
      obtain ⟨p, hp, e⟩ := List.mem_map.mp h
      exact ⟨p, hp, decide_eq_true e⟩
  unfold put
  by_cases hk : k ∈ keys d
  · rw [if_pos (h.mpr hk), lin_map_put f k v hn hk]
  · rw [if_neg (fun z => hk (h.mp z)), lin_append, look_none hk]
    simp [lin]
theorem gather_go (f : Ex → Int) : ∀ (ts d : List Trm), (keys d).Nodup → (keys (ts.foldl addTo d)).Nodup ∧ lin f (ts.foldl addTo d) = lin f d + lin f ts
  | [], d, h => ⟨h, by simp [lin]⟩
  | t :: r, d, h => by
    have n := nodup_put h t.1 (look d t.1 + t.2)
    obtain ⟨h1, h2⟩ := gather_go f r (addTo d t) n
    refine ⟨h1, ?_⟩
    show lin f (r.foldl addTo (addTo d t)) = _
    rw [h2]
    unfold addTo
    rw [lin_put f h]
    simp only [lin]
    rw [show look d t.1 + t.2 - look d t.1 = t.2 by omega]
    omega
theorem gather_nodup (ts : List Trm) : (keys (gather ts)).Nodup := (gather_go (fun _ => 0) ts [] List.nodup_nil).1
theorem gather_eqv (ts : List Trm) : Eqv (gather ts) ts := fun f => by
  have h := (gather_go f ts [] List.nodup_nil).2
  simp only [lin] at h
  unfold gather
  omega
theorem length_put (d : List Trm) (k : Ex) (v : Int) : (put d k v).length ≤ d.length + 1 := by
  unfold put
  split
  · rw [List.length_map]
    omega
  · rw [List.length_append]
    exact Nat.le_refl _
theorem length_gather_go : ∀ (ts d : List Trm), (ts.foldl addTo d).length ≤ d.length + ts.length
  | [], d => Nat.le_refl _
  | t :: r, d => by
    have h1 := length_gather_go r (addTo d t)
    have h2 : (addTo d t).length ≤ d.length + 1 := length_put _ _ _
    show (r.foldl addTo (addTo d t)).length ≤ _
    simp only [List.length_cons]
    omega
theorem look_of_mem : ∀ {d : List Trm} {p : Trm}, (keys d).Nodup → p ∈ d → look d p.1 = p.2
  | q :: r, p, hn, hp => by
    have n1 : q.1 ∉ keys r ∧ (keys r).Nodup := List.nodup_cons.mp hn
    rw [look_cons]
    rcases List.mem_cons.mp hp with rfl | hp
    · rw [if_pos rfl]
    · rw [if_neg (fun e => n1.1 (List.mem_map.mpr ⟨p, hp, e.symm⟩)), look_of_mem n1.2 hp]
/-- what is read off by keys in order -/
def read (d : List Trm) (ks : List Ex) : List Trm := (ks.filter fun k => decide (look d k ≠ 0)).map fun k => (k, look d k)
theorem lin_read (f : Ex → Int) (d : List Trm) : ∀ ks : List Ex, lin f (read d ks) = lin f (ks.map fun k => (k, look d k))
  | [] => rfl
  | k :: r => by
    have ih := lin_read f d r
    unfold read at *
    rw [List.filter_cons]
    by_cases h : look d k = 0
    · simp only [h, ne_eq, not_true_eq_false, decide_false, Bool.false_eq_true, if_false, List.map_cons, lin]
      rw [ih]
      simp
    · rw [if_pos (decide_eq_true h)]
      simp only [List.map_cons, lin, ih]
theorem map_look {d : List Trm} (hn : (keys d).Nodup) : (keys d).map (fun k => (k, look d k)) = d := by
  unfold keys
  rw [List.map_map]
  refine (List.map_congr_left fun p hp => ?_).trans (List.map_id' d)
  show (p.1, look d p.1) = p
  rw [look_of_mem hn hp]
theorem read_canon {ts d : List Trm} {ks : List Ex} (hn : (keys d).Nodup) (he : Eqv d ts) (hp : ks.Perm (keys d)) (hs : ks.Pairwise fun a b => ¬ ltE b a) : read d ks = canon ts := by
  refine canon_of ⟨?_, fun t ht => ?_⟩ fun f => ?_
  · have h2 : ks.Pairwise ltE := by
      exact (List.Pairwise.and hs (hp.nodup_iff.mpr hn)).imp fun h => ltE_or h.1 (Ne.symm h.2)
    unfold read
    rw [List.pairwise_map]
    exact h2.sublist List.filter_sublist
  · obtain ⟨k, hk, rfl⟩ := List.mem_map.mp ht
    exact of_decide_eq_true (List.mem_filter.mp hk).2
  · rw [lin_read]
    have h3 : (ks.map fun k => (k, look d k)).Perm d := by
      have := hp.map fun k => (k, look d k)
      rw [map_look hn] at this
      exact this
    rw [Eqv.perm h3 f]
    exact he f
end PM
/-! ### heaps that grow: what is no table stays, tables stay tables -/
namespace EXT
open PySem PySem.Spec PyProof.Rows L2 SDT PM
structure Ext (H H' : Hp) : Prop where
  keep : ∀ b x, H b = some x → (∀ ps, x ≠ .tbl ps) → H' b = some x
  tabs : ∀ b ps, H b = some (.tbl ps) → ∃ qs, H' b = some (.tbl qs) ∧ (TriplesOk ps.toList → TriplesOk qs.toList)
theorem Ext.tab {H H' : Hp} (s : Ext H H') {b : Addr} (h : GxR.TabG H b) : GxR.TabG H' b := by
  obtain ⟨ps, h1, h2⟩ := h
  obtain ⟨qs, g1, g2⟩ := s.tabs b ps h1
  exact ⟨qs, g1, g2 h2⟩
theorem Ext.refl (H : Hp) : Ext H H := ⟨fun _ _ e _ => e, fun _ ps h => ⟨ps, h, id⟩⟩
theorem Ext.trans {H H1 H2 : Hp} (a : Ext H H1) (b : Ext H1 H2) : Ext H H2 := ⟨fun c x e n => b.keep c x (a.keep c x e n) n, fun c ps h => by
  obtain ⟨qs, g1, g2⟩ := a.tabs c ps h
  obtain ⟨rs, k1, k2⟩ := b.tabs c qs g1
  exact ⟨rs, k1, fun z => k2 (g2 z)⟩⟩
theorem Ext.own {H H1 : Hp} {d : Addr} {o : HO} (s : Ext H H1) (hd : H d = none) : Ext H (upd H1 d o) := by
  refine ⟨fun b x e n => ?_, fun b ps h => ?_⟩
  · rw [upd_ne (ne_of_none e hd)]
    exact s.keep b x e n
  · obtain ⟨qs, g1, g2⟩ := s.tabs b ps h
    exact ⟨qs, by rw [upd_ne (ne_of_none h hd)]; exact g1, g2⟩
theorem ext_upd {H : Hp} {p : Addr} {o : HO} (h : H p = none) : Ext H (upd H p o) := (Ext.refl H).own h
theorem Ext.new {H H1 : Hp} {p : Addr} {o : HO} (s : Ext H H1) (h : H1 p = none) : Ext H (upd H1 p o) := s.trans (ext_upd h)
theorem ext_tabbed {H H' : Hp} {P : Addr} (t : GxR.TabG H P) (h : GxR.Tabbed P H H') : Ext H H' := by
  obtain ⟨ps, e0, _⟩ := t
  refine ⟨fun b x e n => ?_, fun b qs g => ?_⟩
  · rw [h.2 b (fun z => ?_)]
    · exact e
    · rw [z, e0] at e
      exact n ps (Option.some.inj e).symm
  · by_cases z : b = P
    · obtain ⟨rs, g1, g2⟩ := h.1
      rw [z]
      exact ⟨rs, g1, fun _ => g2⟩
    · exact ⟨qs, by rw [h.2 b z]; exact g, id⟩
theorem Ext.tabbed {H H1 H2 : Hp} {P : Addr} (s : Ext H H1) (t : GxR.TabG H1 P) (h : GxR.Tabbed P H1 H2) : Ext H H2 := s.trans (ext_tabbed t h)
theorem Ext.free {H H' : Hp} {p : Addr} (s : Ext H H') (h : H' p = none) : H p = none := by
  cases e : H p with
  | none => rfl
  | some x =>
    cases x with
    | tbl ps =>
      obtain ⟨qs, g, _⟩ := s.tabs p ps e
      rw [h] at g
      cases g
    | _ =>
      have := s.keep p _ e (fun ps z => by cases z)
      rw [h] at this
      cases this
theorem _root_.L2.Same.ext {H H' : Hp} (s : Same H H') : Ext H H' := ⟨fun b x e _ => s b x e, fun b ps e => ⟨ps, s _ _ e, id⟩⟩
section
variable {K : PySem.W.Frag} {H H' : Hp} (s : Ext H H')
include s
theorem Ext.rdL {a : Addr} {xs : List V} (h : Rd H a (.lst xs)) : Rd H' a (.lst xs) := by
  rcases h with h | ⟨o, h⟩
  · exact .inl (s.keep _ _ h (fun _ z => by cases z))
  · exact .inr ⟨o, s.keep _ _ h (fun _ z => by cases z)⟩
theorem Ext.rdT {a : Addr} {xs : List V} (h : Rd H a (.tup xs)) : Rd H' a (.tup xs) := by
  rcases h with h | ⟨o, h⟩
  · exact .inl (s.keep _ _ h (fun _ z => by cases z))
  · exact .inr ⟨o, s.keep _ _ h (fun _ z => by cases z)⟩
theorem Ext.seq {a : Addr} {xs : List V} (h : SqL K H a xs) : SqL K H' a xs := h.imp s.rdL id
theorem Ext.tup {a : Addr} {xs : List V} (h : SqT K H a xs) : SqT K H' a xs := h.imp s.rdT id
theorem Ext.at {a : Addr} {xs : List V} (h : H a = some (.tup xs)) : H' a = some (.tup xs) := s.keep _ _ h (fun _ z => by cases z)
theorem Ext.dt {a : Addr} {xs : List (List Key × V)} (h : H a = some (.dT xs)) : H' a = some (.dT xs) := s.keep _ _ h (fun _ z => by cases z)
theorem Ext.lst {a : Addr} {xs : List V} (h : H a = some (.lst xs)) : H' a = some (.lst xs) := s.keep _ _ h (fun _ z => by cases z)
end
mutual
theorem dp_ext {K : PySem.W.Frag} {H H' : Hp} (s : Ext H H') : ∀ {v : V} {d : PyData}, Dp K H v d → Dp K H' v d
  | _, _, .non => .non
  | _, _, .bl b => .bl b
  | _, _, .int i => .int i
  | _, _, .str x => .str x
  | _, _, .lst h t => .lst (s.seq h) (dpAll_ext s t)
  | _, _, .tup h t => .tup (s.tup h) (dpAll_ext s t)
theorem dpAll_ext {K : PySem.W.Frag} {H H' : Hp} (s : Ext H H') : ∀ {vs : List V} {ds : List PyData}, DpAll K H vs ds → DpAll K H' vs ds
  | _, _, .nil => .nil
  | _, _, .cons h t => .cons (dp_ext s h) (dpAll_ext s t)
end
theorem Ext.pairs {H H' : Hp} (s : Ext H H') : ∀ {ks : List (Int × Int)} {bs : List Addr}, Paired (PairAt H) ks bs → Paired (PairAt H') ks bs
  | _, _, .nil => .nil
  | _, _, .cons h t => .cons (s.at h) (s.pairs t)
/-! ### terms and polynomials in the heap -/
/-- v is the term t -/
def TermAt (K : PySem.W.Frag) (H : Hp) (v : V) (t : Trm) : Prop := ∃ a b, v = .ref a ∧ SqT K H a [.ref b, .int t.2] ∧ SqT K H b [.int t.1.1, .int t.1.2]
/-- the same, the key known to be one -/
def TermT (H : Hp) (v : V) (t : Trm) : Prop := ∃ a b, v = .ref a ∧ H a = some (.tup [.ref b, .int t.2]) ∧ PairAt H t.1 b
theorem TermT.at {K : PySem.W.Frag} {H : Hp} {v : V} {t : Trm} (h : TermT H v t) : TermAt K H v t := by
  obtain ⟨a, b, e, h1, h2⟩ := h
  exact ⟨a, b, e, .inl (.inl h1), .inl (.inl h2)⟩
theorem Ext.termT {H H' : Hp} (s : Ext H H') {v : V} {t : Trm} (h : TermT H v t) : TermT H' v t := by
  obtain ⟨a, b, e, h1, h2⟩ := h
  exact ⟨a, b, e, s.at h1, s.at h2⟩
theorem Ext.term {K : PySem.W.Frag} {H H' : Hp} (s : Ext H H') {v : V} {t : Trm} (h : TermAt K H v t) : TermAt K H' v t := by
  obtain ⟨a, b, e, h1, h2⟩ := h
  exact ⟨a, b, e, s.tup h1, s.tup h2⟩
theorem paired_imp {α β : Type} {R R' : α → β → Prop} (h : ∀ a b, R a b → R' a b) : ∀ {as : List α} {bs : List β}, Paired R as bs → Paired R' as bs
  | _, _, .nil => .nil
  | _, _, .cons x t => .cons (h _ _ x) (paired_imp h t)
/-- the item of a pairing at a place -/
theorem paired_at {α β : Type} {R : α → β → Prop} : ∀ {as : List α} {bs : List β} {i : Nat} {a : α}, Paired R as bs → as[i]? = some a → ∃ b, bs[i]? = some b ∧ R a b
  | _, _, _, _, .nil, h => by simp at h
  | _, _, 0, _, .cons x t, h => by
    simp only [List.getElem?_cons_zero, Option.some.injEq] at h
    subst h
    exact ⟨_, rfl, x⟩
  | _, _, i + 1, _, .cons x t, h => by
    simp only [List.getElem?_cons_succ] at h
    obtain ⟨b, h1, h2⟩ := paired_at t h
    exact ⟨b, by simpa using h1, h2⟩
theorem paired_app {α β : Type} {R : α → β → Prop} : ∀ {as : List α} {bs : List β} {as' : List α} {bs' : List β}, Paired R as bs → Paired R as' bs' → Paired R (as ++ as') (bs ++ bs')
  | _, _, _, _, .nil, k => k
  | _, _, _, _, .cons x t, k => .cons x (paired_app t k)
theorem paired_snoc {α β : Type} {R : α → β → Prop} {as : List α} {bs : List β} {a : α} {b : β} (h : Paired R as bs) (x : R a b) : Paired R (as ++ [a]) (bs ++ [b]) := paired_app h (.cons x .nil)
/-- vs are the terms ts -/
abbrev Terms (K : PySem.W.Frag) (H : Hp) (vs : List V) (ts : List Trm) : Prop := Paired (TermAt K H) vs ts
abbrev TermsT (H : Hp) (vs : List V) (ts : List Trm) : Prop := Paired (TermT H) vs ts
theorem Ext.terms {K : PySem.W.Frag} {H H' : Hp} (s : Ext H H') {vs : List V} {ts : List Trm} (h : Terms K H vs ts) : Terms K H' vs ts := paired_imp (fun _ _ => s.term) h
theorem Ext.termsT {H H' : Hp} (s : Ext H H') {vs : List V} {ts : List Trm} (h : TermsT H vs ts) : TermsT H' vs ts := paired_imp (fun _ _ => s.termT) h
theorem terms_of {K : PySem.W.Frag} {H : Hp} {vs : List V} {ts : List Trm} (h : TermsT H vs ts) : Terms K H vs ts := paired_imp (fun _ _ h => h.at) h
/-- a tuple of terms at p -/
def PolyAt (K : PySem.W.Frag) (H : Hp) (p : Addr) (ts : List Trm) : Prop := ∃ vs, SqT K H p vs ∧ Terms K H vs ts
def PolyT (H : Hp) (p : Addr) (ts : List Trm) : Prop := ∃ vs, H p = some (.tup vs) ∧ TermsT H vs ts
theorem PolyT.at {K : PySem.W.Frag} {H : Hp} {p : Addr} {ts : List Trm} (h : PolyT H p ts) : PolyAt K H p ts := by
  obtain ⟨vs, h1, h2⟩ := h
  exact ⟨vs, .inl (.inl h1), terms_of h2⟩
theorem Ext.poly {K : PySem.W.Frag} {H H' : Hp} (s : Ext H H') {p : Addr} {ts : List Trm} (h : PolyAt K H p ts) : PolyAt K H' p ts := by
  obtain ⟨vs, h1, h2⟩ := h
  exact ⟨vs, s.tup h1, s.terms h2⟩
theorem Ext.polyT {H H' : Hp} (s : Ext H H') {p : Addr} {ts : List Trm} (h : PolyT H p ts) : PolyT H' p ts := by
  obtain ⟨vs, h1, h2⟩ := h
  exact ⟨vs, s.at h1, s.termsT h2⟩
/-- a term, a polynomial as data -/
def termD (t : Trm) : PyData := .tuple [.tuple [.int t.1.1, .int t.1.2], .int t.2]
def polyD (ts : List Trm) : PyData := .tuple (ts.map termD)
theorem TermAt.dp {K : PySem.W.Frag} {H : Hp} {v : V} {t : Trm} (h : TermAt K H v t) : Dp K H v (termD t) := by
  obtain ⟨a, b, rfl, h1, h2⟩ := h
  exact .tup h1 (.cons (.tup h2 (.cons (.int _) (.cons (.int _) .nil))) (.cons (.int _) .nil))
theorem terms_dp {K : PySem.W.Frag} {H : Hp} : ∀ {vs : List V} {ts : List Trm}, Terms K H vs ts → DpAll K H vs (ts.map termD)
  | _, _, .nil => .nil
  | _, _, .cons h t => .cons h.dp (terms_dp t)
theorem PolyAt.dp {K : PySem.W.Frag} {H : Hp} {p : Addr} {ts : List Trm} (h : PolyAt K H p ts) : Dp K H (.ref p) (polyD ts) := by
  obtain ⟨vs, h1, h2⟩ := h
  exact .tup h1 (terms_dp h2)
/-! ### a dict of exponents -/
def kvsOf (d : List Trm) : List (List Key × V) := d.map fun t => (pairKey t.1, .int t.2)
theorem pairKey_inj {k j : Ex} (h : pairKey k = pairKey j) : k = j := by
  obtain ⟨h1, h2⟩ := List.cons.inj h
  obtain ⟨h3, _⟩ := List.cons.inj h2
  exact Prod.ext (Sum.inl.inj h1) (Sum.inl.inj h3)
theorem valV_kvs (k : Ex) : ∀ d : List Trm, valV (kvsOf d) (pairKey k) = if k ∈ keys d then some (.int (look d k)) else none
  | [] => rfl
  | t :: d => by
    by_cases e : t.1 = k
    · rw [show kvsOf (t :: d) = (pairKey t.1, V.int t.2) :: kvsOf d from rfl, valV_pos (by rw [e]), if_pos (by rw [← e]; exact List.mem_map.mpr ⟨t, List.mem_cons_self, rfl⟩), look_cons, if_pos e]
    · rw [show kvsOf (t :: d) = (pairKey t.1, V.int t.2) :: kvsOf d from rfl, valV_neg (fun z => e (pairKey_inj z)), valV_kvs k d, look_cons, if_neg e]
      have : (k ∈ keys (t :: d)) ↔ k ∈ keys d := by
        show k ∈ t.1 :: keys d ↔ _
        rw [List.mem_cons]
        exact ⟨fun z => z.resolve_left fun q => e q.symm, .inr⟩
      by_cases m : k ∈ keys d
      · rw [if_pos m, if_pos (this.mpr m)]
      · rw [if_neg m, if_neg (fun z => m (this.mp z))]
theorem getD_kvs (d : List Trm) (k : Ex) : (valV (kvsOf d) (pairKey k)).getD (.int 0) = .int (look d k) := by
  rw [valV_kvs]
  by_cases m : k ∈ keys d
  · rw [if_pos m]
    rfl
  · rw [if_neg m, look_none m]
    rfl
theorem put_kvs (d : List Trm) (k : Ex) (v : Int) : putK (kvsOf d) (pairKey k) (.int v) = kvsOf (put d k v) := by
  have e : ((kvsOf d).any fun kv => decide (kv.1 = pairKey k)) = d.any fun p => decide (p.1 = k) := by
    unfold kvsOf
    rw [List.any_map]
    congr 1
    funext t
    show decide (pairKey t.1 = pairKey k) = decide (t.1 = k)
    by_cases z : t.1 = k
    · rw [decide_eq_true z, decide_eq_true (by rw [z])]
    · rw [decide_eq_false z, decide_eq_false (fun q => z (pairKey_inj q))]
  unfold putK put
  rw [e]
  by_cases z : (d.any fun p => decide (p.1 = k)) = true
  · rw [if_pos z, if_pos z]
    unfold kvsOf
    rw [List.map_map, List.map_map]
    refine List.map_congr_left fun t _ => ?_
    show (if pairKey t.1 = pairKey k then (pairKey t.1, V.int v) else (pairKey t.1, V.int t.2)) = _
    by_cases q : t.1 = k
    · rw [if_pos (by rw [q])]
      simp only [Function.comp, if_pos q]
    · rw [if_neg (fun w => q (pairKey_inj w))]
      simp only [Function.comp, if_neg q]
  · rw [if_neg z, if_neg z]
    unfold kvsOf
    rw [List.map_append]
    rfl
theorem length_kvs (d : List Trm) : (kvsOf d).length = d.length := by
  unfold kvsOf
  rw [List.length_map]
theorem keys_kvs (d : List Trm) : (kvsOf d).map (·.1) = (keys d).map pairKey := by
  unfold kvsOf keys
  rw [List.map_map, List.map_map]
  rfl
theorem lex_lt {p q : Ex} : SrtO.lexB p q = false ↔ ¬ ltE p q := SrtO.lexB_no
end EXT
/-! ### a def whose code object is known -/
namespace L2
open PySem PySem.Spec PyProof.Rows
structure FunC (K : PySem.W.Frag) (x qual : Str) (st : Stmt) (f : Addr) (fd : FuncData) (c : Addr) : Prop where
  ex : ∃ (oc : Value) (od : Option Addr) (kV doc pm : Value) (an : Option Addr) (ct : Value) (osl : Array (Option Value)),
    fd = PySem.W.fnOf x qual (defArgs st) (defBody st) (defScope st) .none kV doc pm an (.ref c) ct ∧ K.lookup f = some ⟨oc, od, .func fd, osl⟩ ∧ PySem.W.codeIn K (.ref c) qual = true
  kp : PySem.W.keepIn K (.ref f) = true
section
variable {P : Program} {w : World} {K : PySem.W.Frag} {mg : Str → Option Value} {base : Heap}
theorem FunC.ok {x qual : Str} {st : Stmt} {f c : Addr} {fd : FuncData} {N ps : List Str} {k : Nat} {sp : Sp} (F : FunC K x qual st f fd c) (S : FnScope N ps (defScope st)) (len : ∀ vs H Q E, sp vs H Q E → vs.length = ps.length)
    (hbody : ∀ (A : Around) (outer : List Env) (s : Shared) (H : Hp) (vs : List V) (Q : VK) (E : XK), Room k (A.deeper (envOfC qual (defScope st) s.heap.objs.size f (.ref c))) → sp vs H Q E →
      ∃ t, PSs (cxOf CX0 P w K mg base N qual (defScope st) f (.ref c) A outer s H E).nox (defBody st) t ∧ t { nx := fun _ H' => Q .non H', rt := Q } (start N vs) H) :
    FnOk P w K mg base CX0 (k + 1) f fd ps sp := by
  obtain ⟨oc, od, kV, doc, pm, an, ct, osl, e, lk, hcd⟩ := F.ex
  subst e
  refine fn_of lk hcd S len fun A outer s H vs Q E hr hsp => ?_
  obtain ⟨t, h, q⟩ := hbody A outer s H vs Q E hr hsp
  exact ⟨t, h.nox, q⟩
theorem FunC.binds {x qual : Str} {st : Stmt} {f c : Addr} {fd : FuncData} {ps : List Str} (F : FunC K x qual st f fd c)
    (h : ∀ (kV doc pm : Value) (an : Option Addr) (cdv ct : Value) (us : List Value), us.length = ps.length → bindArgs (PySem.W.fnOf x qual (defArgs st) (defBody st) (defScope st) .none kV doc pm an cdv ct) ⟨us, []⟩ = pure (ps.zip us)) : Binds K fd ps [] := by
  obtain ⟨oc, od, kV, doc, pm, an, ct, osl, e, lk, hcd⟩ := F.ex
  subst e
  exact .all (h kV doc pm an (.ref c) ct)
theorem funC_mk {x qual : Str} {st : Stmt} {f c : Addr} {oc : Value} {od an : Option Addr} {osl : Array (Option Value)} {kV doc pm ct : Value} (l : K.lookup f = some ⟨oc, od, .func (PySem.W.fnOf x qual (defArgs st) (defBody st) (defScope st) .none kV doc pm an (.ref c) ct), osl⟩)
    (h : PySem.W.codeIn K (.ref c) qual = true) (k : PySem.W.keepIn K (.ref f) = true) : FunC K x qual st f (PySem.W.fnOf x qual (defArgs st) (defBody st) (defScope st) .none kV doc pm an (.ref c) ct) c := ⟨⟨oc, od, kV, doc, pm, an, ct, osl, rfl, l, h⟩, k⟩
end
end L2
/-! ### the end: the tables of all defs -/
namespace LamX
open PySem PySem.Spec PyProof.Rows L2
/-- the table of each def of the text is empty -/
def AllTab (q : Program) (K : PySem.W.Frag) (h : Heap) : Prop := ∀ (y : Str) (f c P : Addr) (o : Obj) (fd : FuncData) (e : Value) (dd : Option Addr) (vs : Array Value) (sl : Array (Option Value)), ((recsOf q).any fun r => r.name == y) = true →
  PySem.W.nsIn K mainGlobals y = some (some (.ref f)) → K.lookup f = some o → o.data = .func fd → fd.code = .ref c → K.lookup c = some ⟨e, dd, .fields vs, sl⟩ → vs[11]? = some (.ref P) → h.get? P = some { cls := .none, data := .fields #[] }
theorem walk_ofAll {l : PySem.W.OpenLaw} {n k : Nat} {q : Program} {loose : List Str} {XP : (Str → Option Value) → Heap → Prop} {YP : World → Heap → Prop} {d : DefRec} {K : Params → PySem.W.Frag} {CX : World → CXT} {x : Str}
    (hn : l.most = some n) (hn2 : n ≤ sizeLine) (hdf : d.params.defaults = []) (hr : Room k callerA) (hY : ∀ (w : World) (h : Heap), YP w h → (K w.params).In h)
    (F : ∀ (w : World) (mg : Str → Option Value) (fa : Addr) (h : Heap), YP w h → (K w.params).In h → h.Ns mainGlobals mg → mg d.name = some (.ref fa) → AllTab q (K w.params) h → LawAtS l w (K w.params) (CX w) k n x mg fa h)
    (hCX : ∀ (w : World) (H : Hp) (s : Shared) (e : Value) (s' : Shared), CX w [] H s (fun _ _ _ => False) e s' → False) :
    PySem.W.WalkO q loose XP YP l.row.toRowW d [] (fun f vs => PySem.call f vs) := by
  refine Att.attach_callB hn hdf fun w s₀ s₁ mg mb fa o pm cd doc a vs ns G Y ho hd hcd hmg hobj hints hlen hbits hg => ?_
  have KX := hY w _ Y
  have own : AllTab q (K w.params) s₁.heap := fun y f c P o1 fd1 e dd vs1 sl hrec k0 k1 k2 k3 k4 k5 => by
    obtain ⟨dL, hm, hn1⟩ := List.any_eq_true.mp hrec
    have hn2 : dL.name = y := beq_iff_eq.mp hn1
    obtain ⟨a', o', fd', c', P', h1, h2, h3, h4, h5, h6⟩ := G.T.tab dL hm
    rw [hn2, PySem.W.mg_of KX G.T.g k0] at h1
    cases h1
    have g1 := KX _ _ k1
    rw [g1] at h2
    cases h2
    rw [k2] at h3
    cases h3
    rw [k3] at h4
    cases h4
    obtain ⟨⟨oc, vc, e1, _, e3, e4⟩, hP⟩ := h6
    have g2 := KX _ _ k4
    rw [g2] at e1
    cases e1
    cases e3
    rw [k5] at e4
    cases e4
    exact hP
  obtain ⟨fd, cs, sp, hT, nT, C, hb, hsp, hF⟩ := F w mg fa _ Y KX G.T.g hmg own
  exact law_callTs KX G.T.g G.T.b G.T.builtins G.T.nolimit hg hT nT C G.T.bmain hobj hints (Nat.le_trans hlen hn2) hr hF hb (fun H hH hS => hsp H a ns hlen hbits hH hS) fun H e s' => hCX w H s₁ e s'
end LamX
namespace L2
open PySem PySem.Spec PyProof.Rows
/-- a list or a tuple, walked -/
def iSeq (K : PySem.W.Frag) (tl : TE) : TI := fun σ H R => tl σ H fun x H1 => ∃ a, x = .ref a ∧ (((∃ xs, SqL K H1 a xs) ∧ R (Itl K a) H1) ∨ ((∃ xs, SqT K H1 a xs) ∧ R (Itt K a) H1))
theorem pi_seq {X : Cx} {tg l : Expr} {tl : TE} (hl : PE X l tl) : PI X tg l (iSeq X.K tl) := by
  refine ⟨fun pins s σ H R I h => ?_⟩
  refine thn (hl.run pins s σ H _ I h) fun v s1 ⟨x, H1, I1, r1, a, e, q1⟩ => ?_
  subst e
  cases r1
  rcases q1 with ⟨⟨xs, hq⟩, q⟩ | ⟨⟨xs, hq⟩, q⟩
  · obtain ⟨its, rv, p, hz⟩ := I1.list hq
    refine wpAny_pyIter_list p.isList ⟨s1.heap.objs.size, [s1.heap.objs.size], _, _, H1, rfl, I1.kept (t' := s1.toks) fun b o e => Heap.get?_push_of_some _ e, turn_list a _, ⟨_, Heap.get?_push_size _ rfl, rfl, rfl⟩, fun b hb => ?_, q⟩
    obtain rfl : b = s1.heap.objs.size := by simpa using hb
    exact I1.fpOk (Nat.le_refl _) (I1.hok.fresh (Nat.le_refl _))
  · obtain ⟨its, rv, p, hz⟩ := I1.tuple hq
    refine wpAny_pyIter_tuple (show s1.heap.IsTuple a its.toArray from p) ⟨s1.heap.objs.size, [s1.heap.objs.size], _, _, H1, rfl, I1.kept (t' := s1.toks) fun b o e => Heap.get?_push_of_some _ e, turn_tuple a _, ⟨_, Heap.get?_push_size _ rfl, rfl, rfl⟩, fun b hb => ?_, q⟩
    obtain rfl : b = s1.heap.objs.size := by simpa using hb
    exact I1.fpOk (Nat.le_refl _) (I1.hok.fresh (Nat.le_refl _))
/-- walking a list or a tuple: one invariant -/
theorem for_seq {K : PySem.W.Frag} {a : Addr} {xs : List V} {g : TG} {tb : TS} {D : Ends} {σ : St} {H H0 : Hp} (ha : SqL K H0 a xs ∨ SqT K H0 a xs) (Pv : Nat → St → Hp → Prop) (h0 : Pv 0 σ H) (hl : ∀ i σ H1, i ≤ xs.length → Pv i σ H1 → EXT.Ext H0 H1)
    (hs : ∀ i x σ H, xs[i]? = some x → Pv i σ H → g x σ H fun σ2 H2 => tb { D with nx := Pv (i + 1), ct := Pv (i + 1), bk := D.nx } σ2 H2) (hd : ∀ σ H, Pv xs.length σ H → D.nx σ H) :
    let G : It → Prop := fun J => ∃ W : Nat → Nat → St → Hp → Prop, (∃ m, W 0 m σ H) ∧ ∀ i m σ H, W i m σ H →
      ((J.stop i H ∧ D.nx σ H) ∨ (J.go i H ∧ ∃ N : St → Hp → Prop, (∀ σ' H', N σ' H' → ∃ m', m' < m ∧ W (i + 1) m' σ' H') ∧ ∀ x H', J.yld i H x H' → g x σ H' fun σ2 H2 => tb { D with nx := N, ct := N, bk := D.nx } σ2 H2))
    ((∃ xs, SqL K H a xs) ∧ G (Itl K a)) ∨ ((∃ xs, SqT K H a xs) ∧ G (Itt K a)) := by
  rcases ha with h | h
  · exact .inl ⟨⟨xs, (hl _ _ _ (Nat.zero_le _) h0).seq h⟩, for_list Pv h0 (fun i σ H1 hi p => (hl i σ H1 hi p).seq h) hs hd⟩
  · exact .inr ⟨⟨xs, (hl _ _ _ (Nat.zero_le _) h0).tup h⟩, for_tup Pv h0 (fun i σ H1 hi p => (hl i σ H1 hi p).tup h) hs hd⟩
end L2
namespace L2
open PySem PySem.Spec PyProof.Rows
/-- pairs of ints, by their first, then by their second -/
def geP (x y : Int × Int) : Bool := !SrtO.lexB x y
theorem ge_not (i j : Int) : (!decide (i < j)) = decide (j ≤ i) := by
  by_cases z : i < j
  · rw [decide_eq_true z, decide_eq_false (by omega)]
    rfl
  · rw [decide_eq_false z, decide_eq_true (by omega)]
    rfl
/-- t >= u of two pairs of ints -/
def rGeP (K : PySem.W.Frag) : R2 := fun x y H Q => ∃ (a b : Addr) (p q : Int × Int), x = .ref a ∧ y = .ref b ∧ SqT K H a [.int p.1, .int p.2] ∧ SqT K H b [.int q.1, .int q.2] ∧ Q (.bl (geP p q)) H
theorem pair_vals {i j : Int} {its : List Value} (r : Vals [V.int i, .int j] its) : ∃ t u, its = [.int i t, .int j u] := by
  obtain ⟨u1, u2, rfl, ⟨t, rfl⟩, ⟨u, rfl⟩⟩ := vals2 r
  exact ⟨t, u, rfl⟩
theorem op_geP {X : Cx} (hu : X.A.units < cLine) : OpR X (compareOp .GtE) (rGeP X.K) := by
  intro pins s σ H x y v u Q I rx ry h
  obtain ⟨a, b, p, q, rfl, rfl, ha, hb, k⟩ := h
  cases rx
  cases ry
  obtain ⟨its, r1, p1, _⟩ := I.tuple ha
  obtain ⟨its2, r2, p2, _⟩ := I.tuple hb
  obtain ⟨t1, t2, rfl⟩ := pair_vals r1
  obtain ⟨t3, t4, rfl⟩ := pair_vals r2
  have R := Ob.RcOp.tuples_ge (A := X.A) (s := s) (e := fun j => if j = 0 then (p.1 == q.1) else (p.2 == q.2)) (r := fun j => if j = 0 then decide (q.1 ≤ p.1) else decide (q.2 ≤ p.2)) p1 p2 hu (fun j h1 h2 => by
    match j, h1, h2 with
    | 0, _, _ => exact SeqAt.EqAt.int_int _ _ _ _
    | 1, _, _ => exact SeqAt.EqAt.int_int _ _ _ _) (fun j h1 h2 _ => by
    match j, h1, h2 with
    | 0, _, _ => exact Ob.RcOp.ge_int _ _ _ _
    | 1, _, _ => exact Ob.RcOp.ge_int _ _ _ _)
  have e : geP p q = Ob.lexAt (fun j => if j = 0 then (p.1 == q.1) else (p.2 == q.2)) (fun j => if j = 0 then decide (q.1 ≤ p.1) else decide (q.2 ≤ p.2)) (decide (2 ≥ 2)) 0 2 := by
    rw [Ob.lexAt_succ, Ob.lexAt_succ, Ob.lexAt_zero]
    unfold geP SrtO.lexB
    by_cases e1 : p.1 = q.1
    · rw [if_pos e1, ge_not]
      by_cases e2 : p.2 = q.2
      · have b1 : (p.1 == q.1) = true := beq_iff_eq.mpr e1
        have b2 : (p.2 == q.2) = true := beq_iff_eq.mpr e2
        have z : q.2 ≤ p.2 := by omega
        simp [b1, b2, z]
      · have b1 : (p.1 == q.1) = true := beq_iff_eq.mpr e1
        have b2 : (p.2 == q.2) = false := beq_eq_false_iff_ne.mpr e2
        simp [b1, b2]
    · have b1 : (p.1 == q.1) = false := beq_eq_false_iff_ne.mpr e1
      rw [if_neg e1, ge_not]
      simp [b1]
  rw [e] at k
  have z : wpAny (model X.prog X.w) X.A (compareOp .GtE (.ref a) (.ref b)) (EP X pins σ Q) X.xe s := R X.prog X.w X.xe (EP X pins σ Q) ⟨.bl _, H, I, rfl, k⟩
  exact z
/-- a op b op' c op'' d -/
def tChain3 (r r' r'' : R2) (ta tb tc td : TE) : TE := fun σ H Q => ta σ H fun x H1 => tb σ H1 fun y H2 => r x y H2 fun z H3 => ∃ k, z = .bl k ∧
  (if k = true then tc σ H3 fun w' H4 => r' y w' H4 fun z2 H5 => ∃ k2, z2 = .bl k2 ∧ (if k2 = true then td σ H5 fun w2 H6 => r'' w' w2 H6 Q else Q (.bl false) H5) else Q (.bl false) H3)
theorem pe_chain3 {X : Cx} {a b c d : Expr} {pos : Pos} {ta tb tc td : TE} {op op' op'' : CmpOp} {r r' r'' : R2} (ho : OpR X (compareOp op) r) (ho' : OpR X (compareOp op') r') (ho'' : OpR X (compareOp op'') r'') (ha : PE X a ta) (hb : PE X b tb) (hc : PE X c tc) (hd : PE X d td)
    (hm : lastMarks [op, op', op''] [b, c, d] = false := by with_unfolding_all rfl) : PE X (.Compare a [op, op', op''] [b, c, d] pos) (tChain3 r r' r'' ta tb tc td) := by
  refine ⟨fun pins s σ H Q I h => ?_⟩
  refine Compare_chain (thn (ha.run pins s σ H _ I h) fun v s1 ⟨x, H1, I1, r1, q1⟩ => chain_link (thn (hb.run pins s1 σ H1 _ I1 q1) fun u s2 ⟨y, H2, I2, r2, q2⟩ =>
    thn (ho pins s2 σ H2 x y v u _ I2 r1 r2 q2) fun d s3 ⟨z, H3, I3, r3, k, e, q3⟩ => ?_)) hm
  subst e
  cases r3
  refine wpAny_truthy_bool ?_
  cases k with
  | false => exact ite_ff ⟨.bl false, H3, I3, rfl, q3⟩
  | true =>
    refine ite_tt (chain_link (thn (hc.run pins s3 σ H3 _ I3 q3) fun w' s4 ⟨z', H4, I4, r4, q4⟩ => thn (ho' pins s4 σ H4 y z' u w' _ I4 r2 r4 q4) fun d5 s5 ⟨z5, H5, I5, r5, k5, e5, q5⟩ => ?_))
    subst e5
    cases r5
    refine wpAny_truthy_bool ?_
    cases k5 with
    | false => exact ite_ff ⟨.bl false, H5, I5, rfl, q5⟩
    | true => exact ite_tt (chain_last (thn (hd.run pins s5 σ H5 _ I5 q5) fun w2 s6 ⟨z6, H6, I6, r6, q6⟩ => ho'' pins s6 σ H6 z' z6 w' w2 Q I6 r4 r6 q6))
theorem pt_chain3 {X : Cx} {a b c d : Expr} {pos : Pos} {ta tb tc td : TE} {op op' op'' : CmpOp} {r r' r'' : R2} (ho : OpR X (compareOp op) r) (ho' : OpR X (compareOp op') r') (ho'' : OpR X (compareOp op'') r'') (ha : PE X a ta) (hb : PE X b tb) (hc : PE X c tc) (hd : PE X d td)
    (hm : lastMarks [op, op', op''] [b, c, d] = false := by with_unfolding_all rfl) : PT X (.Compare a [op, op', op''] [b, c, d] pos) (tTest (tChain3 r r' r'' ta tb tc td)) := by
  refine ⟨fun pins s σ H Q I h => ?_⟩
  refine isTrue_chain (thn (ha.run pins s σ H _ I h) fun v s1 ⟨x, H1, I1, r1, q1⟩ => test_link (thn (hb.run pins s1 σ H1 _ I1 q1) fun u s2 ⟨y, H2, I2, r2, q2⟩ =>
    thn (ho pins s2 σ H2 x y v u _ I2 r1 r2 q2) fun d s3 ⟨z, H3, I3, r3, k, e, q3⟩ => ?_)) hm
  subst e
  cases r3
  refine wpAny_truthy_bool ?_
  cases k with
  | false =>
    obtain ⟨k', e', q'⟩ := q3
    cases e'
    exact ite_ff ⟨H3, I3, q'⟩
  | true =>
    refine ite_tt (test_link (thn (hc.run pins s3 σ H3 _ I3 q3) fun w' s4 ⟨z', H4, I4, r4, q4⟩ => thn (ho' pins s4 σ H4 y z' u w' _ I4 r2 r4 q4) fun d5 s5 ⟨z5, H5, I5, r5, k5, e5, q5⟩ => ?_))
    subst e5
    cases r5
    refine wpAny_truthy_bool ?_
    cases k5 with
    | false =>
      obtain ⟨k', e', q'⟩ := q5
      cases e'
      exact ite_ff ⟨H5, I5, q'⟩
    | true =>
      refine ite_tt (test_last (thn (hd.run pins s5 σ H5 _ I5 q5) fun w2 s6 ⟨z6, H6, I6, r6, q6⟩ => thn (ho'' pins s6 σ H6 z' z6 w' w2 _ I6 r4 r6 q6) fun d7 s7 ⟨z7, H7, I7, r7, k7, e7, q7⟩ => ?_))
      subst e7
      cases r7
      exact wpAny_truthy_bool ⟨H7, I7, q7⟩
end L2
namespace L2
open PySem PySem.Spec PyProof.Rows RZ
/-- zip of two tuples, the second not longer than the first -/
theorem for_zipM {K : PySem.W.Frag} {a b : Addr} {xs ys : List V} {g : TG} {tb : TS} {D : Ends} {σ : L2.St} {H : Hp} (hl : ys.length ≤ xs.length) (Pv : Nat → L2.St → Hp → Prop) (h0 : Pv 0 σ H) (hq : ∀ i σ H, Pv i σ H → SqT K H a xs ∧ SqT K H b ys)
    (hs : ∀ (i : Nat) (x y : V) (T : Addr) (σ : L2.St) (H : Hp), xs[i]? = some x → ys[i]? = some y → Pv i σ H → H T = none → g (.ref T) σ (upd H T (.tup [x, y])) fun σ2 H2 => tb { D with nx := Pv (i + 1), ct := Pv (i + 1), bk := D.nx } σ2 H2)
    (hd : ∀ σ H, Pv ys.length σ H → D.nx σ H) :
    ∃ W : Nat → Nat → L2.St → Hp → Prop, (∃ m, W 0 m σ H) ∧ ∀ i m σ H, W i m σ H →
      ((ItzT K a b).stop i H ∧ D.nx σ H) ∨ ((ItzT K a b).go i H ∧ ∃ N : L2.St → Hp → Prop, (∀ σ' H', N σ' H' → ∃ m', m' < m ∧ W (i + 1) m' σ' H') ∧ ∀ v H', (ItzT K a b).yld i H v H' → g v σ H' fun σ2 H2 => tb { D with nx := N, ct := N, bk := D.nx } σ2 H2) := by
  refine ⟨fun i m σ H => m = ys.length - i ∧ i ≤ ys.length ∧ Pv i σ H, ⟨ys.length, rfl, Nat.zero_le _, h0⟩, ?_⟩
  rintro i m σ H ⟨rfl, hi, p⟩
  obtain ⟨qx, qy⟩ := hq i σ H p
  by_cases hlt : i < ys.length
  · have hlx : i < xs.length := by omega
    refine .inr ⟨⟨xs, ys, _, _, qx, qy, List.getElem?_eq_getElem hlx, List.getElem?_eq_getElem hlt⟩, Pv (i + 1), fun σ' H' p' => ⟨ys.length - (i + 1), by omega, rfl, hlt, p'⟩, fun v H' y => ?_⟩
    obtain ⟨T, x', y', rfl, hT, rfl, f1, f2⟩ := y
    exact hs i x' y' T σ H (f1 xs qx) (f2 ys qy) p hT
  · obtain rfl : i = ys.length := by omega
    exact .inl ⟨⟨xs, ys, qx, qy, Or.inr (Nat.le_refl _)⟩, hd σ H p⟩
end L2
namespace L2
open PySem PySem.Spec PyProof.Rows
section
variable {X : Cx} {CX : CXT} {k : Nat} {f C : Addr} {fd : FuncData} {ps : List Str} {sp : Sp} {E : St → XK} {x : Str} {p pos : Pos} {e : Expr} {es : List Expr} {t : TA}
/-- C(..) in a try's body: what it lets out may speak of the slots -/
theorem run_makeS {pins : List (Addr × Obj)} {σ : St} {H : Hp} {s : Shared} {Q : VK} {us : List Value} {vs : List V} (M : Mk X.K C f) (F : FnOk X.prog X.w X.K X.mg X.base CX k f fd ps sp) (hr : Room (k + 1) X.A) (hb : Binds X.K fd ps [])
    (hx : PassesAt CX X σ (E σ)) (I : Inv X pins σ H s) (r : Vals vs us)
    (h : ∀ x dx, H x = none → H dx = none → dx ≠ x → sp (.ref x :: vs) (upd (upd H dx (.own x)) x (.ins C dx [])) (fun v H2 => v = .non ∧ Q (.ref x) H2) (E σ)) :
    wpAny (model X.prog X.w) X.A (call (.ref C) us) (EP X pins σ Q) X.xe s := by
  have hq := h (s.heap.objs.size + 1) s.heap.objs.size (I.hok.fresh (Nat.le_succ _)) (I.hok.fresh (Nat.le_refl _)) (Nat.ne_of_lt (Nat.lt_succ_self _))
  have I2 := Inv.made (C := C) I
  have r2 : Vals (V.ref (s.heap.objs.size + 1) :: vs) (Value.ref (s.heap.objs.size + 1) :: us) := .cons rfl r
  have hl : (Value.ref (s.heap.objs.size + 1) :: us).length = ps.length := by
    have l1 := r2.length
    rw [F.len _ _ _ _ hq] at l1
    exact l1.symm
  have bb := hb _ (Value.ref (s.heap.objs.size + 1) :: us) I2.kIn (by rw [List.append_nil]; exact hl)
  rw [List.append_nil] at bb
  refine wpAny_call (make_map (f := f) I.kIn M.makes M.init (beq_iff_eq.mp M.fn) (codeAny_mono (F.run _ X.stack _ _ ⟨Value.ref (s.heap.objs.size + 1) :: us, []⟩ (Value.ref (s.heap.objs.size + 1) :: us) _ _ (E σ) (hr.make C us []) (I2.env0.make C us []) bb r2 hq) fun r s' hq' => ?_))
  cases r with
  | error e => exact hx pins _ _ e s' I2 hq'
  | ok fl =>
    cases fl with
    | ret u =>
      obtain ⟨v, H', I3, rv, ev, q3⟩ := I2.after hq'
      subst ev
      exact ⟨rv, ⟨V.ref (s.heap.objs.size + 1), H', I3, rfl, q3⟩⟩
    | next => exact False.elim hq'
    | brk => exact False.elim hq'
    | cont => exact False.elim hq'
def tMakeS (C : Addr) (sp : Sp) (E : St → XK) (t : TA) : TE := fun σ H Q => t σ H fun vs H1 => ∀ x dx, H1 x = none → H1 dx = none → dx ≠ x →
  sp (.ref x :: vs) (upd (upd H1 dx (.own x)) x (.ins C dx [])) (fun v H2 => v = .non ∧ Q (.ref x) H2) (E σ)
theorem pe_makeS (M : Mk X.K C f) (F : FnOk X.prog X.w X.K X.mg X.base CX k f fd ps sp) (hr : Room (k + 1) X.A) (hg : Gl X x) (hm : X.mg x = some (.ref C)) (hb : Binds X.K fd ps []) (hx : ∀ σ, PassesAt CX X σ (E σ))
    (ha : PA X (e :: es) t) (hdb : (x == ("__debug__" : Str)) = false := by decide) (he : starEach (e :: es) X.env = (false, eval e X.env) :: starEach es X.env := by rfl) (hpl : (backTo pos (starEach es X.env)).any (·.1) = false := by rfl) :
    PE X (.Call (.Name x p) (e :: es) [] pos) (tMakeS C sp E t) := by
  refine ⟨fun pins s σ H Q I h => ?_⟩
  refine wpAny_Call_Name_kw (ld_glob I hg hm ?_ hdb)
  refine PySem.W.callWith_K (h₀ := X.base) I.ok.mod.kin M.kp (thn (ha.run pos pins s σ H _ I h) fun us s1 ⟨vs, H1, I1, r, q⟩ => ⟨I1.kIn, ?_⟩) he hpl
  exact run_makeS M F hr hb (hx σ) I1 r q
end
end L2
/-! ### sum of a tuple of ints -/
namespace L2
open PySem PySem.Spec PyProof.Rows
def rSumT (K : PySem.W.Frag) : List V → Hp → VK → Prop := fun vs H Q => ∃ (a : Addr) (ns : List Int), vs = [V.ref a] ∧ SqT K H a (ns.map V.int) ∧ Q (.int ns.sum) H
theorem preSum_at (ns : List Int) : ∀ k, k ≤ ns.length → preSum (fun i => (ns[i]?).getD 0) k = (ns.take k).sum
  | 0, _ => by simp [preSum]
  | k + 1, h => by
    rw [preSum, preSum_at ns k (by omega), List.take_add_one, List.getElem?_eq_getElem (by omega : k < ns.length), List.sum_append]
    simp
theorem vals_ints_at : ∀ {ns : List Int} {its : List Value} {i : Nat} {v : Value}, Vals (ns.map V.int) its → its[i]? = some v → ∃ t, v = .int ((ns[i]?).getD 0) t
  | [], _, i, v, .nil, h => by simp at h
  | n :: ns, _, 0, v, .cons r t, h => by
    simp only [List.getElem?_cons_zero, Option.some.injEq] at h
    subst h
    obtain ⟨t, e⟩ := r
    exact ⟨t, e⟩
  | n :: ns, _, i + 1, v, .cons r t, h => by
    simp only [List.getElem?_cons_succ] at h
    simpa using vals_ints_at t h
theorem cr_sumT {X : Cx} (hc : X.calm = true) : CallR X (.builtin "sum") (rSumT X.K) := by
  intro pins s σ H xs us Q I hv h
  obtain ⟨a, ns, rfl, hq, q⟩ := h
  cases hv with
  | cons r t =>
    cases t
    cases r
    obtain ⟨its, rv, p, hz⟩ := I.tuple hq
    have p' : s.heap.IsTuple a its.toArray := p
    obtain ⟨o, ho, p2⟩ := id p'
    have hne : a ≠ s.heap.objs.size := Nat.ne_of_lt (Heap.lt_size ho)
    have hl := rv.length
    rw [List.length_map] at hl
    refine call_sum_walkG (wpAny_pyIter_tuple p' ⟨s.heap.objs.size, [s.heap.objs.size, a], [s.heap.objs.size], _, _, _, fun i => (ns[i]?).getD 0, rfl, Walks.tuple (A := X.A.in1) (I.ok.hd hc) _ a hne its.toArray, ⟨⟨_, Heap.get?_push_size _ rfl, rfl, rfl⟩, ⟨o, Heap.get?_push_of_some _ ho, p2⟩⟩, fun b hb => ?_, fun i v hi => ?_, fun h' tk t' hk => ?_⟩)
    · have h1 := Heap.lt_size ho
      simp only [List.mem_cons, List.not_mem_nil, or_false] at hb
      show b < (s.heap.push _).objs.size
      rw [PyProof.Rows.size_push']
      rcases hb with e | e
      · rw [e]
        exact Nat.lt_succ_self _
      · rw [e]
        exact Nat.lt_succ_of_lt h1
    · refine vals_ints_at rv ?_
      simpa using hi
    · refine ⟨.int (preSum (fun i => (ns[i]?).getD 0) its.toArray.size), H, I.kept (t' := tk) fun b o e => hk b o (fun m => ?_) (Heap.get?_push_of_some _ e), ⟨_, rfl⟩, ?_⟩
      · have h1 := Heap.lt_size e
        rw [List.mem_singleton.mp m] at h1
        exact Nat.lt_irrefl _ h1
      · have e : preSum (fun i => (ns[i]?).getD 0) its.toArray.size = ns.sum := by
          rw [List.size_toArray, ← hl, preSum_at ns _ (Nat.le_refl _), List.take_length]
        rw [e]
        exact q
end L2
/-! ### walks with an invariant on the heap alone: the inner for of a comprehension; zip in a generator expression -/
namespace L2
open PySem PySem.Spec PyProof.Rows
theorem passes_no {X : Cx} : Passes (L2.CX X.prog X.w) X (fun _ _ _ => False) := fun pins σ H s e s' I h => by
  obtain ⟨a, B, H', cls, d, _, _, _, _, _, _, _, h⟩ := h
  exact h.elim
section
variable {K : PySem.W.Frag} {a b : Addr} {xs ys : List V} {H0 : Hp} {B : V → Hp → (Hp → Prop) → Prop} {Nx : Hp → Prop}
theorem w_tup (Pv : Nat → Hp → Prop) (h0 : Pv 0 H0) (hl : ∀ i H, i ≤ xs.length → Pv i H → SqT K H a xs) (hs : ∀ i x H, xs[i]? = some x → Pv i H → B x H (Pv (i + 1))) (hd : ∀ H, Pv xs.length H → Nx H) :
    ∃ W : Nat → Nat → Hp → Prop, (∃ m, W 0 m H0) ∧ ∀ i m H, W i m H → ((Itt K a).stop i H ∧ Nx H) ∨ ((Itt K a).go i H ∧ ∃ N : Hp → Prop, (∀ H', N H' → ∃ m', m' < m ∧ W (i + 1) m' H') ∧ ∀ x H', (Itt K a).yld i H x H' → B x H' N) := by
  refine ⟨fun i m H => m = xs.length - i ∧ i ≤ xs.length ∧ Pv i H, ⟨xs.length, rfl, Nat.zero_le _, h0⟩, ?_⟩
  rintro i m H ⟨rfl, hi, p⟩
  have q := hl i H hi p
  by_cases hlt : i < xs.length
  · refine .inr ⟨⟨xs, _, q, List.getElem?_eq_getElem hlt⟩, Pv (i + 1), fun H' p' => ⟨_, by omega, rfl, hlt, p'⟩, fun x H' y => ?_⟩
    obtain ⟨rfl, y⟩ := y
    exact hs i x _ (y xs q) p
  · have e : i = xs.length := by omega
    subst e
    exact .inl ⟨⟨xs, q, Nat.le_refl _⟩, hd H p⟩
theorem w_list (Pv : Nat → Hp → Prop) (h0 : Pv 0 H0) (hl : ∀ i H, i ≤ xs.length → Pv i H → SqL K H a xs) (hs : ∀ i x H, xs[i]? = some x → Pv i H → B x H (Pv (i + 1))) (hd : ∀ H, Pv xs.length H → Nx H) :
    ∃ W : Nat → Nat → Hp → Prop, (∃ m, W 0 m H0) ∧ ∀ i m H, W i m H → ((Itl K a).stop i H ∧ Nx H) ∨ ((Itl K a).go i H ∧ ∃ N : Hp → Prop, (∀ H', N H' → ∃ m', m' < m ∧ W (i + 1) m' H') ∧ ∀ x H', (Itl K a).yld i H x H' → B x H' N) := by
  refine ⟨fun i m H => m = xs.length - i ∧ i ≤ xs.length ∧ Pv i H, ⟨xs.length, rfl, Nat.zero_le _, h0⟩, ?_⟩
  rintro i m H ⟨rfl, hi, p⟩
  have q := hl i H hi p
  by_cases hlt : i < xs.length
  · refine .inr ⟨⟨xs, _, q, List.getElem?_eq_getElem hlt⟩, Pv (i + 1), fun H' p' => ⟨_, by omega, rfl, hlt, p'⟩, fun x H' y => ?_⟩
    obtain ⟨rfl, y⟩ := y
    exact hs i x _ (y xs q) p
  · have e : i = xs.length := by omega
    subst e
    exact .inl ⟨⟨xs, q, Nat.le_refl _⟩, hd H p⟩
theorem w_range {lo : Int} {n : Nat} (Pv : Nat → Hp → Prop) (h0 : Pv 0 H0) (hs : ∀ i H, i < n → Pv i H → B (.int (lo + i)) H (Pv (i + 1))) (hd : ∀ H, Pv n H → Nx H) :
    ∃ W : Nat → Nat → Hp → Prop, (∃ m, W 0 m H0) ∧ ∀ i m H, W i m H → ((Itr lo n).stop i H ∧ Nx H) ∨ ((Itr lo n).go i H ∧ ∃ N : Hp → Prop, (∀ H', N H' → ∃ m', m' < m ∧ W (i + 1) m' H') ∧ ∀ x H', (Itr lo n).yld i H x H' → B x H' N) := by
  refine ⟨fun i m H => m = n - i ∧ i ≤ n ∧ Pv i H, ⟨n, rfl, Nat.zero_le _, h0⟩, ?_⟩
  rintro i m H ⟨rfl, hi, p⟩
  by_cases hlt : i < n
  · refine .inr ⟨hlt, Pv (i + 1), fun H' p' => ⟨_, by omega, rfl, hlt, p'⟩, fun x H' y => ?_⟩
    obtain ⟨rfl, rfl⟩ := y
    exact hs i _ hlt p
  · have e : i = n := by omega
    subst e
    exact .inl ⟨Nat.le_refl _, hd H p⟩
end
end L2
namespace GXP
open PySem PySem.Spec PyProof.Rows L2 RZ
section
variable {K : PySem.W.Frag} {a b : Addr} {xs ys : List V} {g : TG} {tt : TT} {te : TE} {vs : List Nat} {σ : L2.St} {cy : Cy} {Qe : List V → Hp → Prop} {H0 : Hp}
/-- zip of two tuples of one length -/
theorem gx_zipT (hn : xs.length = ys.length) (Pv : Nat → List V → Hp → Prop) (h0 : Pv 0 [] H0) (hl : ∀ i zs H, Pv i zs H → SqT K H a xs ∧ SqT K H b ys)
    (hs : ∀ i x y T zs H, xs[i]? = some x → ys[i]? = some y → Pv i zs H → H T = none → g (.ref T) (wipe σ vs) (upd H T (.tup [x, y])) fun σ2 H2 => wipe σ2 vs = wipe σ vs ∧ tt σ2 H2 fun b H3 => if b = true then te σ2 H3 fun y H4 => cy zs y H4 (Pv (i + 1)) else Pv (i + 1) zs H3)
    (hd : ∀ zs H, Pv ys.length zs H → Qe zs H) : ∃ W m, W 0 m [] H0 ∧ Turns (ItzT K a b) g tt te vs σ cy Qe W := by
  refine ⟨fun i m zs H => m = ys.length - i ∧ i ≤ ys.length ∧ Pv i zs H, ys.length, ⟨rfl, Nat.zero_le _, h0⟩, ?_⟩
  rintro i m zs H ⟨rfl, hi, p⟩
  obtain ⟨qx, qy⟩ := hl i zs H p
  by_cases hlt : i < ys.length
  · have hlx : i < xs.length := by omega
    refine .inr ⟨⟨xs, ys, _, _, qx, qy, List.getElem?_eq_getElem hlx, List.getElem?_eq_getElem hlt⟩, by omega, Pv (i + 1), fun zs' H' p' => ⟨_, by omega, rfl, hlt, p'⟩, fun v H' y => ?_⟩
    obtain ⟨T, x', y', rfl, hT, rfl, f1, f2⟩ := y
    exact hs i x' y' T zs H (f1 xs qx) (f2 ys qy) p hT
  · have e : i = ys.length := by omega
    subst e
    exact .inl ⟨⟨xs, ys, qx, qy, Or.inr (Nat.le_refl _)⟩, hd zs H p⟩
end
end GXP
/-! ### enumerate of a list or a tuple -/
namespace L2
open PySem PySem.Spec PyProof.Rows
theorem wp_if {α : Type} {M : Model} {A : Around} {E : Value → Shared → Prop} {s : Shared} {c : Bool} {x y : Sem α} {Q : α → Shared → Prop} (h1 : wpAny M A x Q E s) (h2 : wpAny M A y Q E s) : wpAny M A (if c = true then x else y) Q E s := by
  cases c
  · exact h2
  · exact h1
theorem call_enumerate_tup {prog : Program} {w : World} {A : Around} {E : Value → Shared → Prop} {s : Shared} {t : Addr} {items : Array Value} {Q : Value → Shared → Prop} (hI : s.heap.IsTuple t items)
    (hQ : ∀ (h' : Heap) (e : Addr), s.heap.objs.size ≤ e → e ≠ s.heap.objs.size → IsEnum h' e s.heap.objs.size 0 Value.none → h'.IsTupleIter s.heap.objs.size t 0 → (∀ (b : Addr) (o : Obj), s.heap.get? b = some o → h'.get? b = some o) → Q (.ref e) { s with heap := h' }) :
    wpAny (model prog w) A (call (.type "enumerate") [.ref t]) Q E s := by
  refine callType_codes (Q₁ := fun obj s1 => s1.TypeIs obj "enumerate" ∧ Q obj s1) F.called_enumerate (F.typeCall_enumerate_1 _) F.entry_object_init (codeAny_of_tree ?_) fun obj s1 h1 =>
    ⟨h1.1, F.args_object_init_2 obj _, object_init_meets F.called_enumerate.init.lookup F.called_enumerate.made (by decide) prog w A.in1 _ s1 ⟨h1.1, rfl, h1.2⟩⟩
  have pl : plainId "enumerate.__new__" = true := by decide +kernel
  show wpAny _ A.in1.in1 (do checkBuiltinCall "enumerate.__new__" ⟨[.type "enumerate", .ref t], []⟩; again (.builtin "enumerate.__new__" ⟨[.type "enumerate", .ref t], []⟩)) _ _ s
  refine wpAny_bind (wpAny_of_eq (F.newCall_enumerate_1 _) (wpAny_pure ⟨plainId_quiet pl _, codeAny_builtin F.entry_enumerate_new ?_⟩))
  rw [Around.under_plainId pl]
  unfold Builtin.«enumerate.__new__»
  have hsub : isSubtype (Value.type "enumerate") (Value.type "enumerate") = pure true := by rfl
  wp_walk using wpAny_pyIter_tuple hI
  refine wpAny_stack_any fun st => wpAny_pure ?_
  refine wp_if ?_ ?_
  all_goals
    refine wpAny_bind (wpAny_of_eq (show _ = pure (Value.ref t, none) from rfl) ?_)
    wp_walk using wpAny_pyIter_tuple hI
  all_goals
    have o1 : ((s.heap.push { cls := .type "tuple_iterator", data := .fields #[.ref t, .int 0 0] }).push { cls := .type "enumerate", data := .fields #[.none, .bool false, .ref s.heap.objs.size, rawInt 0, .none, .none] }).get? (s.heap.push { cls := .type "tuple_iterator", data := .fields #[.ref t, .int 0 0] }).objs.size = some { cls := .type "enumerate", data := .fields #[.none, .bool false, .ref s.heap.objs.size, rawInt 0, .none, .none] } := Heap.get?_push_size _ rfl
    refine ⟨⟨_, o1, rfl⟩, ?_⟩
    have g2 : ((s.heap.push { cls := .type "tuple_iterator", data := .fields #[.ref t, .int 0 0] }).push { cls := .type "enumerate", data := .fields #[.none, .bool false, .ref s.heap.objs.size, rawInt 0, .none, .none] }).get? s.heap.objs.size = some { cls := .type "tuple_iterator", data := .fields #[.ref t, .int 0 0] } := Heap.get?_push_of_some _ (Heap.get?_push_size _ rfl)
    have hz : (s.heap.push { cls := .type "tuple_iterator", data := .fields #[.ref t, .int 0 0] }).objs.size = s.heap.objs.size + 1 := PyProof.Rows.size_push' _ _
    have hq := hQ _ _ (by rw [hz]; exact Nat.le_succ _) (by rw [hz]; exact Nat.succ_ne_self _) o1 ⟨_, g2, rfl, rfl⟩ fun b o e => Heap.get?_push_of_some _ (Heap.get?_push_of_some _ e)
    exact hq
/-- enumerate of a tuple of n things -/
def IteT (K : PySem.W.Frag) (a : Addr) (n : Nat) : It where
  go := fun i H => ∃ xs x, SqT K H a xs ∧ xs[i]? = some x ∧ xs.length = n
  yld := fun i H v H' => ∃ T x, v = V.ref T ∧ H T = none ∧ H' = upd H T (.tup [V.int (i : Int), x]) ∧ ∀ xs : List V, SqT K H a xs → xs[i]? = some x
  stop := fun i H => ∃ xs, SqT K H a xs ∧ xs.length = n ∧ n ≤ i
theorem vals_get : ∀ {xs : List V} {its : List Value} {i : Nat} {u : Value}, Vals xs its → its[i]? = some u → ∃ x, xs[i]? = some x ∧ RelV x u
  | _, _, i, u, .nil, h => by simp at h
  | _, _, 0, u, .cons r t, h => by
    simp only [List.getElem?_cons_zero, Option.some.injEq] at h
    subst h
    exact ⟨_, rfl, r⟩
  | _, _, i + 1, u, .cons r t, h => by
    simp only [List.getElem?_cons_succ] at h
    obtain ⟨x, h1, h2⟩ := vals_get t h
    exact ⟨x, by simpa using h1, h2⟩
theorem turn_enumT {P : Program} {w : World} {K : PySem.W.Frag} {elts : List Expr} {kk : Nat} {tpos : Pos} {a e it : Addr} {n : Nat} :
    Turn P w K (.Tuple elts kk tpos) (IteT K a n) [e, it] e fun i h => (∃ old, IsEnum h e it (i : Int) old) ∧ h.IsTupleIter it a i ∧ e ≠ it ∧ i ≤ n := by
  have ne_of : ∀ {h : Heap} {i : Nat} {old : Value} {items : Array Value}, IsEnum h e it (i : Int) old → h.IsTupleIter it a i → h.IsTuple a items → e ≠ it → a ≠ it ∧ e ∉ [it, a] := fun he hi ha hne => by
    obtain ⟨o, ho, hc, hd⟩ := hi
    obtain ⟨o2, ho2, hc2, _⟩ := ha
    refine ⟨fun z => ?_, fun m => ?_⟩
    · rw [z, ho] at ho2
      cases ho2
      rw [hc] at hc2
      exact absurd (Value.type.inj hc2) (by decide)
    · simp only [List.mem_cons, List.not_mem_nil, or_false] at m
      rcases m with m | m
      · exact hne m
      · have he2 : _ = some _ := he
        rw [m] at he2
        have he3 := he2.symm.trans ho2
        cases he3
        exact absurd (Value.type.inj hc2) (by decide)
  refine ⟨List.mem_cons_self, fun i h tn b hb => ?_, fun i h h' tn hk => ?_, fun X hP hw hK hcalm i pins s σ H E I hfp tn go => ?_, fun X hP hw hK hcalm i pins s σ H E I hfp tn st => ?_, fun A i s Q E tn q => ?_⟩
  · obtain ⟨⟨old, he⟩, ⟨o, ho, hc, hd⟩, hne, hn⟩ := tn
    simp only [List.mem_cons, List.not_mem_nil, or_false] at hb
    rcases hb with rfl | rfl
    · exact ⟨_, he, fun v z => by cases z⟩
    · exact ⟨o, ho, fun v z => by rw [hd] at z; cases z⟩
  · obtain ⟨⟨old, he⟩, ⟨o, ho, hc, hd⟩, hne, hn⟩ := tn
    exact ⟨⟨old, hk e (by simp) _ he⟩, ⟨o, hk it (by simp) _ ho, hc, hd⟩, hne, hn⟩
  · subst hP
    subst hw
    subst hK
    obtain ⟨xs, x, hq, hx, hlen⟩ := go
    obtain ⟨its, rv, p, hz⟩ := I.tuple hq
    have p' : s.heap.IsTuple a its.toArray := p
    obtain ⟨⟨old, he⟩, hi, hne, hn⟩ := tn
    obtain ⟨h1, h2⟩ := ne_of he hi p' hne
    have W := WalksT.enumerateD (prog := X.prog) (w := X.w) (A := X.A) (Draws.tuple (A := X.A.in1) (I.ok.hd hcalm) it a h1 its.toArray) e hne h2 (by simp)
    have hl := rv.length
    have hlt := (List.getElem?_eq_some_iff.mp hx).1
    refine W.item i s _ E (by rw [List.size_toArray]; omega) ⟨⟨old, he⟩, hi, p'⟩ (fun T vals h' tk hv hT hTup hmid hk => ⟨_, rfl, ?_⟩)
    obtain ⟨t, x', hx', rfl⟩ := hv
    have hTw := W.apart _ _ _ hmid
    refine W.go elts kk tpos i T { s with heap := h', toks := tk } _ E hmid (fun h2 hst hk2 => ?_)
    obtain ⟨⟨old2, he2⟩, hi2, _⟩ := hst
    obtain ⟨x2, hx2, hr⟩ := vals_get rv (by simpa using hx')
    have ex : x2 = x := Option.some.inj (hx2.symm.trans hx)
    subst ex
    obtain ⟨oT, hoT, hcT, nT, hdT⟩ := hTup
    have hn0 : ∀ b ∈ [e, it], b ≠ T := fun b hb z => by
      refine absurd hT (Nat.not_le_of_lt ?_)
      rw [← z]
      simp only [List.mem_cons, List.not_mem_nil, or_false] at hb
      rcases hb with rfl | rfl
      · exact Heap.lt_size he
      · obtain ⟨o, ho, _⟩ := hi
        exact Heap.lt_size ho
    refine ⟨.ref T, upd H T (.tup [V.int (i : Int), x2]), I.turnedNew (ch := [e, it]) (fun b o hb eo => hk2 b o hb (hk b o hb eo)) hfp hT
      (show ObjOk X.prog X.w _ _ _ (.tup [V.int (i : Int), x2]) from ⟨by rw [sizeLine_eq]; simp, [.int (i : Int) t, x'], .cons ⟨t, rfl⟩ (.cons hr .nil), oT, hk2 _ _ hTw hoT, hcT, nT, hdT⟩), rfl, ⟨T, x2, rfl, I.hok.fresh hT, rfl, fun ys hys => by rw [I.tuple_inj hys hq]; exact hx⟩, ⟨⟨old2, he2⟩, hi2, hne, by omega⟩, fun b hb => ?_⟩
    rw [upd_ne (hn0 b hb)]
    exact (hfp b hb).1
  · subst hP
    subst hw
    subst hK
    obtain ⟨xs, hq, hlen, hle⟩ := st
    obtain ⟨its, rv, p, hz⟩ := I.tuple hq
    have p' : s.heap.IsTuple a its.toArray := p
    obtain ⟨⟨old, he⟩, hi, hne, hn⟩ := tn
    obtain ⟨h1, h2⟩ := ne_of he hi p' hne
    have W := WalksT.enumerateD (prog := X.prog) (w := X.w) (A := X.A) (Draws.tuple (A := X.A.in1) (I.ok.hd hcalm) it a h1 its.toArray) e hne h2 (by simp)
    have hl := rv.length
    have ei : i = its.toArray.size := by rw [List.size_toArray]; omega
    refine W.done s _ E ⟨⟨old, by rw [← ei]; exact he⟩, by rw [← ei]; exact hi, p'⟩ (fun h' tk hk => ⟨rfl, I.turnedL (ch := [e, it]) hk hfp⟩)
  · obtain ⟨⟨old, he⟩, _⟩ := tn
    exact wpAny_pyIter_enum he q
/-- enumerate(l), l a tuple -/
def iEnumT (K : PySem.W.Frag) (ta : TA) : TI := fun σ H R => ta σ H fun vs H1 => ∃ a xs, vs = [.ref a] ∧ SqT K H1 a xs ∧ R (IteT K a xs.length) H1
theorem pi_enumT {X : Cx} {e : Expr} {ta : TA} {p pos tpos : Pos} {elts : List Expr} {kk : Nat} (hcalm : X.calm = true) (hg : Gl X "enumerate") (hm : X.mg "enumerate" = none) (ha : PA X [e] ta)
    (he : starEach [e] X.env = (false, eval e X.env) :: starEach [] X.env := by rfl) : PI X (.Tuple elts kk tpos) (.Call (.Name "enumerate" p) [e] [] pos) (iEnumT X.K ta) := by
  refine ⟨fun pins s σ H R I h => ?_⟩
  refine wpAny_Call_Name_kw (ld_blt I hg hm (by decide +kernel : bootBuiltins "enumerate" = some (.type "enumerate")) (PyProof.Rows.callWith_type1 (thn (ha.run pos pins s σ H _ I h) fun us s1 ⟨vs, H1, I1, r, a, xs, ev, hq, q⟩ => ?_) he (by rfl)))
  subst ev
  cases r with
  | cons r t =>
    cases t
    cases r
    obtain ⟨its, rv, p', hz⟩ := I1.tuple hq
    refine call_enumerate_tup (show s1.heap.IsTuple a its.toArray from p') fun h' e1 hle hne hE hT hk => ?_
    have I2 : Inv X pins σ H1 { s1 with heap := h' } := I1.kept (t' := s1.toks) hk
    refine wpAny_pyIter_enum hE ⟨e1, [e1, s1.heap.objs.size], _, _, H1, rfl, I2, turn_enumT, ⟨⟨_, hE⟩, hT, hne, Nat.zero_le _⟩, fun b hb => ?_, q⟩
    simp only [List.mem_cons, List.not_mem_nil, or_false] at hb
    rcases hb with rfl | rfl
    · exact I1.fpOk hle (I1.hok.fresh hle)
    · exact I1.fpOk (Nat.le_refl _) (I1.hok.fresh (Nat.le_refl _))
/-- a walk that counts the things of a list or a tuple that stood in H0 -/
structure EnumW (J : It) (H0 : Hp) (xs : List V) : Prop where
  go : ∀ i H, EXT.Ext H0 H → i < xs.length → J.go i H
  stop : ∀ H, EXT.Ext H0 H → J.stop xs.length H
  yld : ∀ i H v H', EXT.Ext H0 H → J.yld i H v H' → ∃ T x, v = V.ref T ∧ H T = none ∧ H' = upd H T (.tup [V.int (i : Int), x]) ∧ xs[i]? = some x
theorem enumW_list {K : PySem.W.Frag} {H0 : Hp} {a : Addr} {xs : List V} (h : SqL K H0 a xs) : EnumW (Ite K a) H0 xs :=
  ⟨fun i H s hi => ⟨xs, _, s.seq h, List.getElem?_eq_getElem hi⟩, fun H s => ⟨xs, s.seq h, Nat.le_refl _⟩, fun i H v H' s ⟨T, x, e1, e2, e3, e4⟩ => ⟨T, x, e1, e2, e3, e4 xs (s.seq h)⟩⟩
theorem enumW_tup {K : PySem.W.Frag} {H0 : Hp} {a : Addr} {xs : List V} (h : SqT K H0 a xs) : EnumW (IteT K a xs.length) H0 xs :=
  ⟨fun i H s hi => ⟨xs, _, s.tup h, List.getElem?_eq_getElem hi, rfl⟩, fun H s => ⟨xs, s.tup h, rfl, Nat.le_refl _⟩, fun i H v H' s ⟨T, x, e1, e2, e3, e4⟩ => ⟨T, x, e1, e2, e3, e4 xs (s.tup h)⟩⟩
/-- enumerate(l), l a list or a tuple -/
def iEnumS (K : PySem.W.Frag) (ta : TA) : TI := fun σ H R => ta σ H fun vs H1 => ∃ a xs H0, vs = [.ref a] ∧ EXT.Ext H0 H1 ∧ (SqL K H0 a xs ∨ SqT K H0 a xs) ∧ ∀ J, EnumW J H0 xs → R J H1
theorem pi_enumS {X : Cx} {e : Expr} {ta : TA} {p pos tpos : Pos} {elts : List Expr} {kk : Nat} (hcalm : X.calm = true) (hg : Gl X "enumerate") (hm : X.mg "enumerate" = none) (ha : PA X [e] ta)
    (he : starEach [e] X.env = (false, eval e X.env) :: starEach [] X.env := by rfl) : PI X (.Tuple elts kk tpos) (.Call (.Name "enumerate" p) [e] [] pos) (iEnumS X.K ta) := by
  refine ⟨fun pins s σ H R I h => ?_⟩
  refine wpAny_Call_Name_kw (ld_blt I hg hm (by decide +kernel : bootBuiltins "enumerate" = some (.type "enumerate")) (PyProof.Rows.callWith_type1 (thn (ha.run pos pins s σ H _ I h) fun us s1 ⟨vs, H1, I1, r, a, xs, H0, ev, hE0, hq, q⟩ => ?_) he (by rfl)))
  subst ev
  cases r with
  | cons r t =>
    cases t
    cases r
    rcases hq with hq | hq
    · obtain ⟨its, rv, p', hz⟩ := I1.list (hE0.seq hq)
      refine call_enumerate_list p'.isList fun h' hE hT hsz hk => ?_
      have I2 : Inv X pins σ H1 { s1 with heap := h' } := I1.kept (t' := s1.toks) hk
      have hle : s1.heap.objs.size ≤ s1.heap.objs.size + 1 := Nat.le_succ _
      refine wpAny_pyIter_enum hE ⟨s1.heap.objs.size + 1, [s1.heap.objs.size + 1, s1.heap.objs.size], _, _, H1, rfl, I2, turn_enum a _ _, ⟨⟨_, hE⟩, hT, Nat.succ_ne_self _⟩, fun b hb => ?_, q _ (enumW_list hq)⟩
      simp only [List.mem_cons, List.not_mem_nil, or_false] at hb
      rcases hb with rfl | rfl
      · exact I1.fpOk hle (I1.hok.fresh hle)
      · exact I1.fpOk (Nat.le_refl _) (I1.hok.fresh (Nat.le_refl _))
    · obtain ⟨its, rv, p', hz⟩ := I1.tuple (hE0.tup hq)
      refine call_enumerate_tup (show s1.heap.IsTuple a its.toArray from p') fun h' e1 hle hne hE hT hk => ?_
      have I2 : Inv X pins σ H1 { s1 with heap := h' } := I1.kept (t' := s1.toks) hk
      refine wpAny_pyIter_enum hE ⟨e1, [e1, s1.heap.objs.size], _, _, H1, rfl, I2, turn_enumT, ⟨⟨_, hE⟩, hT, hne, Nat.zero_le _⟩, fun b hb => ?_, q _ (enumW_tup hq)⟩
      simp only [List.mem_cons, List.not_mem_nil, or_false] at hb
      rcases hb with rfl | rfl
      · exact I1.fpOk hle (I1.hok.fresh hle)
      · exact I1.fpOk (Nat.le_refl _) (I1.hok.fresh (Nat.le_refl _))
section
variable {J : It} {H0 : Hp} {xs : List V}
theorem w_enum {B : V → Hp → (Hp → Prop) → Prop} {Nx : Hp → Prop} {H1 : Hp} (w : EnumW J H0 xs) (Pv : Nat → Hp → Prop) (h0 : Pv 0 H1) (hl : ∀ i H, i ≤ xs.length → Pv i H → EXT.Ext H0 H)
    (hs : ∀ i x T H, xs[i]? = some x → Pv i H → H T = none → B (.ref T) (upd H T (.tup [V.int (i : Int), x])) (Pv (i + 1))) (hd : ∀ H, Pv xs.length H → Nx H) :
    ∃ W : Nat → Nat → Hp → Prop, (∃ m, W 0 m H1) ∧ ∀ i m H, W i m H → (J.stop i H ∧ Nx H) ∨ (J.go i H ∧ ∃ N : Hp → Prop, (∀ H', N H' → ∃ m', m' < m ∧ W (i + 1) m' H') ∧ ∀ x H', J.yld i H x H' → B x H' N) := by
  refine ⟨fun i m H => m = xs.length - i ∧ i ≤ xs.length ∧ Pv i H, ⟨xs.length, rfl, Nat.zero_le _, h0⟩, ?_⟩
  rintro i m H ⟨rfl, hi, p⟩
  have s := hl i H hi p
  by_cases hlt : i < xs.length
  · refine .inr ⟨w.go i H s hlt, Pv (i + 1), fun H' p' => ⟨_, by omega, rfl, hlt, p'⟩, fun v H' y => ?_⟩
    obtain ⟨T, x, rfl, hT, rfl, hx⟩ := w.yld i H v H' s y
    exact hs i x T H hx p hT
  · have e : i = xs.length := by omega
    subst e
    exact .inl ⟨w.stop H s, hd H p⟩
theorem for_enum {g : TG} {tb : TS} {D : Ends} {σ0 : St} {H1 : Hp} (w : EnumW J H0 xs) (Pv : Nat → St → Hp → Prop) (h0 : Pv 0 σ0 H1) (hl : ∀ i σ H, i ≤ xs.length → Pv i σ H → EXT.Ext H0 H)
    (hs : ∀ i x T σ H, xs[i]? = some x → Pv i σ H → H T = none → g (.ref T) σ (upd H T (.tup [V.int (i : Int), x])) fun σ2 H2 => tb { D with nx := Pv (i + 1), ct := Pv (i + 1), bk := D.nx } σ2 H2) (hd : ∀ σ H, Pv xs.length σ H → D.nx σ H) :
    ∃ W : Nat → Nat → St → Hp → Prop, (∃ m, W 0 m σ0 H1) ∧ ∀ i m σ H, W i m σ H →
      (J.stop i H ∧ D.nx σ H) ∨ (J.go i H ∧ ∃ N : St → Hp → Prop, (∀ σ' H', N σ' H' → ∃ m', m' < m ∧ W (i + 1) m' σ' H') ∧ ∀ x H', J.yld i H x H' → g x σ H' fun σ2 H2 => tb { D with nx := N, ct := N, bk := D.nx } σ2 H2) := by
  refine ⟨fun i m σ H => m = xs.length - i ∧ i ≤ xs.length ∧ Pv i σ H, ⟨xs.length, rfl, Nat.zero_le _, h0⟩, ?_⟩
  rintro i m σ H ⟨rfl, hi, p⟩
  have s := hl i σ H hi p
  by_cases hlt : i < xs.length
  · refine .inr ⟨w.go i H s hlt, Pv (i + 1), fun σ' H' p' => ⟨_, by omega, rfl, hlt, p'⟩, fun v H' y => ?_⟩
    obtain ⟨T, x, rfl, hT, rfl, hx⟩ := w.yld i H v H' s y
    exact hs i x T σ H hx p hT
  · have e : i = xs.length := by omega
    subst e
    exact .inl ⟨w.stop H s, hd σ H p⟩
end
/-- a walk over a list or a tuple that stood in H0 -/
structure SeqW (J : It) (H0 : Hp) (xs : List V) : Prop where
  go : ∀ i H, EXT.Ext H0 H → i < xs.length → J.go i H
  stop : ∀ H, EXT.Ext H0 H → J.stop xs.length H
  yld : ∀ i H v H', EXT.Ext H0 H → J.yld i H v H' → H' = H ∧ xs[i]? = some v
theorem seqW_list {K : PySem.W.Frag} {H : Hp} {a : Addr} {xs : List V} (h : SqL K H a xs) : SeqW (Itl K a) H xs := ⟨fun i H s hi => ⟨xs, _, s.seq h, List.getElem?_eq_getElem hi⟩, fun H s => ⟨xs, s.seq h, Nat.le_refl _⟩, fun i H v H' s y => ⟨y.1, y.2 xs (s.seq h)⟩⟩
theorem seqW_tup {K : PySem.W.Frag} {H : Hp} {a : Addr} {xs : List V} (h : SqT K H a xs) : SeqW (Itt K a) H xs := ⟨fun i H s hi => ⟨xs, _, s.tup h, List.getElem?_eq_getElem hi⟩, fun H s => ⟨xs, s.tup h, Nat.le_refl _⟩, fun i H v H' s y => ⟨y.1, y.2 xs (s.tup h)⟩⟩
/-- a list or a tuple, walked alike -/
def iSeqW (K : PySem.W.Frag) (tl : TE) : TI := fun σ H R => tl σ H fun x H1 => ∃ a xs H0, x = .ref a ∧ EXT.Ext H0 H1 ∧ (SqL K H0 a xs ∨ SqT K H0 a xs) ∧ ∀ J, SeqW J H0 xs → R J H1
theorem pi_seqW {X : Cx} {tg l : Expr} {tl : TE} (hl : PE X l tl) : PI X tg l (iSeqW X.K tl) := by
  refine ⟨fun pins s σ H R I h => ?_⟩
  refine thn (hl.run pins s σ H _ I h) fun v s1 ⟨x, H1, I1, r1, a, xs, H0, e, hE0, hq, q⟩ => ?_
  subst e
  cases r1
  rcases hq with hq | hq
  · obtain ⟨its, rv, p, hz⟩ := I1.list (hE0.seq hq)
    refine wpAny_pyIter_list p.isList ⟨s1.heap.objs.size, [s1.heap.objs.size], _, _, H1, rfl, I1.kept (t' := s1.toks) fun b o e => Heap.get?_push_of_some _ e, turn_list a _, ⟨_, Heap.get?_push_size _ rfl, rfl, rfl⟩, fun b hb => ?_, q _ (seqW_list hq)⟩
    obtain rfl : b = s1.heap.objs.size := by simpa using hb
    exact I1.fpOk (Nat.le_refl _) (I1.hok.fresh (Nat.le_refl _))
  · obtain ⟨its, rv, p, hz⟩ := I1.tuple (hE0.tup hq)
    refine wpAny_pyIter_tuple (show s1.heap.IsTuple a its.toArray from p) ⟨s1.heap.objs.size, [s1.heap.objs.size], _, _, H1, rfl, I1.kept (t' := s1.toks) fun b o e => Heap.get?_push_of_some _ e, turn_tuple a _, ⟨_, Heap.get?_push_size _ rfl, rfl, rfl⟩, fun b hb => ?_, q _ (seqW_tup hq)⟩
    obtain rfl : b = s1.heap.objs.size := by simpa using hb
    exact I1.fpOk (Nat.le_refl _) (I1.hok.fresh (Nat.le_refl _))
theorem w_seq {J : It} {H0 : Hp} {xs : List V} {B : V → Hp → (Hp → Prop) → Prop} {Nx : Hp → Prop} {H1 : Hp} (w : SeqW J H0 xs) (Pv : Nat → Hp → Prop) (h0 : Pv 0 H1) (hl : ∀ i H, i ≤ xs.length → Pv i H → EXT.Ext H0 H)
    (hs : ∀ i x H, xs[i]? = some x → Pv i H → B x H (Pv (i + 1))) (hd : ∀ H, Pv xs.length H → Nx H) :
    ∃ W : Nat → Nat → Hp → Prop, (∃ m, W 0 m H1) ∧ ∀ i m H, W i m H → (J.stop i H ∧ Nx H) ∨ (J.go i H ∧ ∃ N : Hp → Prop, (∀ H', N H' → ∃ m', m' < m ∧ W (i + 1) m' H') ∧ ∀ x H', J.yld i H x H' → B x H' N) := by
  refine ⟨fun i m H => m = xs.length - i ∧ i ≤ xs.length ∧ Pv i H, ⟨xs.length, rfl, Nat.zero_le _, h0⟩, ?_⟩
  rintro i m H ⟨rfl, hi, p⟩
  have s := hl i H hi p
  by_cases hlt : i < xs.length
  · refine .inr ⟨w.go i H s hlt, Pv (i + 1), fun H' p' => ⟨_, by omega, rfl, hlt, p'⟩, fun v H' y => ?_⟩
    obtain ⟨rfl, hx⟩ := w.yld i H v H' s y
    exact hs i v _ hx p
  · have e : i = xs.length := by omega
    subst e
    exact .inl ⟨w.stop H s, hd H p⟩
end L2
/-! ### o[i] of a list, by values; sorted of a tuple of ints -/
namespace AUG
open PySem PySem.Spec PyProof.Rows L2
section
variable {X : Cx}
def rGetL (K : PySem.W.Frag) : V → V → Hp → VK → Prop := fun x y H Q => ∃ p xs i v, x = .ref p ∧ y = .int i ∧ 0 ≤ i ∧ SqL K H p xs ∧ xs[i.toNat]? = some v ∧ Q v H
theorem get_list : PGet X (rGetL X.K) := by
  intro pins s σ H x y v u Q I rx ry h
  obtain ⟨p, xs, i, z, rfl, rfl, h0, hq, he, q⟩ := h
  cases rx
  obtain ⟨t, rfl⟩ := ry
  obtain ⟨its, r, pl, hz⟩ := I.list hq
  obtain ⟨w, ew, rw'⟩ := r.get he
  have hl := r.length
  have hn := line63
  have hlt := (List.getElem?_eq_some_iff.mp he).1
  exact wpAny_getItem_list pl.isList h0 (by omega) (by simpa using ew) ⟨z, H, I, rw', q⟩
theorem sorted_tup {prog : Program} {w : World} {A : Around} {E : Value → Shared → Prop} {s : Shared} {t : Addr} {vs : List Value} {ns : List Int} {Q : Value → Shared → Prop} (ht : IsTup s.heap t vs.toArray) (hI : IntsAre vs ns) (h64 : vs.length < 64)
    (h : ∀ (h1 h' : Heap) (e : Nat) (out : Array Value) (ns' : List Int), (∀ b o, s.heap.get? b = some o → h1.get? b = some o) → (∀ b o, h1.get? b = some o → h'.get? b = some o) → h'.get? h1.objs.size = some (seqObj "list" out e) → IntsAre out.toList ns' → ns'.Perm ns → ns'.Pairwise (· ≤ ·) → Q (.ref h1.objs.size) { s with heap := h' }) :
    wpAny (model prog w) A (call (.builtin "sorted") [.ref t]) Q E s := by
  obtain ⟨o, ho, hc, n, hd⟩ := ht
  have hz : vs.length ≤ sizeLine := by rw [sizeLine_eq]; omega
  refine Calls.call_function_entry kind_sorted plain_sorted entry_sorted (args_sorted1 _) ?_
  unfold Builtin.«sorted»
  refine wpAny_bind (m := checkCount "sorted" 1 1 _) (wpAny_pure ?_)
  refine wpAny_bind (wpAny_collect_seq (T := "tuple") t (.inr rfl) ho hc hd (fun h1 k1 => ?_) (by simpa using hz))
  show wpAny _ _ _ _ _ _
  have e0 : vs.toArray.toList = vs := rfl
  rw [e0]
  refine wpAny_bind (wpAny_newList (s := { s with heap := h1 }) ?_ hz)
  have hoL : (h1.push (seqObj "list" vs.toArray 0)).get? h1.objs.size = some (seqObj "list" vs.toArray 0) := Heap.get?_push_size _ rfl
  show wpAny _ _ _ _ _ { s with heap := h1.push (seqObj "list" vs.toArray 0) }
  refine wpAny_bind (wpAny_holding (wpAny_call_entry slot_list_sort ⟨_, hoL, rfl⟩ entry_list_sort (list_sort_tree (s := { s with heap := h1.push (seqObj "list" vs.toArray 0) }) hoL hI h64 fun out ns' a1 a2 a3 => ⟨_, rfl, ?_⟩) (args_list_sort _)))
  obtain ⟨e, he⟩ := sortedHeap_at (out := out) hoL
  refine wpAny_pure ⟨_, rfl, h h1 _ e out ns' k1 (fun b o hb1 => ?_) he a1 a2 a3⟩
  have hlt := Heap.lt_size hb1
  rw [sortedHeap_old (Nat.ne_of_lt hlt) (by rw [size_push']; exact Nat.lt_succ_of_lt hlt)]
  exact Heap.get?_push_of_some _ hb1
/-- sorted(t), ints -/
def rSortedTu (K : PySem.W.Frag) : List V → Hp → VK → Prop := fun vs H Q => ∃ (a : Addr) (ns : List Int), vs = [V.ref a] ∧ SqT K H a (ns.map V.int) ∧ ns.length < 64 ∧
  ∀ (ns' : List Int) (p : Addr), ns'.Perm ns → ns'.Pairwise (· ≤ ·) → H p = none → Q (.ref p) (upd H p (.lst (ns'.map V.int)))
theorem cr_sortedTu : CallR X (.builtin "sorted") (rSortedTu X.K) := by
  intro pins s σ H vs us Q I r h
  obtain ⟨a, ns, rfl, hs, h64, q⟩ := h
  obtain ⟨its, rv, ht, _⟩ := I.tuple hs
  rw [Vals.ref1 r]
  have hi := rv.ints
  refine sorted_tup ht hi (by rw [hi.length]; exact h64) fun g h' e out ns' k1 kp he h1 h2 h3 => ?_
  have hlen : (ns'.map V.int).length ≤ sizeLine := by rw [List.length_map, h2.length_eq]; exact small64 h64
  have I1 : Inv X pins σ H { s with heap := g } := I.kept (t' := s.toks) k1
  exact ⟨.ref _, upd H g.objs.size (.lst (ns'.map V.int)), I1.laid (t' := s.toks) kp (Nat.le_refl _) ⟨hlen, out.toList, e, vals_of_ints h1, he⟩, rfl, q ns' _ h2 h3 (I1.hok.fresh (Nat.le_refl _))⟩
/-- an int's truth -/
theorem tru_int : TruR X (fun x H Q => ∃ i : Int, x = .int i ∧ Q (i != 0) H) := by
  intro pins s σ H x v Q I rx h
  obtain ⟨i, rfl, q⟩ := h
  exact tru_ok pins s σ H (.int i) v Q I rx ⟨_, rfl, q⟩
def tTruI (ta : TE) : TT := fun σ H Q => ta σ H fun x H' => ∃ i : Int, x = .int i ∧ Q (i != 0) H'
theorem pt_truthI {a : Expr} {ta : TE} (ha : PE X a ta) (he : ∀ whole, isTrue a X.env whole = (do let v ← whole; standAt a.pos; holding [v] (truthy v))) : PT X a (tTruI ta) :=
  ⟨fun pins s σ H Q I h => isTrue_plain (thn (ha.run pins s σ H _ I h) fun v s1 ⟨x, H1, I1, r1, q1⟩ => tru_int pins s1 σ H1 x v Q I1 r1 q1) (he _)⟩
end
end AUG
/-! ### a tuple times a number from 0 on; enumerate in a generator expression -/
namespace L2
open PySem PySem.Spec PyProof.Rows
theorem tuple_mul1 (l : Addr) (items : Array Value) (n : Nat) (dd : Option Addr) (sl : Array (Option Value)) (u : Tok) :
    Meets (Builtin.«tuple.__mul__» ⟨[.ref l, .int 1 u], []⟩) (fun _ R s => s.heap.get? l = some { cls := .type "tuple", dict := dd, data := .seq items n, slots := sl } ∧ R (.ok (.ret (Value.ref l))) s) :=
  .of_wp fun prog w A R s h => by
    obtain ⟨hp, g, d, tk, os⟩ := s
    obtain ⟨hl, h⟩ := h
    have f1 := AutoSeq1.idx_int
    wp_walk using wpAny_loadPart' hl
    exact ⟨_, rfl, h⟩
theorem tuple_mul0 (l : Addr) (items : Array Value) (n : Nat) (dd : Option Addr) (sl : Array (Option Value)) (u : Tok) (hne : items.isEmpty = false) :
    Meets (Builtin.«tuple.__mul__» ⟨[.ref l, .int 0 u], []⟩) (fun _ R s => s.heap.get? l = some { cls := .type "tuple", dict := dd, data := .seq items n, slots := sl } ∧
      R (.ok (.ret (Value.ref s.heap.objs.size))) { s with heap := s.heap.push { cls := Value.type "tuple", data := Data.seq #[] }, toks := s.toks }) :=
  .of_wp fun prog w A R s h => by
    obtain ⟨hp, g, d, tk, os⟩ := s
    obtain ⟨hl, h⟩ := h
    have f1 := AutoSeq1.idx_int
    wp_walk using wpAny_loadPart' hl
    exact ⟨_, rfl, h⟩
/-- t * k, t a tuple that is not (): t itself for 1 -/
def rRepA (K : PySem.W.Frag) : R2 := fun x y H Q => ∃ l k xs, x = .ref l ∧ y = .int k ∧ SqT K H l xs ∧ xs ≠ [] ∧ 0 ≤ k ∧ k ≤ 1000 ∧ xs.length ≤ 1000 ∧ (k = 1 → Q (.ref l) H) ∧ (k ≠ 1 → ∀ p, H p = none → Q (.ref p) (upd H p (.tup (List.replicate k.toNat xs).flatten)))
theorem op_repA {X : Cx} : OpR X (binaryOp .Mult) (rRepA X.K) := by
  intro pins s σ H x y v u Q I rx ry h
  obtain ⟨l, k, xs, rfl, rfl, hT, hne, h0, h2, hz, q1, q2⟩ := h
  by_cases k2 : 2 ≤ k
  · exact op_repT pins s σ H _ _ v u Q I rx ry ⟨l, k, xs, rfl, rfl, hT, hne, k2, h2, hz, q2 (by omega)⟩
  cases rx
  obtain ⟨t, rfl⟩ := ry
  obtain ⟨its, r, ⟨⟨cls, dd, data, sl⟩, ho, hc, n, hd⟩, hs⟩ := I.tuple hT
  simp only at hc hd
  subst hc hd
  have hle : its.length = xs.length := r.length.symm
  have hn : its ≠ [] := fun e => hne (by
    rw [e] at hle
    exact List.eq_nil_of_length_eq_zero hle.symm)
  have hi : its.toArray.isEmpty = false := by
    cases its with
    | nil => exact absurd rfl hn
    | cons a b => rfl
  by_cases k1 : k = 1
  · subst k1
    exact wpAny_binaryOp_repeat_ref (T := "tuple") (U := "int") (by decide) ⟨_, ho, rfl⟩ (fun s' => typeIs_int s' 1 t) noFill_tuple_mul F.fills_int_mul F.slot_int_rmul repeat_tuple F.slot_int_index.lookup
      (call_meets F.slot_int_rmul (typeIs_int s 1 t) F.entry_int_rmul (F.args_int_rmul_2 _ _) (int_rmul_tuple 1 t l its.toArray n dd sl)
        ⟨ho, rfl, ⟨_, ho, rfl⟩, call_meets F.slot_tuple_mul ⟨_, ho, rfl⟩ F.entry_tuple_mul (F.args_tuple_mul_2 _ _) (tuple_mul1 l its.toArray n dd sl t) ⟨ho, ⟨.ref l, H, I, rfl, q1 rfl⟩⟩⟩)
  · obtain rfl : k = 0 := by omega
    refine wpAny_binaryOp_repeat_ref (T := "tuple") (U := "int") (by decide) ⟨_, ho, rfl⟩ (fun s' => typeIs_int s' 0 t) noFill_tuple_mul F.fills_int_mul F.slot_int_rmul repeat_tuple F.slot_int_index.lookup
      (call_meets F.slot_int_rmul (typeIs_int s 0 t) F.entry_int_rmul (F.args_int_rmul_2 _ _) (int_rmul_tuple 0 t l its.toArray n dd sl)
        ⟨ho, rfl, ⟨_, ho, rfl⟩, call_meets F.slot_tuple_mul ⟨_, ho, rfl⟩ F.entry_tuple_mul (F.args_tuple_mul_2 _ _) (tuple_mul0 l its.toArray n dd sl t hi) ⟨ho, ?_⟩⟩)
    refine ⟨.ref s.heap.objs.size, _, I.laid (t' := s.toks) (o := .tup []) (fun b ob q => Heap.get?_push_of_some _ q) (Nat.le_refl _) ?_, rfl, q2 (by decide) _ (I.hok.fresh (Nat.le_refl _))⟩
    exact ⟨Nat.zero_le _, [], .nil, IsTup.new _ _⟩
end L2
namespace GXP
open PySem PySem.Spec PyProof.Rows L2
section
variable {J : It} {H0 : Hp} {xs : List V} {g : TG} {tt : TT} {te : TE} {vs : List Nat} {σ : L2.St} {cy : Cy} {Qe : List V → Hp → Prop} {H1 : Hp}
theorem gx_enum (w : EnumW J H0 xs) (Pv : Nat → List V → Hp → Prop) (h0 : Pv 0 [] H1) (hl : ∀ i ys H, i ≤ xs.length → Pv i ys H → EXT.Ext H0 H)
    (hs : ∀ i x T ys H, xs[i]? = some x → Pv i ys H → H T = none → g (.ref T) (wipe σ vs) (upd H T (.tup [V.int (i : Int), x])) fun σ2 H2 => wipe σ2 vs = wipe σ vs ∧ tt σ2 H2 fun b H3 => if b = true then te σ2 H3 fun y H4 => cy ys y H4 (Pv (i + 1)) else Pv (i + 1) ys H3)
    (hd : ∀ ys H, Pv xs.length ys H → Qe ys H) : ∃ W m, W 0 m [] H1 ∧ Turns J g tt te vs σ cy Qe W := by
  refine ⟨fun i m ys H => m = xs.length - i ∧ i ≤ xs.length ∧ Pv i ys H, xs.length, ⟨rfl, Nat.zero_le _, h0⟩, ?_⟩
  rintro i m ys H ⟨rfl, hi, p⟩
  have s := hl i ys H hi p
  by_cases hlt : i < xs.length
  · refine .inr ⟨w.go i H s hlt, by omega, Pv (i + 1), fun ys' H' p' => ⟨_, by omega, rfl, hlt, p'⟩, fun v H' y => ?_⟩
    obtain ⟨T, x, rfl, hT, rfl, hx⟩ := w.yld i H v H' s y
    exact hs i x T ys H hx p hT
  · have e : i = xs.length := by omega
    subst e
    exact .inl ⟨w.stop H s, hd ys H p⟩
end
end GXP
/-! ### a locked dict walked by its keys -/
namespace L2
open PySem PySem.Spec PyProof.Rows
section
variable {d : Addr} {o : Obj} {H0 : Hp}
theorem for_keysK {kvs : List (Key × V)} {g : TG} {tb : TS} {D : Ends} {σ0 : St} (Pv : Nat → St → Hp → Prop) (h0 : Pv 0 σ0 H0) (hl : ∀ i σ H, i ≤ kvs.length → Pv i σ H → H d = some (.frz o (.dK kvs)))
    (hs : ∀ i k v σ H, kvs[i]? = some (k, v) → Pv i σ H → g (kV k) σ H fun σ2 H2 => tb { D with nx := Pv (i + 1), ct := Pv (i + 1), bk := D.nx } σ2 H2) (hd : ∀ σ H, Pv kvs.length σ H → D.nx σ H) :
    ∃ W : Nat → Nat → St → Hp → Prop, (∃ m, W 0 m σ0 H0) ∧ ∀ i m σ H, W i m σ H →
      ((Itk d o kvs).stop i H ∧ D.nx σ H) ∨ ((Itk d o kvs).go i H ∧ ∃ N : St → Hp → Prop, (∀ σ' H', N σ' H' → ∃ m', m' < m ∧ W (i + 1) m' σ' H') ∧ ∀ x H', (Itk d o kvs).yld i H x H' → g x σ H' fun σ2 H2 => tb { D with nx := N, ct := N, bk := D.nx } σ2 H2) := by
  refine ⟨fun i m σ H => m = kvs.length - i ∧ i ≤ kvs.length ∧ Pv i σ H, ⟨_, rfl, Nat.zero_le _, h0⟩, ?_⟩
  rintro i m σ H ⟨rfl, hi, p⟩
  have q := hl i σ H hi p
  by_cases hlt : i < kvs.length
  · refine .inr ⟨⟨q, hlt⟩, Pv (i + 1), fun σ' H' p' => ⟨_, by omega, rfl, hlt, p'⟩, fun x H' y => ?_⟩
    obtain ⟨rfl, k, v, e, rfl⟩ := y
    exact hs i k v σ _ e p
  · have e : i = kvs.length := by omega
    subst e
    exact .inl ⟨⟨q, Nat.le_refl _⟩, hd σ H p⟩
theorem for_keysT {kvs : List (List Key × V)} {g : TG} {tb : TS} {D : Ends} {σ0 : St} (Pv : Nat → St → Hp → Prop) (h0 : Pv 0 σ0 H0) (hl : ∀ i σ H, i ≤ kvs.length → Pv i σ H → H d = some (.frz o (.dT kvs)))
    (hs : ∀ i k v q σ H, kvs[i]? = some (k, v) → H q = some (.tup (k.map kV)) → Pv i σ H → g (.ref q) σ H fun σ2 H2 => tb { D with nx := Pv (i + 1), ct := Pv (i + 1), bk := D.nx } σ2 H2) (hd : ∀ σ H, Pv kvs.length σ H → D.nx σ H) :
    ∃ W : Nat → Nat → St → Hp → Prop, (∃ m, W 0 m σ0 H0) ∧ ∀ i m σ H, W i m σ H →
      ((Itkt d o kvs).stop i H ∧ D.nx σ H) ∨ ((Itkt d o kvs).go i H ∧ ∃ N : St → Hp → Prop, (∀ σ' H', N σ' H' → ∃ m', m' < m ∧ W (i + 1) m' σ' H') ∧ ∀ x H', (Itkt d o kvs).yld i H x H' → g x σ H' fun σ2 H2 => tb { D with nx := N, ct := N, bk := D.nx } σ2 H2) := by
  refine ⟨fun i m σ H => m = kvs.length - i ∧ i ≤ kvs.length ∧ Pv i σ H, ⟨_, rfl, Nat.zero_le _, h0⟩, ?_⟩
  rintro i m σ H ⟨rfl, hi, p⟩
  have q := hl i σ H hi p
  by_cases hlt : i < kvs.length
  · refine .inr ⟨⟨q, hlt⟩, Pv (i + 1), fun σ' H' p' => ⟨_, by omega, rfl, hlt, p'⟩, fun x H' y => ?_⟩
    obtain ⟨rfl, k, v, q2, e, rfl, ht⟩ := y
    exact hs i k v q2 σ _ e ht p
  · have e : i = kvs.length := by omega
    subst e
    exact .inl ⟨⟨q, Nat.le_refl _⟩, hd σ H p⟩
theorem w_keysK {kvs : List (Key × V)} {B : V → Hp → (Hp → Prop) → Prop} {Nx : Hp → Prop} (Pv : Nat → Hp → Prop) (h0 : Pv 0 H0) (hl : ∀ i H, i ≤ kvs.length → Pv i H → H d = some (.frz o (.dK kvs)))
    (hs : ∀ i k v H, kvs[i]? = some (k, v) → Pv i H → B (kV k) H (Pv (i + 1))) (hd : ∀ H, Pv kvs.length H → Nx H) :
    ∃ W : Nat → Nat → Hp → Prop, (∃ m, W 0 m H0) ∧ ∀ i m H, W i m H → ((Itk d o kvs).stop i H ∧ Nx H) ∨ ((Itk d o kvs).go i H ∧ ∃ N : Hp → Prop, (∀ H', N H' → ∃ m', m' < m ∧ W (i + 1) m' H') ∧ ∀ x H', (Itk d o kvs).yld i H x H' → B x H' N) := by
  refine ⟨fun i m H => m = kvs.length - i ∧ i ≤ kvs.length ∧ Pv i H, ⟨_, rfl, Nat.zero_le _, h0⟩, ?_⟩
  rintro i m H ⟨rfl, hi, p⟩
  have q := hl i H hi p
  by_cases hlt : i < kvs.length
  · refine .inr ⟨⟨q, hlt⟩, Pv (i + 1), fun H' p' => ⟨_, by omega, rfl, hlt, p'⟩, fun x H' y => ?_⟩
    obtain ⟨rfl, k, v, e, rfl⟩ := y
    exact hs i k v _ e p
  · have e : i = kvs.length := by omega
    subst e
    exact .inl ⟨⟨q, Nat.le_refl _⟩, hd H p⟩
end
end L2
/-! ### a dict display with one tuple for its key -/
namespace L2
open PySem PySem.Spec PyProof.Rows
/-- {k: v}, k a tuple of ints and texts; the new dict stands empty while both are made -/
def tDispT (tk tv : TE) : TE := fun σ H Q => ∀ p, H p = none → tk σ (upd H p (.dT [])) fun x H1 => tv σ H1 fun y H2 => H2 p = some (.dT []) ∧ ∃ (b : Addr) (ks : List Key), x = .ref b ∧ H2 b = some (.tup (ks.map kV)) ∧ Q (.ref p) (upd H2 p (.dT [(ks, y)]))
theorem pe_dispT {X : Cx} {pos : Pos} {k v : Expr} {tk tv : TE} (hu : X.A.units + 1 < cLine) (hk : PE X k tk) (hv : PE X v tv) : PE X (.Dict [some k] [v] pos) (tDispT tk tv) := by
  refine ⟨fun pins s σ H Q I q => ?_⟩
  have hn := I.hok.fresh (Nat.le_refl s.heap.objs.size)
  have I1 := I.laid (a := s.heap.objs.size) (o := .dT []) (h' := s.heap.push { cls := .type "dict", data := .dict #[] }) (t' := s.toks) (fun _ _ q => Heap.get?_push_of_some _ q) (Nat.le_refl _) (dt_empty s.heap I.big)
  rw [arm_eval_Dict, zip_pairTrees [some k] [v] X.env pos rfl rfl, dictDisplay_pairs _ (by simp [pairTrees]) (by simp [pairTrees])]
  refine wpAny_bind (wpAny_standAt (wpAny_bind (wpAny_subDictH (knd := tupleKind (mixKind X.prog X.w)) (Q := fun d s' => wpAny (model X.prog X.w) X.A (pure (Value.ref d)) (EP X pins σ Q) X.xe s') (show X.A.units < cLine from Nat.lt_of_succ_lt hu) (by simp [pairTrees]) ?_)))
  refine pairTrees_cons_walk (thn (hk.run pins _ σ _ _ I1 (q _ hn)) fun u s1 ⟨x, H1, J1, rx, q1⟩ => thn (hv.run pins s1 σ H1 _ J1 q1) fun w2 s2 ⟨y, H2, I2, ry, e, b, ks, ex, eb, q2⟩ => pairTrees_nil_walk ?_)
  subst ex
  cases rx
  obtain ⟨z, hd, xs0, r0, dd⟩ := dt_of I2.hok e
  cases r0
  refine ⟨[(ks, b, w2)], ⟨rfl, rfl, key_of I2.hok eb, trivial⟩, dd, fun h' tk dd' hs => wpAny_pure ⟨.ref s.heap.objs.size, _, ?_, rfl, q2⟩⟩
  have dd' : h'.DictOfH (tupleKind (mixKind X.prog X.w)) s.heap.objs.size (storedH [] ks b w2) := dd'
  obtain ⟨q3, es, ep, hq, h2, h3, h4, _, h5⟩ := dd'
  have rel : KT H2 (putK [] ks y) (storedH [] ks b w2) := KT.put (.nil) ks eb ry
  refine d_write I2 (by rw [e]; exact True.intro) hs ⟨q3, hq⟩ ⟨by rw [sizeLine_eq]; simp, hd, _, rel.keeps fun c ys ec => ?_, q3, es, ep, hq, h2, h3, h4, h5⟩
  rw [upd_ne (ne_of ec e (fun z => nomatch z))]
  exact ec
end L2
/-! ### for k, v in d.items(), d a dict with tuples for its keys, made on the way (nobody else holds it) -/
namespace ITT
open PySem PySem.Spec PyProof.Rows L2 GXP L2.DX
/-- the pairs (key's own tuple, value), each a new tuple; the dict is locked -/
def ItiT (d : Addr) (o : Obj) (kvs : List (List Key × V)) : It :=
  ⟨fun i H => H d = some (.frz o (.dT kvs)) ∧ i < kvs.length,
   fun i H x H' => ∃ (T q : Addr) (k : List Key) (v : V), kvs[i]? = some (k, v) ∧ x = .ref T ∧ H T = none ∧ H q = some (.tup (k.map kV)) ∧ H' = upd H T (.tup [.ref q, v]),
   fun i H => H d = some (.frz o (.dT kvs)) ∧ kvs.length ≤ i⟩
theorem frzT_all {X : Cx} {pins : List (Addr × Obj)} {σ : L2.St} {H : Hp} {s : Shared} {d : Addr} {o : Obj} {kvs : List (List Key × V)} (I : Inv X pins σ H s) (h : H d = some (.frz o (.dT kvs))) :
    ∃ (es : Array DictEntry) (ep : Nat), o.data = .dict es ep ∧ s.heap.DictRaw d es ep ∧ es.size = kvs.length ∧
      ∀ (i : Nat) (k : List Key) (v : V), kvs[i]? = some (k, v) → ∃ (hi : i < es.size) (q : Addr), es[i].key = .ref q ∧ H q = some (.tup (k.map kV)) ∧ RelV v es[i].val := by
  obtain ⟨hd, z, hs, xs, pr, o', es, ep, ho, hx, hdt, he, _⟩ := I.hok d _ h
  have ho2 := hd.symm.trans ho
  obtain rfl : o = o' := Option.some.inj ho2
  have l1 : es.size = xs.length := size_of_entries he
  have l2 : kvs.length = xs.length := Paired.length pr
  refine ⟨es, ep, hdt, ⟨o, hd, hx, hdt⟩, l1.trans l2.symm, fun i k v e => ?_⟩
  obtain ⟨b, hb, e1, e2, e3⟩ := paired_get pr e
  have hi : i < es.size := by
    have := (List.getElem?_eq_some_iff.mp hb).1
    omega
  have q := entry_at he i
  rw [hb, Array.getElem?_eq_getElem hi, Option.map_some] at q
  have q := Option.some.inj q
  refine ⟨hi, b.2.1, by rw [q]; rfl, e2, ?_⟩
  rw [q]
  exact e3
theorem turn_itemsT {P : Program} {w : World} {K : PySem.W.Frag} {d : Addr} {o : Obj} {es : Array DictEntry} {ep : Nat} {kvs : List (List Key × V)} {elts : List Expr} {kk : Nat} {tpos : Pos} (it : Addr) (hod : o.data = .dict es ep) :
    Turn P w K (.Tuple elts kk tpos) (ItiT d o kvs) [it] it (fun i h => ∃ ok ov, IsItemIter h it d i kvs.length ep ok ov) := by
  refine ⟨List.mem_singleton.mpr rfl, fun i h st b hb => ?_, fun i h h' st k => ?_, fun X hP hw hK hc i pins s σ H E I hf st hg => ?_, fun X hP hw hK hc i pins s σ H E I hf st hg => ?_, fun A i s Q E st h => ?_⟩
  · obtain ⟨ok, ov, e⟩ := st
    rw [List.mem_singleton.mp hb]
    exact ⟨_, e, fun v z => nomatch z⟩
  · obtain ⟨ok, ov, e⟩ := st
    exact ⟨ok, ov, k it (List.mem_singleton.mpr rfl) _ e⟩
  · subst hP
    subst hw
    subst hK
    obtain ⟨hd, hi⟩ := hg
    obtain ⟨es', ep', hdt, hraw, hsz, ent⟩ := frzT_all I hd
    obtain ⟨rfl, rfl⟩ := dict_ep hod hdt
    obtain ⟨⟨k, v⟩, hkv⟩ : ∃ p, kvs[i]? = some p := ⟨_, List.getElem?_eq_getElem hi⟩
    obtain ⟨hi2, q, ekey, hq, ru⟩ := ent i k v hkv
    obtain ⟨ok, ov, he⟩ := st
    rw [← hsz] at he
    have hlt : it < s.heap.objs.size := Heap.lt_size he
    refine wpAny_pyNext_items_item_raw he hraw hi2 fun h' ho hT hz hk => ?_
    refine ⟨_, rfl, wpAny_letOwnedTupleGo_items (s := { s with heap := h' }) ho fun h'' he' sb => ?_⟩
    have hT2 : h''.get? s.heap.objs.size = some { cls := .type "tuple", data := .seq #[es'[i].key, es'[i].val] } := (sb.2 _ (Nat.ne_of_gt hlt)).trans hT
    have okT : ObjOk X.prog X.w (upd H s.heap.objs.size (.tup [.ref q, v])) h'' s.heap.objs.size (.tup [.ref q, v]) :=
      ⟨by rw [sizeLine_eq]; simp, [es'[i].key, es'[i].val], .cons ekey (.cons ru .nil), ⟨_, hT2, rfl, _, rfl⟩⟩
    have I1 : Inv X pins σ (upd H s.heap.objs.size (.tup [.ref q, v])) { s with heap := h'' } :=
      I.turnedNew (t' := s.toks) (ch := [it]) (fun b ob hb e => (sb.2 b (fun z => hb (List.mem_singleton.mpr z))).trans (hk b ob (fun z => hb (List.mem_singleton.mpr z)) e)) hf (Nat.le_refl _) okT
    refine ⟨.ref s.heap.objs.size, _, I1, rfl, ⟨_, q, k, v, hkv, rfl, I.hok.fresh (Nat.le_refl _), hq, rfl⟩, ⟨es'[i].key, es'[i].val, ?_⟩, fun b hb => ?_⟩
    · rw [← hsz]
      exact he'
    · rw [List.mem_singleton.mp hb, upd_ne (Nat.ne_of_lt hlt)]
      exact (hf it (List.mem_singleton.mpr rfl)).1
  · subst hP
    subst hw
    subst hK
    obtain ⟨hd, hi⟩ := hg
    obtain ⟨f0, f1, f2, f3, f4, f5⟩ := hf it (List.mem_singleton.mpr rfl)
    obtain ⟨es', ep', hdt, hraw, hsz, ent⟩ := frzT_all I hd
    obtain ⟨rfl, rfl⟩ := dict_ep hod hdt
    obtain ⟨ok, ov, he⟩ := st
    rw [← hsz] at he
    exact wpAny_pyNext_items_end_raw (I.ok.hd hc) he hraw (by omega) fun h' eb => ⟨rfl, I.turned (t' := s.toks) (fun b ob hb e => eb b ob hb e) f0 f1 f3 f4 f5⟩
  · obtain ⟨_, _, e⟩ := st
    exact PySem.W.kcp_self e h
/-- what a view shows, walked -/
def iView (tv : TE) : TI := fun σ H R => tv σ H fun x H1 => ∃ (p d : Addr) (kvs : List (List Key × V)), x = .ref p ∧ H1 p = some (itemsO p d) ∧ H1 d = some (.dT kvs) ∧ ∀ o, R (ItiT d o kvs) (upd H1 d (.frz o (.dT kvs)))
theorem pi_view {X : Cx} {e : Expr} {tv : TE} {elts : List Expr} {kk : Nat} {tpos : Pos} (he : PE X e tv) : PI X (.Tuple elts kk tpos) e (iView tv) := by
  refine ⟨fun pins s σ H R I h => ?_⟩
  refine thn (he.run pins s σ H _ I h) fun u s1 ⟨x, H1, I1, rx, p, d, kvs, ex, hp, hd, q⟩ => ?_
  subst ex
  obtain rfl : u = Value.ref p := rx
  have view : s1.heap.IsItemsView p d := (show ObjOk X.prog X.w H1 s1.heap p (itemsO p d) from I1.hok p _ hp).1
  obtain ⟨o, I2⟩ := I1.lock hd trivial
  have hd2 : upd H1 d (.frz o (.dT kvs)) d = some (.frz o (.dT kvs)) := upd_same
  obtain ⟨es, ep, hdt, hraw, hsz, ent⟩ := frzT_all I2 hd2
  refine wpAny_pyIter_items_raw view hraw (pi_one (tk := s1.toks) I2 _ (turn_itemsT _ hdt) ⟨.none, .none, ?_⟩ (q o))
  rw [← hsz]
  exact Heap.get?_push_size _ rfl
section
variable {d : Addr} {o : Obj} {H0 : Hp}
theorem for_itemsT {kvs : List (List Key × V)} {g : TG} {tb : TS} {D : Ends} {σ0 : L2.St} (Pv : Nat → L2.St → Hp → Prop) (h0 : Pv 0 σ0 H0) (hl : ∀ i σ H, i ≤ kvs.length → Pv i σ H → H d = some (.frz o (.dT kvs)))
    (hs : ∀ i k v q T σ H, kvs[i]? = some (k, v) → H q = some (.tup (k.map kV)) → H T = none → Pv i σ H → g (.ref T) σ (upd H T (.tup [.ref q, v])) fun σ2 H2 => tb { D with nx := Pv (i + 1), ct := Pv (i + 1), bk := D.nx } σ2 H2) (hd : ∀ σ H, Pv kvs.length σ H → D.nx σ H) :
    ∃ W : Nat → Nat → L2.St → Hp → Prop, (∃ m, W 0 m σ0 H0) ∧ ∀ i m σ H, W i m σ H →
      ((ItiT d o kvs).stop i H ∧ D.nx σ H) ∨ ((ItiT d o kvs).go i H ∧ ∃ N : L2.St → Hp → Prop, (∀ σ' H', N σ' H' → ∃ m', m' < m ∧ W (i + 1) m' σ' H') ∧ ∀ x H', (ItiT d o kvs).yld i H x H' → g x σ H' fun σ2 H2 => tb { D with nx := N, ct := N, bk := D.nx } σ2 H2) := by
  refine ⟨fun i m σ H => m = kvs.length - i ∧ i ≤ kvs.length ∧ Pv i σ H, ⟨_, rfl, Nat.zero_le _, h0⟩, ?_⟩
  rintro i m σ H ⟨rfl, hi, p⟩
  have q := hl i σ H hi p
  by_cases hlt : i < kvs.length
  · refine .inr ⟨⟨q, hlt⟩, Pv (i + 1), fun σ' H' p' => ⟨_, by omega, rfl, hlt, p'⟩, fun x H' y => ?_⟩
    obtain ⟨T, qa, k, v, h1, rfl, h2, h3, rfl⟩ := y
    exact hs i k v qa T σ H h1 h3 h2 p
  · obtain rfl : i = kvs.length := by omega
    exact .inl ⟨⟨q, Nat.le_refl _⟩, hd σ H p⟩
end
end ITT
/-! ### any of a tuple of ints -/
namespace L2
open PySem PySem.Spec PyProof.Rows
def rAnyI (K : PySem.W.Frag) : List V → Hp → VK → Prop := fun vs H Q => ∃ (a : Addr) (ns : List Int), vs = [V.ref a] ∧ SqT K H a (ns.map V.int) ∧ Q (.bl (ns.any fun n => decide (n ≠ 0))) H
theorem any_at (ns : List Int) : (List.range ns.length).any (fun i => decide ((ns[i]?).getD 0 ≠ 0)) = ns.any fun n => decide (n ≠ 0) := by
  have key : ∀ l : List Int, (List.range l.length).any (fun i => decide ((l[i]?).getD 0 ≠ 0)) = l.any fun n => decide (n ≠ 0) := fun l => by
    induction l with
    | nil => rfl
    | cons n l ih =>
      rw [List.length_cons, List.range_succ_eq_map, List.any_cons, List.any_map, List.any_cons, ← ih]
      congr 1
  exact key ns
theorem cr_anyI {X : Cx} (hc : X.calm = true) : CallR X (.builtin "any") (rAnyI X.K) := by
  intro pins s σ H xs us Q I hv h
  obtain ⟨a, ns, rfl, hq, q⟩ := h
  cases hv with
  | cons r t =>
    cases t
    cases r
    obtain ⟨its, rv, p, hz⟩ := I.tuple hq
    have p' : s.heap.IsTuple a its.toArray := p
    obtain ⟨o, ho, p2⟩ := id p'
    have hne : a ≠ s.heap.objs.size := Nat.ne_of_lt (Heap.lt_size ho)
    have hl := rv.length
    rw [List.length_map] at hl
    refine call_any_walk (wpAny_pyIter_tuple p' ⟨s.heap.objs.size, [s.heap.objs.size, a], [s.heap.objs.size], _, _, _, fun i => decide ((ns[i]?).getD 0 ≠ 0), rfl, Walks.tuple (A := X.A.in1) (I.ok.hd hc) _ a hne its.toArray, ⟨⟨_, Heap.get?_push_size _ rfl, rfl, rfl⟩, ⟨o, Heap.get?_push_of_some _ ho, p2⟩⟩, fun i v s' Q' E' hi hq' => ?_, fun h' tk hk => ?_⟩)
    · obtain ⟨t, rfl⟩ := vals_ints_at rv (by simpa using hi)
      have e : ∀ z : Int, (z != 0) = decide (z ≠ 0) := fun z => by by_cases h : z = 0 <;> simp [h]
      refine PySem.P.truthy_int ?_
      rw [e]
      exact hq'
    · refine ⟨.bl _, H, I.kept fun b o eo => hk b o (fun hmem => ?_) (Heap.get?_push_of_some _ eo), ?_, q⟩
      · rw [List.mem_singleton.mp hmem] at eo
        exact absurd (Heap.lt_size eo) (Nat.lt_irrefl _)
      · show Value.bool _ = Value.bool _
        rw [← any_at, List.size_toArray, ← hl]
end L2
/-! ### defs that raise with no context, and a def called within an except suite -/
namespace HTN
open PySem PySem.Spec PyProof.Rows L2 EXT
theorem takes0N {X : Cx} : L2N.Takes X (fun _ _ _ _ => False) := fun _ _ x => by
  obtain ⟨_, _, _, _, _, _, _, _, _, _, _, _, _, _, _, _, z⟩ := x
  exact z.elim
theorem passes_noN {X : Cx} : Passes (L2N.CX X.prog X.w) X (fun _ _ _ => False) := fun pins σ H s e s' I h => by
  obtain ⟨a, B, H', cls, d, _, _, _, _, _, _, _, h⟩ := h
  exact h.elim
section
variable {P : Program} {w : World} {K : PySem.W.Frag} {mg : Str → Option Value} {base : Heap}
theorem _root_.L2.Fun.okN {x qual : Str} {st : Stmt} {f : Addr} {fd : FuncData} {N ps : List Str} {k : Nat} {sp : Sp} (F : Fun K x qual st f fd) (S : FnScope N ps (defScope st)) (len : ∀ vs H Q E, sp vs H Q E → vs.length = ps.length)
    (hbody : ∀ (cdv : Value) (A : Around) (outer : List Env) (s : Shared) (H : Hp) (vs : List V) (Q : VK) (E : XK), Room k (A.deeper (envOfC qual (defScope st) s.heap.objs.size f cdv)) → sp vs H Q E →
      ∃ t, PSs (cxOf (L2N.CX P w) P w K mg base N qual (defScope st) f cdv A outer s H E) (defBody st) t ∧ t { nx := fun _ H' => Q .non H', rt := Q } (L2.start N vs) H) : FnOk P w K mg base (L2N.CX P w) (k + 1) f fd ps sp := by
  obtain ⟨oc, od, kV, doc, pm, an, cdv, ct, osl, e, lk, hcd⟩ := F.ex
  subst e
  exact fn_of lk hcd S len fun A outer s H vs Q E hr hsp => hbody cdv A outer s H vs Q E hr hsp
/-- a def of this kind where an exception is being handled -/
theorem _root_.L2.Fun.okH {x qual : Str} {st : Stmt} {f : Addr} {fd : FuncData} {N ps : List Str} {k : Nat} {sp : Sp} (F : Fun K x qual st f fd) (S : FnScope N ps (defScope st)) (len : ∀ vs H Q E, sp vs H Q E → vs.length = ps.length)
    (hbody : ∀ (cdv : Value) (A : Around) (outer : List Env) (s : Shared) (H : Hp) (vs : List V) (Q : VK) (E : XK) (p : Addr × Obj), sp vs H Q E →
      ∃ t, PSs (L2H.cxH (L2N.CX P w) P w K mg base N qual (defScope st) f cdv A outer s H E p) (defBody st) t ∧ t { nx := fun _ H' => Q .non H', rt := Q } (L2.start N vs) H) : L2H.FnH P w K mg base (L2N.CX P w) (k + 1) f fd ps sp := by
  obtain ⟨oc, od, kV, doc, pm, an, cdv, ct, osl, e, lk, hcd⟩ := F.ex
  subst e
  exact L2H.fn_ofH lk hcd S len fun A outer s H vs Q E p _ _ hsp => hbody cdv A outer s H vs Q E p hsp
end
theorem passesAt0 {X : Cx} {σ : L2.St} : PassesAt (L2N.CX X.prog X.w) X σ (fun _ _ _ => False) := fun pins H s e s' I h => by
  obtain ⟨a, B, H', cls, d, _, _, _, _, _, _, _, h⟩ := h
  exact h.elim
theorem roomS {k : Nat} {X : Cx} {a : Addr} {pn : List (Addr × Obj)} (h : Room k X.A) : L2H.RoomH k (X.suite a pn).A := ⟨h.dp, h.un⟩
theorem hotS {X : Cx} {a : Addr} {oe : Obj} {pn : List (Addr × Obj)} {cls : Value} {d : Option Addr} (hz : L2N.Zn cls d oe) (hf : ∃ vs, oe.data = .fields vs) : L2H.HotC (X.suite a ((a, oe) :: pn)) := by
  obtain ⟨vs, e⟩ := hf
  exact ⟨(a, oe), ⟨rfl, vs, e, hz.2.2 vs e⟩, List.mem_cons_self⟩
end HTN
/-! ### set(t) of a tuple of ints -/
namespace L2
open PySem PySem.Spec PyProof.Rows
def rSetI (K : PySem.W.Frag) (w : World) : List V → Hp → VK → Prop := fun xs H Q => ∃ (p : Addr) (ns : List Int), xs = [V.ref p] ∧ SqT K H p (ns.map V.int) ∧ ns.length ≤ 1000 ∧ ∀ (a : Addr) (c : Nat), H a = none → c ≤ ns.length → Q (.ref a) (upd H a (SetO w a (fun j => decide (j ∈ ns)) c))
theorem cr_setI {X : Cx} (hc : X.calm = true) : CallR X (.type "set") (rSetI X.K X.w) := by
  intro pins s σ H xs us Q I r h
  obtain ⟨p0, ns, rfl, hq, hl, q⟩ := h
  cases r with
  | cons r rr =>
    cases rr
    cases r
    obtain ⟨its, rv, pt, hz⟩ := I.tuple hq
    have hi : IntsAre its.toArray.toList ns := ints_of_vals rv
    refine call_set_tupI ns (I.ok.hd hc) (show s.heap.IsTuple p0 its.toArray from pt) hi (by unfold scanBound; omega) fun h' tk c R1 hcn k => ?_
    have hn : H s.heap.objs.size = none := I.hok.fresh (Nat.le_refl _)
    exact ⟨.ref s.heap.objs.size, upd H s.heap.objs.size (SetO X.w s.heap.objs.size (fun j => decide (j ∈ ns)) c), I.laid (t' := tk) k (Nat.le_refl _) (setO_new R1), rfl, q _ c hn hcn⟩
end L2
/-! ### zip(t, l) of a tuple and a list of one length -/
namespace ZPM
open PySem PySem.Spec PyProof.Rows L2 EXT
def ItzM (K : PySem.W.Frag) (a b : Addr) (n : Nat) : It :=
  ⟨fun i H => ∃ xs ys, SqT K H a xs ∧ SqL K H b ys ∧ xs.length = n ∧ ys.length = n ∧ i < n,
   fun i H v H' => ∃ (T : Addr) (x y : V), v = .ref T ∧ H T = none ∧ H' = upd H T (.tup [x, y]) ∧ (∀ xs, SqT K H a xs → xs[i]? = some x) ∧ ∀ ys, SqL K H b ys → ys[i]? = some y,
   fun i H => ∃ xs ys, SqT K H a xs ∧ SqL K H b ys ∧ xs.length = n ∧ ys.length = n ∧ n ≤ i⟩
theorem sep {N a b : Nat} (la : a < N) (lb : b < N) : ZipSep2 (N + 4) (N + 2) (N + 3) N (N + 1) [N, a] [N + 1, b] := by
  have m2 : ∀ {c x y : Nat}, c ≠ x → c ≠ y → c ∉ [x, y] := fun h1 h2 m => by
    simp only [List.mem_cons, List.not_mem_nil, or_false] at m
    exact m.elim h1 h2
  exact ⟨show N + 2 ≠ N + 4 by omega, show N + 3 ≠ N + 4 by omega, show N + 2 ≠ N + 3 by omega, show N + 2 ≠ N by omega, List.mem_cons_self, m2 (show N + 4 ≠ N by omega) (show N + 4 ≠ a by omega), m2 (show N + 3 ≠ N by omega) (show N + 3 ≠ a by omega), show N + 2 ≠ N + 1 by omega, List.mem_cons_self, m2 (show N + 4 ≠ N + 1 by omega) (show N + 4 ≠ b by omega), m2 (show N + 3 ≠ N + 1 by omega) (show N + 3 ≠ b by omega), m2 (show N ≠ N + 1 by omega) (show N ≠ b by omega), m2 (show N + 1 ≠ N by omega) (show N + 1 ≠ a by omega)⟩
theorem mem5 {N c : Nat} (m : c ∈ [N + 4, N + 3, N, N + 1]) : c ∈ [N + 4, N + 2, N + 3, N, N + 1] := by
  simp only [List.mem_cons, List.not_mem_nil, or_false] at m ⊢
  omega
theorem lt5 {N c M : Nat} (h : N + 4 < M) (m : c ∈ [N + 4, N + 2, N + 3, N, N + 1]) : c < M := by
  simp only [List.mem_cons, List.not_mem_nil, or_false] at m
  omega
theorem ge5 {N c : Nat} (m : c ∈ [N + 4, N + 2, N + 3, N, N + 1]) : N ≤ c := by
  simp only [List.mem_cons, List.not_mem_nil, or_false] at m
  omega
theorem turn_zipM {P : Program} {w : World} {K : PySem.W.Frag} {elts : List Expr} {kk : Nat} {tpos : Pos} {a b N : Nat} {n : Nat} (la : a < N) (lb : b < N) :
    Turn P w K (.Tuple elts kk tpos) (ItzM K a b n) [N + 4, N + 2, N + 3, N, N + 1] (N + 4) fun i h => IsZip h (N + 4) (N + 2) (N + 3) .none ∧ IsTupOf2 h (N + 2) (.ref N) (.ref (N + 1)) ∧ (∃ a1 a2, IsTupOf2 h (N + 3) a1 a2) ∧ h.IsTupleIter N a i ∧ h.IsListIter (N + 1) b i ∧ i ≤ n := by
  refine ⟨List.mem_cons_self, fun i h tn c hc => ?_, fun i h h' tn hk => ?_, fun X hP hw hK hcalm i pins s σ H E I hfp tn go => ?_, fun X hP hw hK hcalm i pins s σ H E I hfp tn st => ?_, fun A i s Q E tn q => ?_⟩
  · obtain ⟨hz, hTI, ⟨x, y, hTO⟩, ⟨o1, e1, _, d1⟩, ⟨o2, e2, _, d2⟩, _⟩ := tn
    simp only [List.mem_cons, List.not_mem_nil, or_false] at hc
    rcases hc with q | q | q | q | q
    · rw [q]; exact ⟨_, hz, fun v q => nomatch q⟩
    · rw [q]; exact ⟨_, hTI, fun v q => nomatch q⟩
    · rw [q]; exact ⟨_, hTO, fun v q => nomatch q⟩
    · rw [q]; exact ⟨o1, e1, fun v q => by rw [d1] at q; cases q⟩
    · rw [q]; exact ⟨o2, e2, fun v q => by rw [d2] at q; cases q⟩
  · obtain ⟨hz, hTI, ⟨x, y, hTO⟩, h1, h2, hn⟩ := tn
    exact ⟨hk _ (by simp) _ hz, hk _ (by simp) _ hTI, ⟨x, y, hk _ (by simp) _ hTO⟩, h1.at fun o q => hk N (by simp) o q, h2.at fun o q => hk (N + 1) (by simp) o q, hn⟩
  · subst hP
    subst hw
    subst hK
    obtain ⟨xs, ys, hqx, hqy, lx, ly, hin⟩ := go
    obtain ⟨its, rv, p1, _⟩ := I.tuple hqx
    obtain ⟨its2, rv2, p2, _⟩ := I.list hqy
    have p1' : s.heap.IsTuple a its.toArray := p1
    have p2' : s.heap.IsList b its2.toArray := p2.isList
    obtain ⟨hz, hTI, hTO, h1, h2, hn⟩ := tn
    have l1 := rv.length
    have l2 := rv2.length
    have W := WalksT.zipD2 (prog := X.prog) (w := X.w) (A := X.A) (sep la lb) (Draws.tuple (A := X.A.in1) (I.ok.hd hcalm) N a (Nat.ne_of_lt la) its.toArray) (Draws.list (A := X.A.in1) (I.ok.hd hcalm) (N + 1) b (Nat.ne_of_lt (Nat.lt_succ_of_lt lb)) its2.toArray)
    refine W.item i s _ E (by rw [List.size_toArray, List.size_toArray]; omega) ⟨hz, hTI, hTO, ⟨h1, p1'⟩, h2, p2'⟩ (fun T vals h' tk hv hT hTup hmid hk => ⟨_, rfl, ?_⟩)
    obtain ⟨u1, u2, hu1, hu2, rfl⟩ := hv
    have hTw := W.apart _ _ _ hmid
    refine W.go elts kk tpos i T { s with heap := h', toks := tk } _ E hmid (fun h2' hst hk2 => ?_)
    obtain ⟨hz2, hTI2, hTO2, ⟨h12, _⟩, h22, _⟩ := hst
    obtain ⟨x1, hx1, hr1⟩ := vals_get rv (by simpa using hu1)
    obtain ⟨x2, hx2, hr2⟩ := vals_get rv2 (by simpa using hu2)
    obtain ⟨oT, hoT, hcT, nT, hdT⟩ := hTup
    have keep : ∀ c o, c ∉ [N + 4, N + 2, N + 3, N, N + 1] → s.heap.get? c = some o → h2'.get? c = some o := fun c o hc e => hk2 c o (fun m => hc (mem5 m)) (hk c o (fun m => hc (mem5 m)) e)
    have hn0 : ∀ c ∈ [N + 4, N + 2, N + 3, N, N + 1], c ≠ T := fun c hc z => by
      refine absurd hT (Nat.not_le_of_lt ?_)
      rw [← z]
      exact lt5 (Heap.lt_size hz) hc
    refine ⟨.ref T, upd H T (.tup [x1, x2]), I.turnedNew (ch := [N + 4, N + 2, N + 3, N, N + 1]) keep hfp hT
      (show ObjOk X.prog X.w _ _ _ (.tup [x1, x2]) from ⟨by rw [sizeLine_eq]; simp, [u1, u2], .cons hr1 (.cons hr2 .nil), oT, hk2 _ _ hTw hoT, hcT, nT, hdT⟩), rfl, ⟨T, x1, x2, rfl, I.hok.fresh hT, rfl, fun zs hzs => by rw [I.tuple_inj hzs hqx]; exact hx1, fun zs hzs => by rw [I.list_inj hzs hqy]; exact hx2⟩, ⟨hz2, hTI2, hTO2, h12, h22, by omega⟩, fun c hc => ?_⟩
    rw [upd_ne (hn0 c hc)]
    exact (hfp c hc).1
  · subst hP
    subst hw
    subst hK
    obtain ⟨xs, ys, hqx, hqy, lx, ly, hle⟩ := st
    obtain ⟨its, rv, p1, _⟩ := I.tuple hqx
    obtain ⟨its2, rv2, p2, _⟩ := I.list hqy
    have p1' : s.heap.IsTuple a its.toArray := p1
    have p2' : s.heap.IsList b its2.toArray := p2.isList
    obtain ⟨hz, hTI, hTO, h1, h2, hn⟩ := tn
    have l1 := rv.length
    have l2 := rv2.length
    have W := WalksT.zipD2 (prog := X.prog) (w := X.w) (A := X.A) (sep la lb) (Draws.tuple (A := X.A.in1) (I.ok.hd hcalm) N a (Nat.ne_of_lt la) its.toArray) (Draws.list (A := X.A.in1) (I.ok.hd hcalm) (N + 1) b (Nat.ne_of_lt (Nat.lt_succ_of_lt lb)) its2.toArray)
    have ei : i = min its.toArray.size its2.toArray.size := by rw [List.size_toArray, List.size_toArray]; omega
    refine W.done s _ E ⟨hz, hTI, hTO, ⟨by rw [← ei]; exact h1, p1'⟩, by rw [← ei]; exact h2, p2'⟩ (fun h' tk hk => ⟨rfl, I.turnedL (ch := [N + 4, N + 2, N + 3, N, N + 1]) (fun c o hc e => hk c o (fun m => hc (mem5 m)) e) hfp⟩)
  · exact wpAny_pyIter_zip tn.1 q
def iZipM (K : PySem.W.Frag) (ta : TA) : TI := fun σ H R => ta σ H fun vs H1 => ∃ a b xs ys, vs = [.ref a, .ref b] ∧ SqT K H1 a xs ∧ SqL K H1 b ys ∧ xs.length = ys.length ∧ R (ItzM K a b ys.length) H1
theorem pi_zipM {X : Cx} {e e2 : Expr} {ta : TA} {p pos tpos : Pos} {elts : List Expr} {kk : Nat} (hg : Gl X "zip") (hm : X.mg "zip" = none) (ha : PA X [e, e2] ta)
    (hs : starEach [e, e2] X.env = (false, eval e X.env) :: starEach [e2] X.env := by rfl) (hpl : (backTo pos (starEach [e2] X.env)).any (·.1) = false := by rfl) :
    PI X (.Tuple elts kk tpos) (.Call (.Name "zip" p) [e, e2] [] pos) (iZipM X.K ta) := by
  refine ⟨fun pins s σ H R I h => ?_⟩
  refine Call_ (ld_blt I hg hm PyProof.Rows.boot_zip (PyProof.Rows.callWith_type1 (thn (ha.run pos pins s σ H _ I h) fun us s1 ⟨vs, H1, I1, r1, a, b, xs, ys, ex, hqx, hqy, hl, q⟩ => ?_) hs hpl))
  subst ex
  cases r1 with
  | cons r rr =>
    cases rr with
    | cons r' rr =>
      cases rr
      cases r
      cases r'
      obtain ⟨its, rv, p1, _⟩ := I1.tuple hqx
      obtain ⟨its2, rv2, p2, _⟩ := I1.list hqy
      have p1' : s1.heap.IsTuple a its.toArray := p1
      obtain ⟨o1, ho1, _⟩ := id p1'
      refine zip_begins2 (begins_tuple a its.toArray) (begins_list b its2.toArray) p1' p2.isList fun h' hz hTI hTO h1 h2 hsz hk => wpAny_pyIter_zip hz ?_
      have I2 : Inv X pins σ H1 { s1 with heap := h' } := I1.kept (t' := s1.toks) hk
      refine ⟨_, _, _, _, H1, rfl, I2, turn_zipM (Heap.lt_size ho1) p2.lt, ⟨hz, hTI, ⟨_, _, hTO⟩, ⟨_, h1, rfl, rfl⟩, ⟨_, h2, rfl, rfl⟩, Nat.zero_le _⟩, fun c hcm => ?_, q⟩
      have hle : s1.heap.objs.size ≤ c := ge5 hcm
      exact I1.fpOk hle (I1.hok.fresh hle)
section
variable {K : PySem.W.Frag} {a b : Addr} {xs ys : List V} {g : TG} {tt : TT} {te : TE} {vs : List Nat} {σ : L2.St} {H1 : Hp} {D : Addr} {Qd : Hp → Prop}
/-- a list comprehension over such a zip -/
theorem lc_zipM (hn : xs.length = ys.length) (Pv : Nat → Hp → Prop) (h0 : Pv 0 (upd H1 D (.lst []))) (hl : ∀ i H, Pv i H → SqT K H a xs ∧ SqL K H b ys)
    (hs : ∀ i x y T H, xs[i]? = some x → ys[i]? = some y → Pv i H → H T = none → g (.ref T) (wipe σ vs) (upd H T (.tup [x, y])) fun σ2 H2 => wipe σ2 vs = wipe σ vs ∧ tt σ2 H2 fun b H3 =>
      if b = true then te σ2 H3 fun y H4 => ∃ acc, H4 D = some (.lst acc) ∧ acc.length < sizeLine ∧ Pv (i + 1) (upd H4 D (.lst (acc ++ [y]))) else Pv (i + 1) H3) (hd : ∀ H, Pv ys.length H → Qd H) :
    ∃ W : Nat → Nat → Hp → Prop, (∃ m, W 0 m (upd H1 D (.lst []))) ∧ ∀ i m H, W i m H →
      ((ItzM K a b ys.length).stop i H ∧ Qd H) ∨ ((ItzM K a b ys.length).go i H ∧ ∃ Nx : Hp → Prop, (∀ H', Nx H' → ∃ m', m' < m ∧ W (i + 1) m' H') ∧ ∀ x H', (ItzM K a b ys.length).yld i H x H' → g x (wipe σ vs) H' fun σ2 H2 => wipe σ2 vs = wipe σ vs ∧ tt σ2 H2 fun b H3 =>
        if b = true then te σ2 H3 fun y H4 => ∃ acc, H4 D = some (.lst acc) ∧ acc.length < sizeLine ∧ Nx (upd H4 D (.lst (acc ++ [y]))) else Nx H3) := by
  refine ⟨fun i m H => m = ys.length - i ∧ i ≤ ys.length ∧ Pv i H, ⟨ys.length, rfl, Nat.zero_le _, h0⟩, ?_⟩
  rintro i m H ⟨rfl, hi, p⟩
  obtain ⟨qx, qy⟩ := hl i H p
  by_cases hlt : i < ys.length
  · refine .inr ⟨⟨xs, ys, qx, qy, hn, rfl, hlt⟩, Pv (i + 1), fun H' p' => ⟨_, by omega, rfl, hlt, p'⟩, fun v H' y => ?_⟩
    obtain ⟨T, x', y', rfl, hT, rfl, f1, f2⟩ := y
    exact hs i x' y' T H (f1 xs qx) (f2 ys qy) p hT
  · obtain rfl : i = ys.length := by omega
    exact .inl ⟨⟨xs, ys, qx, qy, hn, rfl, Nat.le_refl _⟩, hd H p⟩
/-- .. over a zip of two lists -/
theorem lc_zipL (hn : xs.length = ys.length) (Pv : Nat → Hp → Prop) (h0 : Pv 0 (upd H1 D (.lst []))) (hl : ∀ i H, Pv i H → SqL K H a xs ∧ SqL K H b ys)
    (hs : ∀ i x y T H, xs[i]? = some x → ys[i]? = some y → Pv i H → H T = none → g (.ref T) (wipe σ vs) (upd H T (.tup [x, y])) fun σ2 H2 => wipe σ2 vs = wipe σ vs ∧ tt σ2 H2 fun b H3 =>
      if b = true then te σ2 H3 fun y H4 => ∃ acc, H4 D = some (.lst acc) ∧ acc.length < sizeLine ∧ Pv (i + 1) (upd H4 D (.lst (acc ++ [y]))) else Pv (i + 1) H3) (hd : ∀ H, Pv ys.length H → Qd H) :
    ∃ W : Nat → Nat → Hp → Prop, (∃ m, W 0 m (upd H1 D (.lst []))) ∧ ∀ i m H, W i m H →
      ((Itz K a b).stop i H ∧ Qd H) ∨ ((Itz K a b).go i H ∧ ∃ Nx : Hp → Prop, (∀ H', Nx H' → ∃ m', m' < m ∧ W (i + 1) m' H') ∧ ∀ x H', (Itz K a b).yld i H x H' → g x (wipe σ vs) H' fun σ2 H2 => wipe σ2 vs = wipe σ vs ∧ tt σ2 H2 fun b H3 =>
        if b = true then te σ2 H3 fun y H4 => ∃ acc, H4 D = some (.lst acc) ∧ acc.length < sizeLine ∧ Nx (upd H4 D (.lst (acc ++ [y]))) else Nx H3) := by
  refine ⟨fun i m H => m = ys.length - i ∧ i ≤ ys.length ∧ Pv i H, ⟨ys.length, rfl, Nat.zero_le _, h0⟩, ?_⟩
  rintro i m H ⟨rfl, hi, p⟩
  obtain ⟨qx, qy⟩ := hl i H p
  by_cases hlt : i < ys.length
  · have hlx : i < xs.length := by omega
    refine .inr ⟨⟨xs, ys, _, _, qx, qy, List.getElem?_eq_getElem hlx, List.getElem?_eq_getElem hlt⟩, Pv (i + 1), fun H' p' => ⟨_, by omega, rfl, hlt, p'⟩, fun v H' y => ?_⟩
    obtain ⟨T, x', y', rfl, hT, rfl, f1, f2⟩ := y
    exact hs i x' y' T H (f1 xs qx) (f2 ys qy) p hT
  · obtain rfl : i = ys.length := by omega
    exact .inl ⟨⟨xs, ys, qx, qy, Or.inr (Nat.le_refl _)⟩, hd H p⟩
end
end ZPM
/-! ### sums over matchings, by tables -/
namespace MT
/-- sums and products, as the program makes them -/
structure Sr (α : Type) where
  add : α → α → α
  mul : α → α → α
  zero : α
  one : α
  add_comm : ∀ a b, add a b = add b a
  add_assoc : ∀ a b c, add (add a b) c = add a (add b c)
  add_zero : ∀ a, add a zero = a
  mul_assoc : ∀ a b c, mul (mul a b) c = mul a (mul b c)
  mul_comm : ∀ a b, mul a b = mul b a
  mul_add : ∀ a b c, mul a (add b c) = add (mul a b) (mul a c)
  mul_zero : ∀ a, mul a zero = zero
  mul_one : ∀ a, mul a one = a
section
variable {α : Type} (S : Sr α)
theorem Sr.zero_add (a : α) : S.add S.zero a = a := by rw [S.add_comm, S.add_zero]
theorem Sr.one_mul (a : α) : S.mul S.one a = a := by rw [S.mul_comm, S.mul_one]
theorem Sr.add_mul (a b c : α) : S.mul (S.add a b) c = S.add (S.mul a c) (S.mul b c) := by rw [S.mul_comm, S.mul_add, S.mul_comm c, S.mul_comm c]
theorem Sr.zero_mul (a : α) : S.mul S.zero a = S.zero := by rw [S.mul_comm, S.mul_zero]
theorem Sr.swap (a b c : α) : S.add (S.add a b) c = S.add (S.add a c) b := by rw [S.add_assoc, S.add_comm b c, ← S.add_assoc]
def getA (l : List (Nat × α)) (m : Nat) : α := match l.find? (fun p => decide (p.1 = m)) with
  | some p => p.2
  | none => S.zero
def putA (l : List (Nat × α)) (m : Nat) (x : α) : List (Nat × α) := if l.any (fun p => decide (p.1 = m)) then l.map (fun p => if p.1 = m then (p.1, x) else p) else l ++ [(m, x)]
def addA (l : List (Nat × α)) (m : Nat) (y : α) : List (Nat × α) := putA l m (S.add (getA S l m) y)
def keysA (l : List (Nat × α)) : List Nat := l.map (·.1)
def dot (F : Nat → α) : List (Nat × α) → α
  | [] => S.zero
  | p :: t => S.add (S.mul p.2 (F p.1)) (dot F t)
theorem dot_app (F : Nat → α) : ∀ l k, dot S F (l ++ k) = S.add (dot S F l) (dot S F k)
  | [], k => (S.zero_add _).symm
  | p :: t, k => by
    show S.add _ (dot S F (t ++ k)) = S.add (S.add _ (dot S F t)) _
    rw [dot_app F t k, S.add_assoc]
theorem keys_put (l : List (Nat × α)) (m : Nat) (x : α) : keysA (putA l m x) = if m ∈ keysA l then keysA l else keysA l ++ [m] := by
  unfold putA
  by_cases h : (l.any fun p => decide (p.1 = m)) = true
  · have hm : m ∈ keysA l := by
      obtain ⟨p, hp, e⟩ := List.any_eq_true.mp h
      exact List.mem_map.mpr ⟨p, hp, of_decide_eq_true e⟩
    rw [if_pos h, if_pos hm]
    unfold keysA
    rw [List.map_map]
    refine List.map_congr_left fun p _ => ?_
    show (if p.1 = m then (p.1, x) else p).1 = p.1
    split <;> rfl
  · have hm : m ∉ keysA l := fun hm => by
      obtain ⟨p, hp, e⟩ := List.mem_map.mp hm
      exact h (List.any_eq_true.mpr ⟨p, hp, decide_eq_true e⟩)
    rw [if_neg h, if_neg hm]
    unfold keysA
    rw [List.map_append]
    rfl
theorem nodup_put {l : List (Nat × α)} (h : (keysA l).Nodup) (m : Nat) (x : α) : (keysA (putA l m x)).Nodup := by
  rw [keys_put]
  split
  · exact h
  · rename_i hm
    exact List.nodup_append.mpr ⟨h, by simp, fun a ha b hb e => hm (by rw [← List.mem_singleton.mp hb, ← e]; exact ha)⟩
theorem get_cons (p : Nat × α) (l : List (Nat × α)) (m : Nat) : getA S (p :: l) m = if p.1 = m then p.2 else getA S l m := by
  unfold getA
  by_cases e : p.1 = m
  · rw [if_pos e, List.find?_cons_of_pos (by rw [decide_eq_true e])]
  · rw [if_neg e, List.find?_cons_of_neg (by rw [decide_eq_false e]; decide)]
theorem get_none {l : List (Nat × α)} {m : Nat} (h : m ∉ keysA l) : getA S l m = S.zero := by
  induction l with
  | nil => rfl
  | cons p t ih =>
    rw [get_cons, if_neg (fun e => h (by rw [← e]; exact List.mem_cons_self ..)), ih fun e => h (List.mem_cons_of_mem _ e)]
theorem dot_set (F : Nat → α) {m : Nat} {y : α} : ∀ {l : List (Nat × α)}, (keysA l).Nodup → m ∈ keysA l → dot S F (l.map fun p => if p.1 = m then (p.1, S.add (getA S l m) y) else p) = S.add (dot S F l) (S.mul y (F m))
  | [], _, h => by cases h
  | p :: t, hn, hm => by
    obtain ⟨h1, h2⟩ := List.nodup_cons.mp (show (p.1 :: keysA t).Nodup from hn)
    rw [List.map_cons, get_cons]
    by_cases e : p.1 = m
    · rw [if_pos e, if_pos e]
      have ht : (t.map fun q => if q.1 = m then (q.1, S.add p.2 y) else q) = t := by
        refine (List.map_congr_left fun q hq => ?_).trans (List.map_id t)
        have : q.1 ≠ m := fun z => h1 (by rw [e, ← z]; exact List.mem_map.mpr ⟨q, hq, rfl⟩)
        rw [if_neg this]
        rfl
      rw [ht]
      show S.add (S.mul (S.add p.2 y) (F p.1)) (dot S F t) = S.add (S.add (S.mul p.2 (F p.1)) (dot S F t)) (S.mul y (F m))
      rw [S.add_mul, e, S.swap]
    · rw [if_neg e, if_neg e]
      have hm2 : m ∈ keysA t := by
        rcases List.mem_cons.mp (show m ∈ p.1 :: keysA t from hm) with z | z
        · exact absurd z.symm e
        · exact z
      show S.add (S.mul p.2 (F p.1)) (dot S F (t.map _)) = _
      rw [dot_set F h2 hm2, ← S.add_assoc]
      rfl
theorem dot_add (F : Nat → α) {l : List (Nat × α)} (hn : (keysA l).Nodup) (m : Nat) (y : α) : dot S F (addA S l m y) = S.add (dot S F l) (S.mul y (F m)) := by
  unfold addA putA
  by_cases h : (l.any fun p => decide (p.1 = m)) = true
  · have hm : m ∈ keysA l := by
      obtain ⟨p, hp, e⟩ := List.any_eq_true.mp h
      exact List.mem_map.mpr ⟨p, hp, of_decide_eq_true e⟩
    rw [if_pos h]
    exact dot_set S F hn hm
  · have hm : m ∉ keysA l := fun hm => by
      obtain ⟨p, hp, e⟩ := List.mem_map.mp hm
      exact h (List.any_eq_true.mpr ⟨p, hp, decide_eq_true e⟩)
    rw [if_neg h, get_none S hm, S.zero_add, dot_app]
    show S.add _ (S.add (S.mul y (F m)) S.zero) = _
    rw [S.add_zero]
/-- what becomes of a taken mask at a vertex -/
def chs (alone : α) (v m : Nat) (lk : List (Nat × α)) : List (Nat × α) := if m.testBit v then [(m ^^^ 2 ^ v, S.one)] else (m, alone) :: (lk.filter fun e => !m.testBit e.1).map fun e => (m ||| 2 ^ e.1, e.2)
def fill (x : α) (g cs : List (Nat × α)) : List (Nat × α) := cs.foldl (fun g c => addA S g c.1 (S.mul x c.2)) g
def stepT (alone : α) (v : Nat) (lk T : List (Nat × α)) : List (Nat × α) := T.foldl (fun g p => fill S p.2 g (chs S alone v p.1 lk)) []
theorem fill_nodup (x : α) : ∀ (cs g : List (Nat × α)), (keysA g).Nodup → (keysA (fill S x g cs)).Nodup
  | [], g, h => h
  | c :: cs, g, h => fill_nodup x cs _ (nodup_put h _ _)
theorem fill_dot (F : Nat → α) (x : α) : ∀ (cs g : List (Nat × α)), (keysA g).Nodup → dot S F (fill S x g cs) = S.add (dot S F g) (S.mul x (dot S F cs))
  | [], g, h => by
    show dot S F g = S.add (dot S F g) (S.mul x S.zero)
    rw [S.mul_zero, S.add_zero]
  | c :: cs, g, h => by
    have ih := fill_dot F x cs (addA S g c.1 (S.mul x c.2)) (nodup_put h _ _)
    show dot S F (fill S x (addA S g c.1 (S.mul x c.2)) cs) = _
    rw [ih, dot_add S F h]
    show _ = S.add (dot S F g) (S.mul x (S.add (S.mul c.2 (F c.1)) (dot S F cs)))
    rw [S.mul_add, ← S.mul_assoc, S.add_assoc]
theorem step_go (F : Nat → α) (alone : α) (v : Nat) (lk : List (Nat × α)) : ∀ (T g : List (Nat × α)), (keysA g).Nodup → (keysA (T.foldl (fun g p => fill S p.2 g (chs S alone v p.1 lk)) g)).Nodup ∧ dot S F (T.foldl (fun g p => fill S p.2 g (chs S alone v p.1 lk)) g) = S.add (dot S F g) (dot S (fun m => dot S F (chs S alone v m lk)) T)
  | [], g, h => ⟨h, (S.add_zero _).symm⟩
  | p :: T, g, h => by
    obtain ⟨h1, h2⟩ := step_go F alone v lk T (fill S p.2 g (chs S alone v p.1 lk)) (fill_nodup S p.2 _ _ h)
    refine ⟨h1, ?_⟩
    rw [List.foldl_cons, h2, fill_dot S F p.2 _ _ h, S.add_assoc]
    rfl
/-- the sum over all that is still to come -/
def Fr (alone : α) : List (List (Nat × α)) → Nat → Nat → α
  | [], _, m => if m = 0 then S.one else S.zero
  | lk :: rest, v, m => dot S (Fr alone rest (v + 1)) (chs S alone v m lk)
/-- the table behind the first vertices -/
def tabT (alone : α) (lks : List (List (Nat × α))) : Nat → List (Nat × α)
  | 0 => [(0, S.one)]
  | v + 1 => stepT S alone v (lks.getD v []) (tabT alone lks v)
theorem drop_getD {β : Type} {l : List β} {v : Nat} (h : v < l.length) (d : β) : l.drop v = l.getD v d :: l.drop (v + 1) := by
  rw [List.drop_eq_getElem_cons h, List.getD_eq_getElem?_getD, List.getElem?_eq_getElem h]
  rfl
theorem tab_dot (alone : α) (lks : List (List (Nat × α))) : ∀ v, v ≤ lks.length → (keysA (tabT S alone lks v)).Nodup ∧ dot S (Fr S alone (lks.drop v) v) (tabT S alone lks v) = Fr S alone lks 0 0
  | 0, _ => ⟨by simp [keysA, tabT], by
    show S.add (S.mul S.one (Fr S alone lks 0 0)) S.zero = _
    rw [S.add_zero, S.one_mul]⟩
  | v + 1, h => by
    obtain ⟨h1, h2⟩ := tab_dot alone lks v (by omega)
    obtain ⟨k1, k2⟩ := step_go S (Fr S alone (lks.drop (v + 1)) (v + 1)) alone v (lks.getD v []) (tabT S alone lks v) [] List.nodup_nil
    refine ⟨k1, ?_⟩
    show dot S _ (stepT S alone v _ _) = _
    unfold stepT
    rw [k2, ← h2, drop_getD (v := v) (show v < lks.length by omega) [], show dot S (Fr S alone (lks.drop (v + 1)) (v + 1)) [] = S.zero from rfl, S.zero_add]
    rfl
/-- masks without bits below v, below 2 ^ n -/
def KeyOk (v n : Nat) (m : Nat) : Prop := m < 2 ^ n ∧ ∀ i < v, m.testBit i = false
def LkOk (v n : Nat) (lk : List (Nat × α)) : Prop := ∀ e ∈ lk, v < e.1 ∧ e.1 < n
theorem chs_ok {alone : α} {v n m : Nat} {lk : List (Nat × α)} (hv : v < n) (h : KeyOk v n m) (hl : LkOk v n lk) : ∀ c ∈ chs S alone v m lk, KeyOk (v + 1) n c.1 := by
  intro c hc
  have pv : 2 ^ v < 2 ^ n := Nat.pow_lt_pow_right (by decide) hv
  unfold chs at hc
  split at hc
  · rename_i hb
    rw [List.mem_singleton.mp hc]
    refine ⟨Nat.xor_lt_two_pow h.1 pv, fun i hi => ?_⟩
    show (m ^^^ 2 ^ v).testBit i = false
    rw [Nat.testBit_xor, Nat.testBit_two_pow]
    by_cases e : v = i
    · subst e
      rw [hb, decide_eq_true rfl]
      rfl
    · rw [h.2 i (by omega), decide_eq_false e]
      rfl
  · rename_i hb
    rcases List.mem_cons.mp hc with rfl | hc
    · refine ⟨h.1, fun i hi => ?_⟩
      by_cases e : i = v
      · rw [e]
        exact Bool.eq_false_iff.mpr hb
      · exact h.2 i (by omega)
    · obtain ⟨e, he, rfl⟩ := List.mem_map.mp hc
      obtain ⟨e1, e2⟩ := hl e (List.mem_filter.mp he).1
      refine ⟨Nat.or_lt_two_pow h.1 (Nat.pow_lt_pow_right (by decide) e2), fun i hi => ?_⟩
      show (m ||| 2 ^ e.1).testBit i = false
      rw [Nat.testBit_or, Nat.testBit_two_pow, decide_eq_false (show ¬ e.1 = i by omega), Bool.or_false]
      by_cases z : i = v
      · rw [z]
        exact Bool.eq_false_iff.mpr hb
      · exact h.2 i (by omega)
theorem keys_fill (x : α) (P : Nat → Prop) : ∀ (cs g : List (Nat × α)), (∀ c ∈ cs, P c.1) → (∀ k ∈ keysA g, P k) → ∀ k ∈ keysA (fill S x g cs), P k
  | [], g, _, h, k, hk => h k hk
  | c :: cs, g, hc, h, k, hk => keys_fill x P cs (addA S g c.1 (S.mul x c.2)) (fun d hd => hc d (List.mem_cons_of_mem _ hd)) (fun j hj => by
      unfold addA at hj
      rw [keys_put] at hj
      split at hj
      · exact h j hj
      · rcases List.mem_append.mp hj with hj | hj
        · exact h j hj
        · rw [List.mem_singleton.mp hj]
          exact hc c (List.mem_cons_self ..)) k hk
theorem fill_ne (x : α) : ∀ (cs g : List (Nat × α)), (cs ≠ [] ∨ g ≠ []) → fill S x g cs ≠ []
  | [], g, h => h.resolve_left fun z => z rfl
  | c :: cs, g, _ => fill_ne x cs _ (.inr fun z => by
      have := congrArg keysA z
      unfold addA at this
      rw [keys_put] at this
      split at this
      · rename_i hm
        rw [this] at hm
        cases hm
      · simp [keysA] at this)
theorem chs_ne (alone : α) (v m : Nat) (lk : List (Nat × α)) : chs S alone v m lk ≠ [] := by
  unfold chs
  split <;> simp
theorem chs_len (alone : α) (v m : Nat) (lk : List (Nat × α)) : (chs S alone v m lk).length ≤ lk.length + 1 := by
  unfold chs
  split
  · simp
  · rw [List.length_cons, List.length_map]
    have := List.length_filter_le (fun e : Nat × α => !m.testBit e.1) lk
    omega
theorem tab_ok {alone : α} {n : Nat} {lks : List (List (Nat × α))} (hl : ∀ v < n, LkOk v n (lks.getD v [])) : ∀ v, v ≤ n → (∀ k ∈ keysA (tabT S alone lks v), KeyOk v n k) ∧ tabT S alone lks v ≠ []
  | 0, _ => ⟨fun k hk => by
      rw [List.mem_singleton.mp hk]
      exact ⟨Nat.two_pow_pos n, fun i hi => by omega⟩, by simp [tabT]⟩
  | v + 1, h => by
    obtain ⟨h1, h2⟩ := tab_ok hl v (by omega)
    have go : ∀ (T g : List (Nat × α)), (∀ k ∈ keysA T, KeyOk v n k) → (∀ k ∈ keysA g, KeyOk (v + 1) n k) → (T ≠ [] ∨ g ≠ []) → (∀ k ∈ keysA (T.foldl (fun g p => fill S p.2 g (chs S alone v p.1 (lks.getD v []))) g), KeyOk (v + 1) n k) ∧ T.foldl (fun g p => fill S p.2 g (chs S alone v p.1 (lks.getD v []))) g ≠ [] := by
      intro T
      induction T with
      | nil => exact fun g _ hg hne => ⟨hg, hne.resolve_left fun z => z rfl⟩
      | cons p T ih =>
        intro g hT hg _
        rw [List.foldl_cons]
        exact ih _ (fun k hk => hT k (List.mem_cons_of_mem _ hk)) (keys_fill S p.2 _ _ _ (chs_ok S (by omega) (hT p.1 (List.mem_cons_self ..)) (hl v (by omega))) hg) (.inr (fill_ne S p.2 _ _ (.inl (chs_ne S alone v p.1 _))))
    exact go _ [] h1 (fun k hk => by cases hk) (.inl h2)
/-- the last table has one sum -/
theorem tab_last {alone : α} {lks : List (List (Nat × α))} (hl : ∀ v < lks.length, LkOk v lks.length (lks.getD v [])) : tabT S alone lks lks.length = [(0, Fr S alone lks 0 0)] := by
  obtain ⟨h1, h2⟩ := tab_dot S alone lks lks.length (Nat.le_refl _)
  obtain ⟨k1, k2⟩ := tab_ok S (alone := alone) hl lks.length (Nat.le_refl _)
  have hz : ∀ k ∈ keysA (tabT S alone lks lks.length), k = 0 := fun k hk => by
    obtain ⟨a, b⟩ := k1 k hk
    refine Nat.eq_of_testBit_eq fun i => ?_
    rw [Nat.zero_testBit]
    by_cases hi : i < lks.length
    · exact b i hi
    · exact Nat.testBit_lt_two_pow (Nat.lt_of_lt_of_le a (Nat.pow_le_pow_right (by decide) (by omega)))
  generalize tabT S alone lks lks.length = T at *
  match T, k2 with
  | [p], _ =>
    have hp : p.1 = 0 := hz p.1 (List.mem_cons_self ..)
    rw [List.drop_length] at h2
    have h3 : S.add (S.mul p.2 (if p.1 = 0 then S.one else S.zero)) S.zero = Fr S alone lks 0 0 := h2
    rw [if_pos hp, S.mul_one, S.add_zero] at h3
    rw [← h3, ← hp]
  | p :: r :: t, _ =>
    have e1 := hz p.1 (List.mem_cons_self ..)
    have e2 := hz r.1 (List.mem_cons_of_mem _ (List.mem_cons_self ..))
    have := (List.nodup_cons.mp (show (p.1 :: r.1 :: keysA t).Nodup from h1)).1
    exact absurd (by rw [e1, e2]; exact List.mem_cons_self ..) this
end
end MT
namespace MT
section
variable {α : Type} (S : Sr α)
def sumF {β : Type} (f : β → α) : List β → α
  | [] => S.zero
  | x :: l => S.add (f x) (sumF f l)
section
variable {β : Type} {f g : β → α}
theorem sumF_app : ∀ l k : List β, sumF S f (l ++ k) = S.add (sumF S f l) (sumF S f k)
  | [], k => (S.zero_add _).symm
  | x :: l, k => by
    show S.add _ (sumF S f (l ++ k)) = S.add (S.add _ _) _
    rw [sumF_app l k, S.add_assoc]
theorem sumF_rev : ∀ l : List β, sumF S f l.reverse = sumF S f l
  | [] => rfl
  | x :: l => by
    rw [List.reverse_cons, sumF_app, sumF_rev l]
    show S.add _ (S.add (f x) S.zero) = S.add _ _
    rw [S.add_zero, S.add_comm]
theorem sumF_congr {l : List β} (h : ∀ x ∈ l, f x = g x) : sumF S f l = sumF S g l := by
  induction l with
  | nil => rfl
  | cons x l ih =>
    show S.add _ _ = S.add _ _
    rw [h x (List.mem_cons_self ..), ih fun y m => h y (List.mem_cons_of_mem _ m)]
theorem sumF_add (l : List β) : sumF S (fun x => S.add (f x) (g x)) l = S.add (sumF S f l) (sumF S g l) := by
  induction l with
  | nil => exact (S.add_zero _).symm
  | cons x l ih =>
    show S.add _ _ = S.add (S.add _ _) (S.add _ _)
    rw [ih]
    simp only [S.add_assoc]
    congr 1
    rw [← S.add_assoc, S.add_comm (g x), S.add_assoc]
theorem sumF_mul (a : α) (l : List β) : sumF S (fun x => S.mul a (f x)) l = S.mul a (sumF S f l) := by
  induction l with
  | nil => exact (S.mul_zero _).symm
  | cons x l ih =>
    show S.add _ _ = S.mul _ (S.add _ _)
    rw [ih, S.mul_add]
theorem sumF_zero (l : List β) : sumF S (fun _ => S.zero) l = S.zero := by
  induction l with
  | nil => rfl
  | cons x l ih =>
    show S.add _ _ = _
    rw [ih, S.add_zero]
end
abbrev Ed := Nat × Nat
/-- an edge that can be taken beside a mask -/
def usE (U : Nat) (e : Ed) : Bool := decide (e.1 ≠ e.2) && !U.testBit e.1 && !U.testBit e.2
def orE (U : Nat) (e : Ed) : Nat := U ||| 2 ^ e.1 ||| 2 ^ e.2
theorem tb_or2 (U a i : Nat) : (U ||| 2 ^ a).testBit i = (U.testBit i || decide (a = i)) := by
  rw [Nat.testBit_or, Nat.testBit_two_pow]
theorem tb_orE (U : Nat) (e : Ed) (i : Nat) : (orE U e).testBit i = (U.testBit i || decide (e.1 = i) || decide (e.2 = i)) := by
  unfold orE
  rw [tb_or2, tb_or2]
theorem orE_comm (U : Nat) (e f : Ed) : orE (orE U e) f = orE (orE U f) e := by
  refine Nat.eq_of_testBit_eq fun i => ?_
  rw [tb_orE, tb_orE, tb_orE, tb_orE]
  cases U.testBit i <;> cases decide (e.1 = i) <;> cases decide (e.2 = i) <;> cases decide (f.1 = i) <;> cases decide (f.2 = i) <;> rfl
theorem us_comm (U : Nat) (e f : Ed) : (usE U e && usE (orE U e) f) = (usE U f && usE (orE U f) e) := by
  unfold usE
  rw [tb_orE, tb_orE, tb_orE, tb_orE]
  have h1 : decide (e.1 = f.1) = decide (f.1 = e.1) := decide_eq_decide.mpr eq_comm
  have h2 : decide (e.2 = f.1) = decide (f.1 = e.2) := decide_eq_decide.mpr eq_comm
  have h3 : decide (e.1 = f.2) = decide (f.2 = e.1) := decide_eq_decide.mpr eq_comm
  have h4 : decide (e.2 = f.2) = decide (f.2 = e.2) := decide_eq_decide.mpr eq_comm
  rw [h1, h2, h3, h4]
  cases decide (e.1 ≠ e.2) <;> cases decide (f.1 ≠ f.2) <;> cases U.testBit e.1 <;> cases U.testBit e.2 <;> cases U.testBit f.1 <;> cases U.testBit f.2 <;> cases decide (f.1 = e.1) <;> cases decide (f.1 = e.2) <;> cases decide (f.2 = e.1) <;> cases decide (f.2 = e.2) <;> rfl
variable (X : α)
/-- the sum over all matchings beside a mask, each edge gives X -/
def Pl : List Ed → Nat → α
  | [], _ => S.one
  | e :: r, U => if usE U e = true then S.add (Pl r U) (S.mul X (Pl r (orE U e))) else Pl r U
def atV (v : Nat) (e : Ed) : Bool := decide (e.1 = v) || decide (e.2 = v)
theorem us_at {U v : Nat} {e : Ed} (h : atV v e = true) (hU : U.testBit v = true) : usE U e = false := by
  unfold atV at h
  unfold usE
  rcases Bool.or_eq_true_iff.mp h with h | h
  · rw [of_decide_eq_true h, hU]
    cases decide (v ≠ e.2) <;> rfl
  · rw [of_decide_eq_true h, hU]
    cases decide (e.1 ≠ v) <;> cases U.testBit e.1 <;> rfl
theorem or_at {U v : Nat} {e : Ed} (h : atV v e = true) : (orE U e).testBit v = true := by
  rw [tb_orE]
  unfold atV at h
  rw [Bool.or_assoc, h, Bool.or_true]
theorem us_not {U v : Nat} {e : Ed} (h : atV v e = false) : usE (U ||| 2 ^ v) e = usE U e := by
  unfold atV at h
  obtain ⟨h1, h2⟩ := Bool.or_eq_false_iff.mp h
  have h1' : decide (v = e.1) = false := by rw [← h1]; exact decide_eq_decide.mpr eq_comm
  have h2' : decide (v = e.2) = false := by rw [← h2]; exact decide_eq_decide.mpr eq_comm
  unfold usE
  rw [tb_or2, tb_or2, h1', h2', Bool.or_false, Bool.or_false]
theorem or_not (U v : Nat) (e : Ed) : orE (U ||| 2 ^ v) e = orE U e ||| 2 ^ v := by
  refine Nat.eq_of_testBit_eq fun i => ?_
  rw [tb_orE, tb_or2, tb_or2, tb_orE]
  cases U.testBit i <;> cases decide (e.1 = i) <;> cases decide (e.2 = i) <;> cases decide (v = i) <;> rfl
/-- the vertex stays alone, or one edge at it is taken -/
theorem Pl_at {v : Nat} : ∀ (r : List Ed) (U : Nat), U.testBit v = false → Pl S X r U = S.add (Pl S X r (U ||| 2 ^ v)) (sumF S (fun e => if (atV v e && usE U e) = true then S.mul X (Pl S X r (orE U e)) else S.zero) r)
  | [], U, _ => (S.add_zero _).symm
  | e0 :: r, U, hU => by
    have hv : (U ||| 2 ^ v).testBit v = true := by
      rw [tb_or2, decide_eq_true rfl, Bool.or_true]
    have ih := Pl_at r U hU
    show Pl S X (e0 :: r) U = S.add _ (S.add (if (atV v e0 && usE U e0) = true then S.mul X (Pl S X (e0 :: r) (orE U e0)) else S.zero) (sumF S _ r))
    by_cases ha : atV v e0 = true
    · have h1 : Pl S X (e0 :: r) (U ||| 2 ^ v) = Pl S X r (U ||| 2 ^ v) := by
        rw [Pl, us_at ha hv]
        rfl
      have h2 : sumF S (fun e => if (atV v e && usE U e) = true then S.mul X (Pl S X (e0 :: r) (orE U e)) else S.zero) r = sumF S (fun e => if (atV v e && usE U e) = true then S.mul X (Pl S X r (orE U e)) else S.zero) r := sumF_congr S fun e _ => by
        by_cases z : (atV v e && usE U e) = true
        · have hz := or_at (U := U) (Bool.and_eq_true_iff.mp z).1
          rw [if_pos z, if_pos z, Pl, us_at ha hz]
          rfl
        · rw [if_neg z, if_neg z]
      rw [h1, h2]
      by_cases hu : usE U e0 = true
      · rw [if_pos (by rw [ha, hu]; rfl)]
        have h3 : Pl S X (e0 :: r) (orE U e0) = Pl S X r (orE U e0) := by
          rw [Pl, us_at ha (or_at ha)]
          rfl
        rw [h3, Pl, if_pos hu, ih, S.add_assoc]
        congr 1
        rw [S.add_comm]
      · rw [if_neg (by rw [ha, Bool.true_and]; exact hu), Pl, if_neg hu, S.zero_add]
        exact ih
    · have ha := Bool.eq_false_iff.mpr ha
      rw [if_neg (by rw [ha]; simp), S.zero_add]
      by_cases hu : usE U e0 = true
      · have hO : (orE U e0).testBit v = false := by
          unfold atV at ha
          obtain ⟨a1, a2⟩ := Bool.or_eq_false_iff.mp ha
          rw [tb_orE, hU, a1, a2]
          rfl
        have ih2 := Pl_at r (orE U e0) hO
        have h1 : Pl S X (e0 :: r) (U ||| 2 ^ v) = S.add (Pl S X r (U ||| 2 ^ v)) (S.mul X (Pl S X r (orE U e0 ||| 2 ^ v))) := by
          rw [Pl, us_not ha, if_pos hu, or_not]
        have h2 : sumF S (fun e => if (atV v e && usE U e) = true then S.mul X (Pl S X (e0 :: r) (orE U e)) else S.zero) r = S.add (sumF S (fun e => if (atV v e && usE U e) = true then S.mul X (Pl S X r (orE U e)) else S.zero) r) (S.mul X (sumF S (fun e => if (atV v e && usE (orE U e0) e) = true then S.mul X (Pl S X r (orE (orE U e0) e)) else S.zero) r)) := by
          rw [← sumF_mul, ← sumF_add]
          refine sumF_congr S fun e _ => ?_
          have hc := us_comm U e e0
          rw [hu, Bool.true_and] at hc
          cases z1 : atV v e with
          | false => simp only [Bool.false_and, Bool.false_eq_true, if_false, S.mul_zero, S.add_zero]
          | true =>
            simp only [Bool.true_and]
            cases z2 : usE U e with
            | false =>
              rw [z2, Bool.false_and] at hc
              simp only [← hc, Bool.false_eq_true, if_false, S.mul_zero, S.add_zero]
            | true =>
              rw [z2, Bool.true_and] at hc
              rw [if_pos rfl, if_pos rfl, Pl, hc, orE_comm]
              split
              · rw [S.mul_add]
              · rw [S.mul_zero, S.add_zero]
        rw [h1, h2, Pl, if_pos hu, ih, ih2, S.mul_add]
        simp only [S.add_assoc]
        congr 1
        rw [← S.add_assoc, S.add_comm (sumF S _ r), S.add_assoc]
      · have h1 : Pl S X (e0 :: r) (U ||| 2 ^ v) = Pl S X r (U ||| 2 ^ v) := by
          rw [Pl, us_not ha, if_neg hu]
        have hu := Bool.eq_false_iff.mpr hu
        have h2 : sumF S (fun e => if (atV v e && usE U e) = true then S.mul X (Pl S X (e0 :: r) (orE U e)) else S.zero) r = sumF S (fun e => if (atV v e && usE U e) = true then S.mul X (Pl S X r (orE U e)) else S.zero) r := sumF_congr S fun e _ => by
          have hc := us_comm U e e0
          rw [hu, Bool.false_and] at hc
          by_cases z : (atV v e && usE U e) = true
          · rw [if_pos z, if_pos z, Pl]
            rw [(Bool.and_eq_true_iff.mp z).2, Bool.true_and] at hc
            rw [hc]
            rfl
          · rw [if_neg z, if_neg z]
        rw [h1, h2, Pl, hu]
        exact ih
/-! ### rows and edges -/
theorem dot_filter (F : Nat → α) (m : Nat) : ∀ lk : List (Nat × α), dot S F ((lk.filter fun e => !m.testBit e.1).map fun e => (m ||| 2 ^ e.1, e.2)) = dot S (fun k => if m.testBit k = true then S.zero else F (m ||| 2 ^ k)) lk
  | [] => rfl
  | e :: lk => by
    cases z : m.testBit e.1 with
    | true =>
      rw [List.filter_cons_of_neg (by rw [z]; decide), dot_filter F m lk]
      show _ = S.add (S.mul e.2 (if m.testBit e.1 = true then S.zero else _)) _
      rw [z, if_pos rfl, S.mul_zero, S.zero_add]
    | false =>
      rw [List.filter_cons_of_pos (by rw [z]; rfl), List.map_cons]
      show S.add (S.mul e.2 (F (m ||| 2 ^ e.1))) (dot S F _) = S.add (S.mul e.2 (if m.testBit e.1 = true then S.zero else _)) _
      rw [dot_filter F m lk, z]
      rfl
theorem fr_step (alone : α) (lks : List (List (Nat × α))) {v : Nat} (hv : v < lks.length) (m : Nat) : Fr S alone (lks.drop v) v m = if m.testBit v = true then Fr S alone (lks.drop (v + 1)) (v + 1) (m ^^^ 2 ^ v) else S.add (S.mul alone (Fr S alone (lks.drop (v + 1)) (v + 1) m)) (dot S (fun k => if m.testBit k = true then S.zero else Fr S alone (lks.drop (v + 1)) (v + 1) (m ||| 2 ^ k)) (lks.getD v [])) := by
  rw [drop_getD hv [], Fr, chs]
  split
  · show S.add (S.mul S.one _) S.zero = _
    rw [S.add_zero, S.one_mul]
  · show S.add (S.mul alone _) (dot S _ _) = _
    rw [dot_filter]
end
end MT
namespace MT
section
variable {α : Type} (S : Sr α)
/-- a further edge, merged into its row -/
def lnE (lks : List (List (Nat × α))) (e : Nat × Nat × α) : List (List (Nat × α)) := if e.1 = e.2.1 then lks else lks.set (min e.1 e.2.1) (addA S (lks.getD (min e.1 e.2.1) []) (max e.1 e.2.1) e.2.2)
theorem lnE_len (lks : List (List (Nat × α))) (e : Nat × Nat × α) : (lnE S lks e).length = lks.length := by
  unfold lnE
  split
  · rfl
  · rw [List.length_set]
theorem fold_nd (es : List (Nat × Nat × α)) : ∀ lks : List (List (Nat × α)), (∀ v, (keysA (lks.getD v [])).Nodup) → ∀ v, (keysA ((es.foldl (lnE S) lks).getD v [])).Nodup := by
  induction es with
  | nil => exact fun _ h => h
  | cons e es ih =>
    intro lks h
    refine ih _ fun v => ?_
    unfold lnE
    split
    · exact h v
    · by_cases z : min e.1 e.2.1 = v
      · subst z
        by_cases hl : min e.1 e.2.1 < lks.length
        · rw [List.getD_eq_getElem?_getD, List.getElem?_set_self hl]
          exact nodup_put (h _) _ _
        · rw [List.getD_eq_getElem?_getD, List.getElem?_set, if_pos rfl, if_neg hl]
          exact List.nodup_nil
      · rw [List.getD_eq_getElem?_getD, List.getElem?_set_ne z, ← List.getD_eq_getElem?_getD]
        exact h v
/-- a row's sum goes over the edges -/
theorem row_dot (F : Nat → α) {v : Nat} : ∀ (es : List (Nat × Nat × α)) (lks : List (List (Nat × α))), v < lks.length → (∀ w, (keysA (lks.getD w [])).Nodup) →
    dot S F ((es.foldl (lnE S) lks).getD v []) = S.add (dot S F (lks.getD v [])) (sumF S (fun e => if e.1 ≠ e.2.1 ∧ min e.1 e.2.1 = v then S.mul e.2.2 (F (max e.1 e.2.1)) else S.zero) es)
  | [], lks, _, _ => (S.add_zero _).symm
  | e :: es, lks, hv, h => by
    have hn := fold_nd S [e] lks h
    have hl : v < (lnE S lks e).length := by rw [lnE_len]; exact hv
    rw [List.foldl_cons, row_dot F es (lnE S lks e) hl hn]
    show _ = S.add _ (S.add (if e.1 ≠ e.2.1 ∧ min e.1 e.2.1 = v then S.mul e.2.2 (F (max e.1 e.2.1)) else S.zero) _)
    rw [← S.add_assoc]
    congr 1
    unfold lnE
    by_cases z : e.1 = e.2.1
    · rw [if_pos z, if_neg (fun q => q.1 z), S.add_zero]
    · rw [if_neg z]
      by_cases y : min e.1 e.2.1 = v
      · rw [if_pos ⟨z, y⟩, y, List.getD_eq_getElem?_getD, List.getElem?_set_self hv]
        exact dot_add S F (h v) _ _
      · rw [if_neg (fun q => y q.2), S.add_zero, List.getD_eq_getElem?_getD, List.getElem?_set_ne y, ← List.getD_eq_getElem?_getD]
def lnS (count : Nat) (es : List (Nat × Nat × α)) : List (List (Nat × α)) := es.foldl (lnE S) (List.replicate count [])
theorem lnS_len (count : Nat) (es : List (Nat × Nat × α)) : (lnS S count es).length = count := by
  have : ∀ (l : List (Nat × Nat × α)) (s : List (List (Nat × α))), (l.foldl (lnE S) s).length = s.length := fun l => by
    induction l with
    | nil => exact fun s => rfl
    | cons x l ih2 => exact fun s => (ih2 _).trans (lnE_len S s x)
  unfold lnS
  rw [this, List.length_replicate]
theorem lnS_dot (F : Nat → α) {count v : Nat} (hv : v < count) (es : List (Nat × Nat × α)) : dot S F ((lnS S count es).getD v []) = sumF S (fun e => if e.1 ≠ e.2.1 ∧ min e.1 e.2.1 = v then S.mul e.2.2 (F (max e.1 e.2.1)) else S.zero) es := by
  have e0 : ∀ w, (List.replicate count ([] : List (Nat × α))).getD w [] = [] := fun w => by
    rw [List.getD_eq_getElem?_getD, List.getElem?_replicate]
    split <;> rfl
  unfold lnS
  rw [row_dot S F es _ (by rw [List.length_replicate]; exact hv) (fun w => by rw [e0]; exact List.nodup_nil), e0]
  exact S.zero_add _
theorem sumF_map {β γ : Type} (f : γ → α) (g : β → γ) : ∀ l : List β, sumF S f (l.map g) = sumF S (fun x => f (g x)) l
  | [] => rfl
  | x :: l => by
    show S.add _ _ = S.add _ _
    rw [sumF_map f g l]
/-- all bits below v -/
def low (v : Nat) : Nat := 2 ^ v - 1
theorem low_tb (v i : Nat) : (low v).testBit i = decide (i < v) := Nat.testBit_two_pow_sub_one v i
variable (X : α)
/-- the program's sum over matchings goes over all sets of edges -/
theorem fr_pl {count : Nat} {es : List Ed} (hin : ∀ e ∈ es, e.1 < count ∧ e.2 < count) : ∀ (k v m : Nat), v + k = count → KeyOk v count m →
    Fr S S.one ((lnS S count (es.map fun e => (e.1, e.2, X))).drop v) v m = Pl S X es (low v ||| m)
  | 0, v, m, hv, hm => by
    have hv : v = count := by omega
    subst hv
    have m0 : m = 0 := Nat.eq_of_testBit_eq fun i => by
      rw [Nat.zero_testBit]
      by_cases hi : i < v
      · exact hm.2 i hi
      · exact Nat.testBit_lt_two_pow (Nat.lt_of_lt_of_le hm.1 (Nat.pow_le_pow_right (by decide) (by omega)))
    subst m0
    rw [List.drop_eq_nil_of_le (by rw [lnS_len]; exact Nat.le_refl _), Nat.or_zero]
    show S.one = _
    have : ∀ l : List Ed, (∀ e ∈ l, e.1 < v ∧ e.2 < v) → Pl S X l (low v) = S.one := fun l => by
      induction l with
      | nil => exact fun _ => rfl
      | cons e l ih =>
        intro h
        have hu : usE (low v) e = false := by
          unfold usE
          rw [low_tb, decide_eq_true (h e (List.mem_cons_self ..)).1]
          cases decide (e.1 ≠ e.2) <;> rfl
        rw [Pl, hu]
        exact ih fun f m => h f (List.mem_cons_of_mem _ m)
    exact (this es hin).symm
  | k + 1, v, m, hv, hm => by
    have hvc : v < count := by omega
    have ll := lnS_len S count (es.map fun e => (e.1, e.2, X))
    rw [fr_step S S.one _ (by omega) m]
    have ih := fr_pl hin k (v + 1)
    by_cases hb : m.testBit v = true
    · rw [if_pos hb]
      have hm2 : KeyOk (v + 1) count (m ^^^ 2 ^ v) := chs_ok S (alone := S.one) (lk := []) hvc hm (fun e h => by cases h) (m ^^^ 2 ^ v, S.one) (by unfold chs; rw [if_pos hb]; exact List.mem_cons_self ..)
      rw [ih _ (by omega) hm2]
      congr 1
      refine Nat.eq_of_testBit_eq fun i => ?_
      rw [Nat.testBit_or, Nat.testBit_or, Nat.testBit_xor, Nat.testBit_two_pow, low_tb, low_tb]
      by_cases e : v = i
      · subst e
        rw [hb, decide_eq_true (Nat.lt_succ_self v)]
        simp
      · rw [decide_eq_false e, Bool.xor_false]
        congr 1
        exact decide_eq_decide.mpr ⟨fun h => by omega, fun h => by omega⟩
    · rw [if_neg hb, S.one_mul]
      have hb := Bool.eq_false_iff.mpr hb
      have hU : (low v ||| m).testBit v = false := by
        rw [Nat.testBit_or, low_tb, hb, decide_eq_false (Nat.lt_irrefl v)]
        rfl
      rw [Pl_at S X es _ hU]
      have hm2 : KeyOk (v + 1) count m := ⟨hm.1, fun i hi => by
        by_cases e : i = v
        · rw [e]
          exact hb
        · exact hm.2 i (by omega)⟩
      have e1 : low v ||| m ||| 2 ^ v = low (v + 1) ||| m := by
        refine Nat.eq_of_testBit_eq fun i => ?_
        rw [tb_or2, Nat.testBit_or, Nat.testBit_or, low_tb, low_tb]
        by_cases e : v = i
        · subst e
          rw [decide_eq_true rfl, decide_eq_true (Nat.lt_succ_self v)]
          simp
        · rw [decide_eq_false e, Bool.or_false]
          congr 1
          exact decide_eq_decide.mpr ⟨fun h => by omega, fun h => by omega⟩
      rw [ih m (by omega) hm2, e1]
      congr 1
      rw [lnS_dot S _ hvc, sumF_map]
      refine sumF_congr S fun e he => ?_
      obtain ⟨b1, b2⟩ := hin e he
      have hmx : max e.1 e.2 < count := by omega
      by_cases c : e.1 ≠ e.2 ∧ min e.1 e.2 = v
      · obtain ⟨c1, c2⟩ := c
        rw [if_pos ⟨c1, c2⟩]
        have hat : atV v e = true := by
          unfold atV
          by_cases z : e.1 = v
          · rw [decide_eq_true z]
            rfl
          · rw [decide_eq_true (show e.2 = v by omega), Bool.or_true]
        have hus : usE (low v ||| m) e = !m.testBit (max e.1 e.2) := by
          unfold usE
          rw [Nat.testBit_or, Nat.testBit_or, low_tb, low_tb, decide_eq_true c1, decide_eq_false (show ¬ e.1 < v by omega), decide_eq_false (show ¬ e.2 < v by omega), Bool.true_and, Bool.false_or, Bool.false_or]
          by_cases z : e.1 = v
          · rw [z, hb, show max v e.2 = e.2 by omega]
            rfl
          · rw [show e.2 = v by omega, hb, show max e.1 v = e.1 by omega]
            cases m.testBit e.1 <;> rfl
        rw [hat, hus, Bool.true_and]
        cases z : m.testBit (max e.1 e.2) with
        | true => 
          simp only [if_true, Bool.not_true, Bool.false_eq_true, if_false]
          exact S.mul_zero _
        | false =>
          simp only [Bool.false_eq_true, if_false, Bool.not_false, if_true]
          congr 1
          have hm3 : KeyOk (v + 1) count (m ||| 2 ^ max e.1 e.2) := ⟨Nat.or_lt_two_pow hm.1 (Nat.pow_lt_pow_right (by decide) hmx), fun i hi => by
            rw [tb_or2, hm2.2 i hi, decide_eq_false (show ¬ max e.1 e.2 = i by omega)]
            rfl⟩
          rw [ih _ (by omega) hm3]
          congr 1
          refine Nat.eq_of_testBit_eq fun i => ?_
          rw [Nat.testBit_or, Nat.testBit_or, Nat.testBit_two_pow, tb_orE, Nat.testBit_or, low_tb, low_tb]
          have h5 : (i < v + 1 ∨ max e.1 e.2 = i) ↔ (i < v ∨ e.1 = i ∨ e.2 = i) := by omega
          cases m.testBit i with
          | true => simp
          | false =>
            simp only [Bool.false_or, Bool.or_false]
            rw [Bool.eq_iff_iff]
            simp only [Bool.or_eq_true, decide_eq_true_eq, or_assoc]
            exact h5
      · rw [if_neg c]
        have : (atV v e && usE (low v ||| m) e) = false := by
          cases z : atV v e && usE (low v ||| m) e with
          | false => rfl
          | true =>
            exfalso
            obtain ⟨z1, z2⟩ := Bool.and_eq_true_iff.mp z
            unfold atV at z1
            unfold usE at z2
            rw [Nat.testBit_or, Nat.testBit_or, low_tb, low_tb] at z2
            obtain ⟨z2, z4⟩ := Bool.and_eq_true_iff.mp z2
            obtain ⟨z2, z3⟩ := Bool.and_eq_true_iff.mp z2
            have h1 := of_decide_eq_true z2
            have h3 : ¬ e.1 < v := fun q => by rw [decide_eq_true q] at z3; simp at z3
            have h4 : ¬ e.2 < v := fun q => by rw [decide_eq_true q] at z4; simp at z4
            refine c ⟨h1, ?_⟩
            rcases Bool.or_eq_true_iff.mp z1 with q | q
            · have := of_decide_eq_true q
              omega
            · have := of_decide_eq_true q
              omega
        rw [this]
        rfl
end
end MT
/-! ### perfect matchings, by the least free vertex -/
namespace MT
section
variable {α : Type} (S : Sr α)
theorem step_go2 (F : Nat → α) (c : Nat → List (Nat × α)) : ∀ (T g : List (Nat × α)), (keysA g).Nodup → (keysA (T.foldl (fun g p => fill S p.2 g (c p.1)) g)).Nodup ∧ dot S F (T.foldl (fun g p => fill S p.2 g (c p.1)) g) = S.add (dot S F g) (dot S (fun m => dot S F (c m)) T)
  | [], g, h => ⟨h, (S.add_zero _).symm⟩
  | p :: T, g, h => by
    obtain ⟨h1, h2⟩ := step_go2 F c T (fill S p.2 g (c p.1)) (fill_nodup S p.2 _ _ h)
    refine ⟨h1, ?_⟩
    rw [List.foldl_cons, h2, fill_dot S F p.2 _ _ h, S.add_assoc]
    rfl
variable (n : Nat) (es : List (Nat × Nat × α))
/-- what is due for a set of taken vertices -/
def Rd (U : Nat) : α := Fr S S.zero (lnS S n es) 0 U
theorem skip {U : Nat} (hU : U < 2 ^ n) : ∀ v, v ≤ n → (∀ i < v, U.testBit i = true) → Rd S n es U = Fr S S.zero ((lnS S n es).drop v) v (U ^^^ low v)
  | 0, _, _ => by
    have : U ^^^ low 0 = U := by
      unfold low
      rw [Nat.pow_zero, Nat.sub_self, Nat.xor_zero]
    rw [this]
    rfl
  | v + 1, h, hb => by
    rw [skip hU v (by omega) (fun i hi => hb i (by omega)), fr_step S S.zero _ (by rw [lnS_len]; omega), if_pos (by rw [Nat.testBit_xor, low_tb, hb v (by omega), decide_eq_false (Nat.lt_irrefl v)]; rfl)]
    congr 1
    refine Nat.eq_of_testBit_eq fun i => ?_
    rw [Nat.testBit_xor, Nat.testBit_xor, Nat.testBit_xor, Nat.testBit_two_pow, low_tb, low_tb]
    by_cases e : v = i
    · subst e
      rw [decide_eq_true rfl, decide_eq_false (Nat.lt_irrefl v), decide_eq_true (Nat.lt_succ_self v)]
      cases U.testBit v <;> rfl
    · rw [decide_eq_false e, Bool.xor_false]
      congr 1
      exact decide_eq_decide.mpr ⟨fun h => by omega, fun h => by omega⟩
theorem Rd_full {U : Nat} (hU : U < 2 ^ n) (hb : ∀ i < n, U.testBit i = true) : Rd S n es U = S.one := by
  rw [skip S n es hU n (Nat.le_refl n) hb, List.drop_eq_nil_of_le (by rw [lnS_len]; exact Nat.le_refl _)]
  have : U ^^^ low n = 0 := Nat.eq_of_testBit_eq fun i => by
    rw [Nat.testBit_xor, low_tb, Nat.zero_testBit]
    by_cases h : i < n
    · rw [hb i h, decide_eq_true h]
      rfl
    · rw [decide_eq_false h, Nat.testBit_lt_two_pow (Nat.lt_of_lt_of_le hU (Nat.pow_le_pow_right (by decide) (by omega)))]
      rfl
  rw [Fr, if_pos this]
/-- an edge from the least free vertex to a free one -/
def cnd (v U : Nat) (e : Nat × Nat × α) : Bool := decide (e.1 ≠ e.2.1) && decide (min e.1 e.2.1 = v) && !U.testBit (max e.1 e.2.1)
def orD (U : Nat) (e : Nat × Nat × α) : Nat := U ||| 2 ^ e.1 ||| 2 ^ e.2.1
def cD (v U : Nat) : List (Nat × α) := (es.filter (cnd v U)).map fun e => (orD U e, e.2.2)
theorem dot_cD (F : Nat → α) (v U : Nat) : ∀ es : List (Nat × Nat × α), dot S F (cD es v U) = sumF S (fun e => if cnd v U e = true then S.mul e.2.2 (F (orD U e)) else S.zero) es
  | [] => rfl
  | e :: es => by
    have ih := dot_cD F v U es
    unfold cD at ih ⊢
    by_cases h : cnd v U e = true
    · rw [List.filter_cons_of_pos h, List.map_cons]
      show S.add _ (dot S F _) = S.add (if cnd v U e = true then _ else _) _
      rw [ih, if_pos h]
    · rw [List.filter_cons_of_neg h, ih]
      show _ = S.add (if cnd v U e = true then _ else _) _
      rw [if_neg h, S.zero_add]
theorem Rd_step (hin : ∀ e ∈ es, e.1 < n ∧ e.2.1 < n) {U v : Nat} (hU : U < 2 ^ n) (hv : v < n) (hb : ∀ i < v, U.testBit i = true) (hf : U.testBit v = false) : Rd S n es U = dot S (Rd S n es) (cD es v U) := by
  have hm : (U ^^^ low v).testBit v = false := by
    rw [Nat.testBit_xor, low_tb, hf, decide_eq_false (Nat.lt_irrefl v)]
    rfl
  rw [skip S n es hU v (by omega) hb, fr_step S S.zero _ (by rw [lnS_len]; exact hv), if_neg (by rw [hm]; decide), S.zero_mul, S.zero_add, lnS_dot S _ hv, dot_cD]
  refine sumF_congr S fun e he => ?_
  obtain ⟨h1, h2⟩ := hin e he
  unfold cnd
  by_cases z1 : e.1 = e.2.1
  · rw [if_neg (fun q => q.1 z1), decide_eq_false (fun q => q z1)]
    rfl
  · by_cases z2 : min e.1 e.2.1 = v
    · rw [if_pos ⟨z1, z2⟩, decide_eq_true z1, decide_eq_true z2]
      have hk : v < max e.1 e.2.1 := by omega
      have hkn : max e.1 e.2.1 < n := by omega
      have hmk : (U ^^^ low v).testBit (max e.1 e.2.1) = U.testBit (max e.1 e.2.1) := by
        rw [Nat.testBit_xor, low_tb, decide_eq_false (by omega), Bool.xor_false]
      rw [hmk]
      cases z3 : U.testBit (max e.1 e.2.1) with
      | true =>
        rw [if_pos rfl]
        show S.mul _ S.zero = _
        rw [S.mul_zero]
        rfl
      | false =>
        rw [if_neg (by decide)]
        show _ = S.mul e.2.2 _
        congr 1
        have eo : orD U e = U ||| 2 ^ v ||| 2 ^ (max e.1 e.2.1) := by
          refine Nat.eq_of_testBit_eq fun i => ?_
          unfold orD
          rw [Nat.testBit_or, Nat.testBit_or, Nat.testBit_or, Nat.testBit_or, Nat.testBit_two_pow, Nat.testBit_two_pow, Nat.testBit_two_pow, Nat.testBit_two_pow]
          by_cases hl : e.1 < e.2.1
          · have a1 : v = e.1 := by omega
            have a2 : max e.1 e.2.1 = e.2.1 := by omega
            rw [a1, a2]
          · have a1 : v = e.2.1 := by omega
            have a2 : max e.1 e.2.1 = e.1 := by omega
            rw [a1, a2, Bool.or_assoc, Bool.or_assoc, Bool.or_comm (decide (e.1 = i))]
        have p1 : 2 ^ v < 2 ^ n := Nat.pow_lt_pow_right (by decide) hv
        have p2 : 2 ^ (max e.1 e.2.1) < 2 ^ n := Nat.pow_lt_pow_right (by decide) hkn
        rw [eo, skip S n es (Nat.or_lt_two_pow (Nat.or_lt_two_pow hU p1) p2) (v + 1) hv (fun i hi => by
          rw [Nat.testBit_or, Nat.testBit_or, Nat.testBit_two_pow]
          by_cases q : v = i
          · rw [decide_eq_true q]
            simp
          · rw [hb i (by omega)]
            simp)]
        congr 1
        refine Nat.eq_of_testBit_eq fun i => ?_
        rw [Nat.testBit_xor, Nat.testBit_or, Nat.testBit_or, Nat.testBit_or, Nat.testBit_xor, Nat.testBit_two_pow, Nat.testBit_two_pow, low_tb, low_tb]
        rcases Nat.lt_trichotomy i v with q | q | q
        · rw [hb i q, decide_eq_true q, decide_eq_true (show i < v + 1 by omega), decide_eq_false (show ¬ max e.1 e.2.1 = i by omega)]
          cases decide (v = i) <;> rfl
        · subst q
          rw [hf, decide_eq_true rfl, decide_eq_false (Nat.lt_irrefl i), decide_eq_true (Nat.lt_succ_self i), decide_eq_false (show ¬ max e.1 e.2.1 = i by omega)]
          rfl
        · rw [decide_eq_false (show ¬ i < v by omega), decide_eq_false (show ¬ i < v + 1 by omega), decide_eq_false (show ¬ v = i by omega)]
          cases U.testBit i <;> cases decide (max e.1 e.2.1 = i) <;> rfl
    · rw [if_neg (fun q => z2 q.2), decide_eq_false z2, Bool.and_false]
      rfl
/-! bits of a set, and the least free vertex -/
def bitsM (n U : Nat) : List Nat := (List.range n).filter fun k => U.testBit k
def freeM (n U : Nat) : List Nat := (List.range n).filter fun k => !U.testBit k
theorem bits_succ (n U : Nat) : (bitsM (n + 1) U).length = (bitsM n U).length + if U.testBit n = true then 1 else 0 := by
  unfold bitsM
  rw [List.range_succ, List.filter_append, List.length_append]
  congr 1
  by_cases h : U.testBit n = true
  · rw [if_pos h, List.filter_cons_of_pos h]
    rfl
  · rw [if_neg h, List.filter_cons_of_neg h]
    rfl
theorem bits_le (n U : Nat) : (bitsM n U).length ≤ n := by
  have := List.length_filter_le (fun k => U.testBit k) (List.range n)
  rwa [List.length_range] at this
theorem bits_or {a U : Nat} (hf : U.testBit a = false) : ∀ n, (bitsM n (U ||| 2 ^ a)).length = (bitsM n U).length + if a < n then 1 else 0
  | 0 => by simp [bitsM]
  | n + 1 => by
    rw [bits_succ, bits_succ, bits_or hf n, Nat.testBit_or, Nat.testBit_two_pow]
    rcases Nat.lt_trichotomy a n with q | q | q
    · rw [if_pos q, if_pos (show a < n + 1 by omega), decide_eq_false (by omega), Bool.or_false]
      omega
    · subst q
      rw [if_neg (Nat.lt_irrefl a), if_pos (Nat.lt_succ_self a), hf, decide_eq_true rfl]
      simp
    · rw [decide_eq_false (show ¬ a = n by omega), Bool.or_false, if_neg (show ¬ a < n by omega), if_neg (show ¬ a < n + 1 by omega)]
      omega
theorem bits_all {U : Nat} : ∀ n, (bitsM n U).length = n → ∀ i < n, U.testBit i = true
  | 0, _, i, h => by omega
  | n + 1, h, i, hi => by
    rw [bits_succ] at h
    have := bits_le n U
    by_cases z : U.testBit n = true
    · rw [if_pos z] at h
      by_cases e : i = n
      · rw [e]
        exact z
      · exact bits_all n (by omega) i (by omega)
    · rw [if_neg z] at h
      omega
theorem free_ne {n U : Nat} (h : (bitsM n U).length < n) : freeM n U ≠ [] := fun z => by
  have : ∀ k ∈ List.range n, U.testBit k = true := fun k hk => by
    cases q : U.testBit k with
    | true => rfl
    | false =>
      have : k ∈ freeM n U := List.mem_filter.mpr ⟨hk, by rw [q]; rfl⟩
      rw [z] at this
      cases this
  have e : bitsM n U = List.range n := List.filter_eq_self.mpr this
  rw [e, List.length_range] at h
  omega
theorem free_head {n U a : Nat} {t : List Nat} (h : freeM n U = a :: t) : a < n ∧ U.testBit a = false ∧ ∀ i < a, U.testBit i = true := by
  have ha : a ∈ freeM n U := by rw [h]; exact List.mem_cons_self ..
  obtain ⟨h1, h2⟩ := List.mem_filter.mp ha
  have h1 := List.mem_range.mp h1
  have h3 : U.testBit a = false := by
    cases z : U.testBit a with
    | false => rfl
    | true =>
      rw [z] at h2
      cases h2
  refine ⟨h1, h3, fun i hi => ?_⟩
  cases z : U.testBit i with
  | true => rfl
  | false =>
    have hm : i ∈ freeM n U := List.mem_filter.mpr ⟨List.mem_range.mpr (by omega), by rw [z]; rfl⟩
    have hp : (freeM n U).Pairwise (· < ·) := List.Pairwise.filter _ List.pairwise_lt_range
    rw [h] at hm hp
    rcases List.mem_cons.mp hm with q | q
    · omega
    · have := (List.pairwise_cons.mp hp).1 i q
      omega
def lowF (n U : Nat) : Nat := (freeM n U).headD 0
def stepD (T : List (Nat × α)) : List (Nat × α) := T.foldl (fun g p => fill S p.2 g (cD es (lowF n p.1) p.1)) []
def tabD : Nat → List (Nat × α)
  | 0 => [(0, S.one)]
  | k + 1 => stepD S n es (tabD k)
theorem dot_congr {F G : Nat → α} : ∀ {T : List (Nat × α)}, (∀ p ∈ T, F p.1 = G p.1) → dot S F T = dot S G T
  | [], _ => rfl
  | p :: T, h => by
    show S.add _ _ = S.add _ _
    rw [h p (List.mem_cons_self ..), dot_congr fun q m => h q (List.mem_cons_of_mem _ m)]
theorem low_spec {n U : Nat} (h : (bitsM n U).length < n) : lowF n U < n ∧ U.testBit (lowF n U) = false ∧ ∀ i < lowF n U, U.testBit i = true := by
  match e : freeM n U, free_ne h with
  | a :: t, _ =>
    have : lowF n U = a := by
      unfold lowF
      rw [e]
      rfl
    rw [this]
    exact free_head e
theorem cD_ok (hin : ∀ e ∈ es, e.1 < n ∧ e.2.1 < n) {U : Nat} (hU : U < 2 ^ n) (h : (bitsM n U).length < n) : ∀ c ∈ cD es (lowF n U) U, c.1 < 2 ^ n ∧ (bitsM n c.1).length = (bitsM n U).length + 2 := fun c hc => by
  obtain ⟨l1, l2, l3⟩ := low_spec h
  obtain ⟨e, he, rfl⟩ := List.mem_map.mp hc
  obtain ⟨m1, m2⟩ := List.mem_filter.mp he
  obtain ⟨h1, h2⟩ := hin e m1
  unfold cnd at m2
  simp only [Bool.and_eq_true, decide_eq_true_eq, Bool.not_eq_true'] at m2
  obtain ⟨⟨k1, k2⟩, k3⟩ := m2
  have f1 : U.testBit e.1 = false := by
    by_cases q : e.1 < e.2.1
    · rw [show e.1 = lowF n U by omega]
      exact l2
    · rw [show e.1 = max e.1 e.2.1 by omega]
      exact k3
  have f2 : U.testBit e.2.1 = false := by
    by_cases q : e.1 < e.2.1
    · rw [show e.2.1 = max e.1 e.2.1 by omega]
      exact k3
    · rw [show e.2.1 = lowF n U by omega]
      exact l2
  have f3 : (U ||| 2 ^ e.1).testBit e.2.1 = false := by
    rw [Nat.testBit_or, f2, Nat.testBit_two_pow, decide_eq_false (by omega)]
    rfl
  refine ⟨Nat.or_lt_two_pow (Nat.or_lt_two_pow hU (Nat.pow_lt_pow_right (by decide) h1)) (Nat.pow_lt_pow_right (by decide) h2), ?_⟩
  show (bitsM n (U ||| 2 ^ e.1 ||| 2 ^ e.2.1)).length = _
  rw [bits_or f3, bits_or f1, if_pos h1, if_pos h2]
/-- the table behind k turns -/
theorem tabD_ok (hin : ∀ e ∈ es, e.1 < n ∧ e.2.1 < n) : ∀ k, 2 * k ≤ n → (keysA (tabD S n es k)).Nodup ∧ (∀ U ∈ keysA (tabD S n es k), U < 2 ^ n ∧ (bitsM n U).length = 2 * k) ∧ dot S (Rd S n es) (tabD S n es k) = Rd S n es 0
  | 0, _ => ⟨by simp [keysA, tabD], fun U hU => by
      rw [List.mem_singleton.mp hU]
      refine ⟨Nat.two_pow_pos n, ?_⟩
      have : bitsM n 0 = [] := List.filter_eq_nil_iff.mpr fun k _ => by
        rw [Nat.zero_testBit]
        decide
      rw [this]
      rfl, by
      show S.add (S.mul S.one (Rd S n es 0)) S.zero = _
      rw [S.add_zero, S.one_mul]⟩
  | k + 1, h => by
    obtain ⟨h1, h2, h3⟩ := tabD_ok hin k (by omega)
    obtain ⟨k1, k2⟩ := step_go2 S (Rd S n es) (fun U => cD es (lowF n U) U) (tabD S n es k) [] List.nodup_nil
    refine ⟨k1, ?_, ?_⟩
    · have go : ∀ (T g : List (Nat × α)), (∀ U ∈ keysA T, U < 2 ^ n ∧ (bitsM n U).length = 2 * k) → (∀ U ∈ keysA g, U < 2 ^ n ∧ (bitsM n U).length = 2 * (k + 1)) → ∀ U ∈ keysA (T.foldl (fun g p => fill S p.2 g (cD es (lowF n p.1) p.1)) g), U < 2 ^ n ∧ (bitsM n U).length = 2 * (k + 1) := by
        intro T
        induction T with
        | nil => exact fun g _ hg => hg
        | cons p T ih =>
          intro g hT hg
          rw [List.foldl_cons]
          refine ih _ (fun U hU => hT U (List.mem_cons_of_mem _ hU)) (keys_fill S p.2 (fun U => U < 2 ^ n ∧ (bitsM n U).length = 2 * (k + 1)) _ _ (fun c hc => ?_) hg)
          obtain ⟨a, b⟩ := hT p.1 (List.mem_cons_self ..)
          obtain ⟨c1, c2⟩ := cD_ok n es hin a (by omega) c hc
          exact ⟨c1, by omega⟩
      exact go _ [] h2 (fun U hU => by cases hU)
    · show dot S _ (stepD S n es _) = _
      unfold stepD
      rw [k2, ← h3, show dot S (Rd S n es) [] = S.zero from rfl, S.zero_add]
      refine dot_congr S fun p hp => ?_
      obtain ⟨a, b⟩ := h2 p.1 (List.mem_map.mpr ⟨p, hp, rfl⟩)
      obtain ⟨l1, l2, l3⟩ := low_spec (n := n) (U := p.1) (by omega)
      exact (Rd_step S n es hin a l1 l3 l2).symm
/-- the end, for an odd number of vertices: nothing -/
theorem tabD_odd (hin : ∀ e ∈ es, e.1 < n ∧ e.2.1 < n) (ho : n % 2 = 1) : Rd S n es 0 = S.zero := by
  obtain ⟨h1, h2, h3⟩ := tabD_ok S n es hin (n / 2) (by omega)
  rw [← h3]
  have : ∀ T : List (Nat × α), (∀ U ∈ keysA T, U < 2 ^ n ∧ (bitsM n U).length = 2 * (n / 2)) → dot S (Rd S n es) T = S.zero := fun T => by
    induction T with
    | nil => exact fun _ => rfl
    | cons p T ih =>
      intro h
      obtain ⟨a, b⟩ := h p.1 (List.mem_cons_self ..)
      obtain ⟨l1, l2, l3⟩ := low_spec (n := n) (U := p.1) (by omega)
      have hc : cD es (lowF n p.1) p.1 = [] := by
        match e : cD es (lowF n p.1) p.1 with
        | [] => rfl
        | c :: t =>
          obtain ⟨_, c2⟩ := cD_ok n es hin a (by omega) c (by rw [e]; exact List.mem_cons_self ..)
          have := bits_le n c.1
          omega
      show S.add (S.mul p.2 (Rd S n es p.1)) (dot S _ T) = _
      rw [ih fun U hU => h U (List.mem_cons_of_mem _ hU), Rd_step S n es hin a l1 l3 l2, hc]
      show S.add (S.mul p.2 S.zero) S.zero = _
      rw [S.mul_zero, S.add_zero]
  exact this _ h2
/-- the end, for an even number: one sum, or nothing -/
theorem tabD_even (hin : ∀ e ∈ es, e.1 < n ∧ e.2.1 < n) (he : n % 2 = 0) : (tabD S n es (n / 2) = [] ∧ Rd S n es 0 = S.zero) ∨ tabD S n es (n / 2) = [(low n, Rd S n es 0)] := by
  obtain ⟨h1, h2, h3⟩ := tabD_ok S n es hin (n / 2) (by omega)
  have hk : ∀ U ∈ keysA (tabD S n es (n / 2)), U = low n := fun U hU => by
    obtain ⟨a, b⟩ := h2 U hU
    refine Nat.eq_of_testBit_eq fun i => ?_
    rw [low_tb]
    by_cases hi : i < n
    · rw [bits_all n (by omega) i hi, decide_eq_true hi]
    · rw [decide_eq_false hi]
      exact Nat.testBit_lt_two_pow (Nat.lt_of_lt_of_le a (Nat.pow_le_pow_right (by decide) (by omega)))
  generalize tabD S n es (n / 2) = T at *
  match T with
  | [] => exact .inl ⟨rfl, h3.symm⟩
  | [p] =>
    refine .inr ?_
    have hp := hk p.1 (List.mem_cons_self ..)
    obtain ⟨a, b⟩ := h2 p.1 (List.mem_cons_self ..)
    have h3 : S.add (S.mul p.2 (Rd S n es p.1)) S.zero = Rd S n es 0 := h3
    rw [Rd_full S n es a (bits_all n (by omega)), S.mul_one, S.add_zero] at h3
    rw [← h3, ← hp]
  | p :: r :: t =>
    have e1 := hk p.1 (List.mem_cons_self ..)
    have e2 := hk r.1 (List.mem_cons_of_mem _ (List.mem_cons_self ..))
    have := (List.nodup_cons.mp (show (p.1 :: r.1 :: keysA t).Nodup from h1)).1
    exact absurd (by rw [e1, e2]; exact List.mem_cons_self ..) this
end
end MT
namespace K04
def gs (n d : Int) : Int := if d < 0 then -((Nat.gcd n.natAbs d.natAbs : Nat) : Int) else ((Nat.gcd n.natAbs d.natAbs : Nat) : Int)
def F (n d : Int) : Int × Int := (n.fdiv (gs n d), d.fdiv (gs n d))
theorem gs_ne {n d : Int} (h : d ≠ 0) : gs n d ≠ 0 := by
  have h1 : Nat.gcd n.natAbs d.natAbs ≠ 0 := fun e => by
    have := (Nat.gcd_eq_zero_iff.mp e).2
    omega
  unfold gs
  split <;> omega
theorem gs_abs (n d : Int) : (gs n d).natAbs = Nat.gcd n.natAbs d.natAbs := by
  unfold gs
  split <;> omega
theorem gs_dvd1 (n d : Int) : gs n d ∣ n := by
  rw [← Int.natAbs_dvd_natAbs, gs_abs]
  exact Nat.gcd_dvd_left _ _
theorem gs_dvd2 (n d : Int) : gs n d ∣ d := by
  rw [← Int.natAbs_dvd_natAbs, gs_abs]
  exact Nat.gcd_dvd_right _ _
theorem gs_le (n : Int) {d : Int} (h : d ≠ 0) : (gs n d).natAbs ≤ d.natAbs := by
  rw [gs_abs]
  exact Nat.gcd_le_right _ (by omega)
theorem fdiv_of {n g m : Int} (hg : g ≠ 0) (h : n = g * m) : n.fdiv g = m := by
  rw [h, Int.mul_fdiv_cancel_left _ hg]
theorem gs_sign (n : Int) {d : Int} (h : d ≠ 0) : (0 < gs n d ∧ 0 < d) ∨ (gs n d < 0 ∧ d < 0) := by
  have h0 := gs_ne (n := n) h
  unfold gs at *
  split
  · rename_i hd
    rw [if_pos hd] at h0
    omega
  · rename_i hd
    rw [if_neg hd] at h0
    omega
theorem F_parts (n : Int) {d : Int} (h : d ≠ 0) : ∃ a b : Int, F n d = (a, b) ∧ n = gs n d * a ∧ d = gs n d * b ∧ 0 < b := by
  obtain ⟨a, ha⟩ := gs_dvd1 n d
  obtain ⟨b, hb⟩ := gs_dvd2 n d
  have hg := gs_ne (n := n) h
  refine ⟨a, b, ?_, ha, hb, ?_⟩
  · unfold F
    rw [fdiv_of hg ha, fdiv_of hg hb]
  · rcases gs_sign n h with ⟨h1, h2⟩ | ⟨h1, h2⟩
    · rw [hb] at h2
      exact Int.pos_of_mul_pos_right h2 h1
    · rw [hb] at h2
      rcases Int.lt_trichotomy b 0 with hx | hx | hx
      · have := Int.mul_pos_of_neg_of_neg h1 hx
        omega
      · subst hx
        omega
      · exact hx
theorem gs_scale {k n d : Int} (hk : k ≠ 0) (hd : d ≠ 0) : gs (k * n) (k * d) = k * gs n d := by
  have e : Nat.gcd (k * n).natAbs (k * d).natAbs = k.natAbs * Nat.gcd n.natAbs d.natAbs := by
    rw [Int.natAbs_mul, Int.natAbs_mul, Nat.gcd_mul_left]
  have hkd : k * d ≠ 0 := Int.mul_ne_zero hk hd
  have a1 := gs_abs (k * n) (k * d)
  rw [e, ← gs_abs n d, ← Int.natAbs_mul] at a1
  rcases Int.natAbs_eq_natAbs_iff.mp a1 with h | h
  · exact h
  · exfalso
    have s1 := gs_sign (k * n) hkd
    have s2 := gs_sign n hd
    rw [h] at s1
    rcases Int.lt_or_gt_of_ne hk with hk | hk
    · rcases s2 with ⟨x, y⟩ | ⟨x, y⟩
      · have := Int.mul_neg_of_neg_of_pos hk x
        have := Int.mul_neg_of_neg_of_pos hk y
        omega
      · have := Int.mul_pos_of_neg_of_neg hk x
        have := Int.mul_pos_of_neg_of_neg hk y
        omega
    · rcases s2 with ⟨x, y⟩ | ⟨x, y⟩
      · have := Int.mul_pos hk x
        have := Int.mul_pos hk y
        omega
      · have := Int.mul_neg_of_pos_of_neg hk x
        have := Int.mul_neg_of_pos_of_neg hk y
        omega
theorem F_scale {k n d : Int} (hk : k ≠ 0) (hd : d ≠ 0) : F (k * n) (k * d) = F n d := by
  obtain ⟨a, b, e, ha, hb, _⟩ := F_parts n hd
  rw [e]
  have hg := gs_ne (n := n) hd
  have hkg : k * gs n d ≠ 0 := Int.mul_ne_zero hk hg
  unfold F
  rw [gs_scale hk hd, fdiv_of hkg (show k * n = k * gs n d * a by rw [Int.mul_assoc, ← ha]), fdiv_of hkg (show k * d = k * gs n d * b by rw [Int.mul_assoc, ← hb])]
theorem F_eq {n d n' d' : Int} (hd : d ≠ 0) (hd' : d' ≠ 0) (h : n * d' = n' * d) : F n d = F n' d' := by
  rw [← F_scale (k := d') hd' hd, ← F_scale (k := d) (n := n') (d := d') hd hd']
  rw [show d' * n = d * n' by rw [Int.mul_comm d' n, h, Int.mul_comm], Int.mul_comm d' d]
theorem F_cross (n : Int) {d : Int} (h : d ≠ 0) : (F n d).1 * d = n * (F n d).2 := by
  obtain ⟨a, b, e, ha, hb, _⟩ := F_parts n h
  rw [e]
  show a * d = n * b
  calc a * d = a * (gs n d * b) := by rw [← hb]
    _ = (gs n d * a) * b := by grind
    _ = n * b := by rw [← ha]
theorem F_pos (n : Int) {d : Int} (h : d ≠ 0) : 0 < (F n d).2 := by
  obtain ⟨a, b, e, ha, hb, p⟩ := F_parts n h
  rw [e]
  exact p
theorem F_le1 (n : Int) {d : Int} (h : d ≠ 0) : (F n d).1.natAbs ≤ n.natAbs := by
  obtain ⟨a, b, e, ha, hb, p⟩ := F_parts n h
  rw [e]
  have hg := gs_ne (n := n) h
  have h1 : 1 ≤ (gs n d).natAbs := by omega
  have h2 : n.natAbs = (gs n d).natAbs * a.natAbs := by
    rw [← Int.natAbs_mul, ← ha]
  rw [h2]
  exact Nat.le_mul_of_pos_left _ h1
theorem F_le2 (n : Int) {d : Int} (h : d ≠ 0) : (F n d).2.natAbs ≤ d.natAbs := by
  obtain ⟨a, b, e, ha, hb, p⟩ := F_parts n h
  rw [e]
  have hg := gs_ne (n := n) h
  have h1 : 1 ≤ (gs n d).natAbs := by omega
  have h2 : d.natAbs = (gs n d).natAbs * b.natAbs := by
    rw [← Int.natAbs_mul, ← hb]
  rw [h2]
  exact Nat.le_mul_of_pos_left _ h1
theorem F_zero (n : Int) {d : Int} (h : d ≠ 0) : (F n d).1 = 0 ↔ n = 0 := by
  have c := F_cross n h
  have p := F_pos n h
  constructor
  · intro e
    rw [e, Int.zero_mul] at c
    rcases Int.mul_eq_zero.mp c.symm with z | z
    · exact z
    · omega
  · intro e
    subst e
    rw [Int.zero_mul] at c
    rcases Int.mul_eq_zero.mp c with z | z
    · exact z
    · omega
/-! what the operations give -/
def addF (p q : Int × Int) : Int × Int := F (p.1 * q.2 + q.1 * p.2) (p.2 * q.2)
def subF (p q : Int × Int) : Int × Int := F (p.1 * q.2 - q.1 * p.2) (p.2 * q.2)
def mulF (p q : Int × Int) : Int × Int := F (p.1 * q.1) (p.2 * q.2)
def divF (p q : Int × Int) : Int × Int := F (p.1 * q.2) (p.2 * q.1)
theorem addF_F {a b c d : Int} (hb : b ≠ 0) (hd : d ≠ 0) : addF (F a b) (F c d) = F (a * d + c * b) (b * d) := by
  have c1 := F_cross a hb
  have c2 := F_cross c hd
  have p1 := F_pos a hb
  have p2 := F_pos c hd
  unfold addF
  refine F_eq (Int.ne_of_gt (Int.mul_pos p1 p2)) (Int.mul_ne_zero hb hd) ?_
  generalize F a b = p at *
  generalize F c d = q at *
  grind
theorem subF_F {a b c d : Int} (hb : b ≠ 0) (hd : d ≠ 0) : subF (F a b) (F c d) = F (a * d - c * b) (b * d) := by
  have c1 := F_cross a hb
  have c2 := F_cross c hd
  have p1 := F_pos a hb
  have p2 := F_pos c hd
  unfold subF
  refine F_eq (Int.ne_of_gt (Int.mul_pos p1 p2)) (Int.mul_ne_zero hb hd) ?_
  generalize F a b = p at *
  generalize F c d = q at *
  grind
theorem mulF_F {a b c d : Int} (hb : b ≠ 0) (hd : d ≠ 0) : mulF (F a b) (F c d) = F (a * c) (b * d) := by
  have c1 := F_cross a hb
  have c2 := F_cross c hd
  have p1 := F_pos a hb
  have p2 := F_pos c hd
  unfold mulF
  refine F_eq (Int.ne_of_gt (Int.mul_pos p1 p2)) (Int.mul_ne_zero hb hd) ?_
  generalize F a b = p at *
  generalize F c d = q at *
  grind
theorem divF_F {a b c d : Int} (hb : b ≠ 0) (hd : d ≠ 0) (hc : c ≠ 0) : divF (F a b) (F c d) = F (a * d) (b * c) := by
  have c1 := F_cross a hb
  have c2 := F_cross c hd
  have p1 := F_pos a hb
  have p2 := F_pos c hd
  have z := F_zero c hd
  unfold divF
  refine F_eq (Int.mul_ne_zero (Int.ne_of_gt p1) (fun e => hc (z.mp e))) (Int.mul_ne_zero hb hc) ?_
  generalize F a b = p at *
  generalize F c d = q at *
  grind
theorem F_one : F 1 1 = (1, 1) := by decide
theorem cmp_F {a b c d : Int} (hb : 0 < b) (hd : 0 < d) : ((F a b).1 * (F c d).2 < (F c d).1 * (F a b).2 ↔ a * d < c * b) := by
  have c1 := F_cross a (Int.ne_of_gt hb)
  have c2 := F_cross c (Int.ne_of_gt hd)
  have p1 := F_pos a (Int.ne_of_gt hb)
  have p2 := F_pos c (Int.ne_of_gt hd)
  generalize F a b = p at *
  generalize F c d = q at *
  have e : (p.1 * q.2 - q.1 * p.2) * (b * d) = (a * d - c * b) * (p.2 * q.2) := by grind
  have h1 : 0 < b * d := Int.mul_pos hb hd
  have h2 : 0 < p.2 * q.2 := Int.mul_pos p1 p2
  constructor
  · intro h
    have h3 : p.1 * q.2 - q.1 * p.2 < 0 := by omega
    have h4 := Int.mul_neg_of_neg_of_pos h3 h1
    rw [e] at h4
    rcases Int.lt_or_le (a * d - c * b) 0 with x | x
    · omega
    · have := Int.mul_nonneg x (Int.le_of_lt h2)
      omega
  · intro h
    have h3 : a * d - c * b < 0 := by omega
    have h4 := Int.mul_neg_of_neg_of_pos h3 h2
    rw [← e] at h4
    rcases Int.lt_or_le (p.1 * q.2 - q.1 * p.2) 0 with x | x
    · omega
    · have := Int.mul_nonneg x (Int.le_of_lt h1)
      omega
/-! powers -/
def pwF (n d : Int) (k : Nat) : Int × Int := F (n ^ k) (d ^ k)
theorem pow_ne {d : Int} (h : d ≠ 0) (k : Nat) : d ^ k ≠ 0 := Int.pow_ne_zero h
theorem pwF_mul {n d : Int} (h : d ≠ 0) (i j : Nat) : mulF (pwF n d i) (pwF n d j) = pwF n d (i + j) := by
  unfold pwF
  rw [mulF_F (pow_ne h i) (pow_ne h j), Int.pow_add, Int.pow_add]
theorem pwF_zero (n d : Int) : pwF n d 0 = (1, 1) := by
  unfold pwF
  rw [Int.pow_zero, Int.pow_zero]
  exact F_one
theorem pwF_one (n d : Int) : pwF n d 1 = F n d := by
  unfold pwF
  rw [Int.pow_succ, Int.pow_zero, Int.one_mul, Int.pow_succ, Int.pow_zero, Int.one_mul]
theorem pow_lt {n : Int} {b : Nat} (h : n.natAbs < 2 ^ b) : ∀ k : Nat, (n ^ k).natAbs < 2 ^ (b * k + 1)
  | 0 => by simp
  | k + 1 => by
    have ih := pow_lt h k
    rw [Int.pow_succ, Int.natAbs_mul]
    have h2 : (n ^ k).natAbs * n.natAbs < 2 ^ (b * k + 1) * 2 ^ b := Nat.mul_lt_mul'' ih h
    rw [← Nat.pow_add] at h2
    have e : b * (k + 1) + 1 = b * k + 1 + b := by
      rw [Nat.mul_add]
      omega
    rw [e]
    exact h2
theorem pwF_lt1 {n d : Int} (h : d ≠ 0) {b : Nat} (hn : n.natAbs < 2 ^ b) (k : Nat) : (pwF n d k).1.natAbs < 2 ^ (b * k + 1) :=
  Nat.lt_of_le_of_lt (F_le1 _ (pow_ne h k)) (pow_lt hn k)
theorem pwF_lt2 {n d : Int} (h : d ≠ 0) {b : Nat} (hd : d.natAbs < 2 ^ b) (k : Nat) : (pwF n d k).2.natAbs < 2 ^ (b * k + 1) :=
  Nat.lt_of_le_of_lt (F_le2 _ (pow_ne h k)) (pow_lt hd k)
/-- 1 / x of a power -/
theorem F_flip {a b : Int} (ha : a ≠ 0) (hb : b ≠ 0) : F (F a b).2 (F a b).1 = F b a := by
  have c := F_cross a hb
  have z := F_zero a hb
  have p := F_pos a hb
  refine F_eq (fun e => ha (z.mp e)) ha ?_
  rw [Int.mul_comm, ← c, Int.mul_comm]
/-! gcd by remainders -/
theorem gcd_step (a b : Int) : Nat.gcd b.natAbs (a.fmod b).natAbs = Nat.gcd a.natAbs b.natAbs := by
  have e : a = a.fmod b + b * a.fdiv b := by
    have := Int.mul_fdiv_add_fmod a b
    omega
  have h : Int.gcd b (a.fmod b) = Int.gcd a b := by
    rw [Int.gcd_comm a b]
    conv => rhs; rw [e]
    rw [Int.gcd_add_mul_left_right]
  exact h
theorem fmod_small {a b : Int} (h : b ≠ 0) : (a.fmod b).natAbs < b.natAbs := by
  rcases Int.lt_or_gt_of_ne h with h | h
  · have e := Int.neg_fmod_neg a b
    have h1 := Int.fmod_nonneg_of_pos (-a) (show 0 < -b by omega)
    have h2 := Int.fmod_lt_of_pos (-a) (show 0 < -b by omega)
    omega
  · have h1 := Int.fmod_nonneg_of_pos a h
    have h2 := Int.fmod_lt_of_pos a h
    omega
end K04
/-! ### series of rationals -/
namespace SM
/-- the first j products of a and b that give to the power n -/
def ps (a b : Nat → Rat) (n : Nat) : Nat → Rat
  | 0 => 0
  | j + 1 => ps a b n j + a j * b (n - j)
def cv (a b : Nat → Rat) (n : Nat) : Rat := ps a b n (n + 1)
def sh (a : Nat → Rat) : Nat → Rat := fun k => a (k + 1)
/-- the derivative -/
def dv (a : Nat → Rat) : Nat → Rat := fun k => ((k + 1 : Nat) : Rat) * a (k + 1)
theorem ps_congr {a b c d : Nat → Rat} {n : Nat} : ∀ j, (∀ k < j, a k = c k) → (∀ k < j, b (n - k) = d (n - k)) → ps a b n j = ps c d n j
  | 0, _, _ => rfl
  | j + 1, h, k => by rw [ps, ps, ps_congr j (fun i hi => h i (by omega)) (fun i hi => k i (by omega)), h j (by omega), k j (by omega)]
theorem cv_congr {a b c d : Nat → Rat} {n : Nat} (h : ∀ k ≤ n, a k = c k) (g : ∀ k ≤ n, b k = d k) : cv a b n = cv c d n := ps_congr _ (fun k hk => h k (by omega)) (fun k hk => g _ (by omega))
theorem ps_head (a b : Nat → Rat) (n : Nat) : ∀ j, ps a b (n + 1) (j + 1) = a 0 * b (n + 1) + ps (sh a) b n j
  | 0 => by
    show 0 + a 0 * b (n + 1 - 0) = a 0 * b (n + 1) + 0
    grind
  | j + 1 => by
    rw [ps, ps_head a b n j, ps]
    have : n + 1 - (j + 1) = n - j := by omega
    rw [this]
    show _ + a (j + 1) * b (n - j) = _ + (_ + a (j + 1) * b (n - j))
    grind
theorem cv_zero (a b : Nat → Rat) : cv a b 0 = a 0 * b 0 := by
  show 0 + a 0 * b 0 = a 0 * b 0
  grind
theorem cv_head (a b : Nat → Rat) (n : Nat) : cv a b (n + 1) = a 0 * b (n + 1) + cv (sh a) b n := ps_head a b n (n + 1)
theorem cv_last (a b : Nat → Rat) (n : Nat) : cv a b (n + 1) = cv a (sh b) n + a (n + 1) * b 0 := by
  have e : ps a b (n + 1) (n + 1) = ps a (sh b) n (n + 1) := by
    suffices h : ∀ j, j ≤ n + 1 → ps a b (n + 1) j = ps a (sh b) n j from h _ (Nat.le_refl _)
    intro j
    induction j with
    | zero => exact fun _ => rfl
    | succ j ih =>
      intro hj
      rw [ps, ps, ih (by omega)]
      have : n + 1 - j = (n - j) + 1 := by omega
      rw [this]
      rfl
  show ps a b (n + 1) (n + 1) + a (n + 1) * b (n + 1 - (n + 1)) = _
  rw [e, Nat.sub_self]
  rfl
theorem cv_comm : ∀ (n : Nat) (a b : Nat → Rat), cv a b n = cv b a n
  | 0, a, b => by rw [cv_zero, cv_zero, Rat.mul_comm]
  | n + 1, a, b => by
    rw [cv_last a b, cv_head b a, cv_comm n (sh b) a]
    grind
theorem cv_lin (a b c : Nat → Rat) (x : Rat) (n : Nat) : cv (fun k => x * a k + b k) c n = x * cv a c n + cv b c n := by
  suffices h : ∀ j, ps (fun k => x * a k + b k) c n j = x * ps a c n j + ps b c n j from h _
  intro j
  induction j with
  | zero => 
    show (0 : Rat) = x * 0 + 0
    grind
  | succ j ih =>
    rw [ps, ps, ps, ih]
    grind
theorem cv_smul (a b : Nat → Rat) (x : Rat) (n : Nat) : cv (fun k => x * a k) b n = x * cv a b n := by
  suffices h : ∀ j, ps (fun k => x * a k) b n j = x * ps a b n j from h _
  intro j
  induction j with
  | zero =>
    show (0 : Rat) = x * 0
    grind
  | succ j ih =>
    rw [ps, ps, ih]
    grind
theorem cv_add (a b c : Nat → Rat) (n : Nat) : cv (fun k => a k + b k) c n = cv a c n + cv b c n := by
  suffices h : ∀ j, ps (fun k => a k + b k) c n j = ps a c n j + ps b c n j from h _
  intro j
  induction j with
  | zero =>
    show (0 : Rat) = 0 + 0
    grind
  | succ j ih =>
    rw [ps, ps, ps, ih]
    grind
theorem cv_assoc : ∀ (n : Nat) (a b c : Nat → Rat), cv (cv a b) c n = cv a (cv b c) n
  | 0, a, b, c => by
    rw [cv_zero, cv_zero, cv_zero, cv_zero, Rat.mul_assoc]
  | n + 1, a, b, c => by
    rw [cv_head, cv_head a, cv_zero]
    have e : sh (cv a b) = fun k => a 0 * sh b k + cv (sh a) b k := funext fun k => cv_head a b k
    rw [e, cv_lin, cv_assoc n, cv_head b c]
    grind
theorem cv_smul2 (a b : Nat → Rat) (x : Rat) (n : Nat) : cv a (fun k => x * b k) n = x * cv a b n := by
  rw [cv_comm, cv_smul, cv_comm]
theorem cv_add2 (a b c : Nat → Rat) (n : Nat) : cv a (fun k => b k + c k) n = cv a b n + cv a c n := by
  rw [cv_comm, cv_add, cv_comm n b a, cv_comm n c a]
/-- the derivative of a product -/
theorem dv_cv : ∀ (n : Nat) (a b : Nat → Rat), dv (cv a b) n = cv (dv a) b n + cv a (dv b) n
  | 0, a, b => by
    show ((1 : Nat) : Rat) * cv a b 1 = _
    rw [cv_head, cv_zero, cv_zero, cv_zero]
    show ((1 : Nat) : Rat) * (a 0 * b 1 + a 1 * b 0) = ((1 : Nat) : Rat) * a 1 * b 0 + a 0 * (((1 : Nat) : Rat) * b 1)
    grind
  | n + 1, a, b => by
    have ih := dv_cv n (sh a) b
    show ((n + 1 + 1 : Nat) : Rat) * cv a b (n + 1 + 1) = _
    rw [cv_head a b, cv_head (dv a) b, cv_head a (dv b)]
    have e1 : ((n + 1 + 1 : Nat) : Rat) = ((n + 1 : Nat) : Rat) + 1 := by
      have : ((n + 1 + 1 : Nat) : Rat) = ((n + 1 : Nat) : Rat) + ((1 : Nat) : Rat) := Rat.natCast_add (n + 1) 1
      rw [this]
      rfl
    have e2 : sh (dv a) = fun k => dv (sh a) k + sh (sh a) k := funext fun k => by
      show ((k + 1 + 1 : Nat) : Rat) * a (k + 1 + 1) = ((k + 1 : Nat) : Rat) * a (k + 1 + 1) + a (k + 1 + 1)
      have : ((k + 1 + 1 : Nat) : Rat) = ((k + 1 : Nat) : Rat) + ((1 : Nat) : Rat) := Rat.natCast_add (k + 1) 1
      rw [this]
      have : ((1 : Nat) : Rat) = 1 := rfl
      rw [this]
      grind
    rw [e2, cv_add]
    have e3 : dv (cv (sh a) b) n = ((n + 1 : Nat) : Rat) * cv (sh a) b (n + 1) := rfl
    rw [e3] at ih
    have e4 : dv b (n + 1) = ((n + 1 + 1 : Nat) : Rat) * b (n + 1 + 1) := rfl
    have e5 : dv a 0 = a 1 := by
      show ((1 : Nat) : Rat) * a 1 = a 1
      have : ((1 : Nat) : Rat) = 1 := rfl
      rw [this]
      grind
    have e6 : cv (sh a) b (n + 1) = a 1 * b (n + 1) + cv (sh (sh a)) b n := cv_head (sh a) b n
    rw [e4, e5, e1]
    generalize ((n + 1 : Nat) : Rat) = N at *
    grind
/-! ### the exponential -/
def dl : Nat → Rat := fun k => if k = 0 then 1 else 0
theorem cv_dl (a : Nat → Rat) : ∀ n, cv dl a n = a n
  | 0 => by
    rw [cv_zero]
    show (1 : Rat) * a 0 = a 0
    grind
  | n + 1 => by
    rw [cv_head]
    have : sh dl = fun k => (0 : Rat) * dl k := funext fun k => by
      show (if k + 1 = 0 then (1 : Rat) else 0) = 0 * dl k
      rw [if_neg (by omega)]
      grind
    rw [this, cv_smul]
    show (1 : Rat) * a (n + 1) + 0 * _ = a (n + 1)
    grind
/-- f^k / k! -/
def tm (f : Nat → Rat) : Nat → Nat → Rat
  | 0 => dl
  | k + 1 => fun n => cv (tm f k) f n * (1 / ((k + 1 : Nat) : Rat))
theorem natc_ne (k : Nat) : ((k + 1 : Nat) : Rat) ≠ 0 := by
  intro h
  have : ((k + 1 : Nat) : Rat) = ((0 : Nat) : Rat) := h
  have := Rat.natCast_inj.mp this
  omega
theorem natc_succ (k : Nat) : ((k + 1 : Nat) : Rat) = (k : Rat) + 1 := by
  have : ((k + 1 : Nat) : Rat) = (k : Rat) + ((1 : Nat) : Rat) := Rat.natCast_add k 1
  rw [this]
  rfl
theorem tm_dv (f : Nat → Rat) : ∀ (k n : Nat), dv (tm f (k + 1)) n = cv (dv f) (tm f k) n
  | 0, n => by
    have h1 : tm f 1 = f := funext fun m => by
      show cv dl f m * (1 / ((1 : Nat) : Rat)) = f m
      rw [cv_dl]
      have : ((1 : Nat) : Rat) = 1 := rfl
      rw [this]
      grind
    rw [h1, cv_comm]
    show _ = cv dl (dv f) n
    rw [cv_dl]
  | k + 1, n => by
    have ih : dv (tm f (k + 1)) = cv (dv f) (tm f k) := funext fun m => tm_dv f k m
    have h0 := natc_ne (k + 1)
    have h1 : dv (tm f (k + 1 + 1)) n = dv (cv (tm f (k + 1)) f) n * (1 / ((k + 1 + 1 : Nat) : Rat)) := by
      show _ * (cv (tm f (k + 1)) f (n + 1) * _) = _ * cv (tm f (k + 1)) f (n + 1) * _
      grind
    rw [h1, dv_cv, ih, cv_assoc]
    have h2 : cv (tm f k) f = fun m => ((k + 1 : Nat) : Rat) * tm f (k + 1) m := funext fun m => by
      have := natc_ne k
      show cv (tm f k) f m = ((k + 1 : Nat) : Rat) * (cv (tm f k) f m * (1 / ((k + 1 : Nat) : Rat)))
      generalize ((k + 1 : Nat) : Rat) = N at *
      grind
    rw [h2, cv_smul2, cv_comm n (tm f (k + 1)) (dv f), natc_succ (k + 1)]
    rw [natc_succ (k + 1)] at h0
    generalize ((k + 1 : Nat) : Rat) = N at *
    grind
theorem tm_low {f : Nat → Rat} (h : f 0 = 0) : ∀ k n, n < k → tm f k n = 0
  | 0, n, hn => by omega
  | k + 1, n, hn => by
    show cv (tm f k) f n * _ = 0
    have : cv (tm f k) f n = 0 := by
      cases n with
      | zero =>
        rw [cv_zero, h]
        grind
      | succ n =>
        rw [cv_last, h]
        have e : cv (tm f k) (sh f) n = cv (fun m => (0 : Rat) * tm f k m) (sh f) n := cv_congr (fun m hm => by rw [tm_low h k m (by omega)]; grind) (fun _ _ => rfl)
        rw [e, cv_smul]
        grind
    rw [this]
    grind
/-- the sum of the first terms -/
def tot (f : Nat → Rat) : Nat → Nat → Rat
  | 0 => tm f 0
  | k + 1 => fun n => tot f k n + tm f (k + 1) n
theorem tot_dv (f : Nat → Rat) : ∀ (k n : Nat), dv (tot f (k + 1)) n = cv (dv f) (tot f k) n
  | 0, n => by
    have h0 : dv (tm f 0) n = 0 := by
      show _ * (if n + 1 = 0 then (1 : Rat) else 0) = 0
      rw [if_neg (by omega)]
      grind
    have h1 : dv (tot f 1) n = dv (tm f 0) n + dv (tm f 1) n := by
      show _ * (tm f 0 (n + 1) + tm f 1 (n + 1)) = _
      rw [Rat.mul_add]
      rfl
    rw [h1, h0, tm_dv]
    show 0 + cv (dv f) (tm f 0) n = cv (dv f) (tm f 0) n
    grind
  | k + 1, n => by
    have h1 : dv (tot f (k + 1 + 1)) n = dv (tot f (k + 1)) n + dv (tm f (k + 1 + 1)) n := by
      show _ * (tot f (k + 1) (n + 1) + tm f (k + 1 + 1) (n + 1)) = _
      rw [Rat.mul_add]
      rfl
    rw [h1, tot_dv f k, tm_dv]
    have h2 : tot f (k + 1) = fun m => tot f k m + tm f (k + 1) m := rfl
    rw [h2, cv_add2]
/-- e goes on by g: (n + 1) e (n + 1) is the n-th coefficient of g times e, below N -/
def Goes (g e : Nat → Rat) (N : Nat) : Prop := e 0 = 1 ∧ ∀ n < N, ((n + 1 : Nat) : Rat) * e (n + 1) = cv g e n
theorem goes_uniq {g e d : Nat → Rat} {N : Nat} (h : Goes g e N) (k : Goes g d N) : ∀ n ≤ N, e n = d n := by
  intro n
  induction n using Nat.strongRecOn with
  | _ n ih =>
    intro hn
    cases n with
    | zero => rw [h.1, k.1]
    | succ n =>
      have h1 := h.2 n (by omega)
      have k1 := k.2 n (by omega)
      have e1 : cv g e n = cv g d n := cv_congr (fun _ _ => rfl) fun m hm => ih m (by omega) (by omega)
      have := natc_ne n
      rw [e1, ← k1] at h1
      generalize ((n + 1 : Nat) : Rat) = X at *
      grind
theorem tot_goes {f : Nat → Rat} (h : f 0 = 0) (N : Nat) : Goes (dv f) (tot f N) N := by
  constructor
  · have : ∀ k, tot f k 0 = 1 := fun k => by
      induction k with
      | zero => rfl
      | succ k ih =>
        show tot f k 0 + tm f (k + 1) 0 = 1
        rw [ih, tm_low h (k + 1) 0 (by omega)]
        grind
    exact this N
  · intro n hn
    cases N with
    | zero => omega
    | succ N =>
      have h1 := tot_dv f N n
      have h2 : cv (dv f) (tot f N) n = cv (dv f) (tot f (N + 1)) n := cv_congr (fun _ _ => rfl) fun m hm => by
        show tot f N m = tot f N m + tm f (N + 1) m
        rw [tm_low h (N + 1) m (by omega)]
        grind
      rw [← h2, ← h1]
      rfl
/-- the slopes are told -/
theorem goes_slopes {g s e : Nat → Rat} {N : Nat} (h : Goes g e N) (k : Goes s e N) : ∀ n < N, g n = s n := by
  intro n
  induction n using Nat.strongRecOn with
  | _ n ih =>
    intro hn
    have h1 := h.2 n hn
    have k1 := k.2 n hn
    rw [h1] at k1
    have e1 : ps g e n n = ps s e n n := ps_congr _ (fun m hm => ih m hm (by omega)) fun _ _ => rfl
    have k2 : ps g e n n + g n * e (n - n) = ps s e n n + s n * e (n - n) := k1
    rw [e1, Nat.sub_self, h.1] at k2
    grind
end SM
/-! ### fractions as rationals, their sizes -/
namespace SM
open K04
def fq (r : Rat) : Int × Int := (r.num, (r.den : Int))
theorem den_ne (r : Rat) : (r.den : Int) ≠ 0 := by
  have := r.den_nz
  omega
theorem F_red (r : Rat) : F r.num (r.den : Int) = fq r := by
  have hg : gs r.num (r.den : Int) = 1 := by
    unfold gs
    rw [if_neg (by omega), Int.natAbs_natCast, r.reduced]
    rfl
  unfold F fq
  rw [hg, Int.fdiv_one, Int.fdiv_one]
theorem F_fq (n : Int) {d : Int} (h : d ≠ 0) : F n d = fq (Rat.divInt n d) := by
  rw [← F_red]
  refine F_eq h (den_ne _) ?_
  have := Rat.num_divInt_den (Rat.divInt n d)
  exact ((Rat.divInt_eq_divInt_iff (den_ne _) h).mp this).symm
theorem addF_fq (a b : Rat) : addF (fq a) (fq b) = fq (a + b) := by
  unfold addF fq
  rw [F_fq _ (Int.mul_ne_zero (den_ne a) (den_ne b)), ← Rat.divInt_add_divInt _ _ (den_ne a) (den_ne b), Rat.num_divInt_den, Rat.num_divInt_den]
  rfl
theorem subF_fq (a b : Rat) : subF (fq a) (fq b) = fq (a - b) := by
  unfold subF fq
  rw [F_fq _ (Int.mul_ne_zero (den_ne a) (den_ne b)), ← Rat.divInt_sub_divInt _ _ (den_ne a) (den_ne b), Rat.num_divInt_den, Rat.num_divInt_den]
  rfl
theorem mulF_fq (a b : Rat) : mulF (fq a) (fq b) = fq (a * b) := by
  unfold mulF fq
  rw [F_fq _ (Int.mul_ne_zero (den_ne a) (den_ne b)), ← Rat.divInt_mul_divInt, Rat.num_divInt_den, Rat.num_divInt_den]
  rfl
theorem num_ne {b : Rat} (h : b ≠ 0) : b.num ≠ 0 := fun e => h (Rat.num_eq_zero.mp e)
theorem divF_fq (a : Rat) {b : Rat} (h : b ≠ 0) : divF (fq a) (fq b) = fq (a / b) := by
  unfold divF fq
  rw [F_fq _ (Int.mul_ne_zero (den_ne a) (num_ne h)), ← Rat.divInt_mul_divInt, Rat.num_divInt_den]
  have e : Rat.divInt (b.den : Int) b.num = b⁻¹ := by
    rw [← Rat.inv_divInt, Rat.num_divInt_den]
  rw [e, ← Rat.div_def]
  rfl
theorem fq_one : fq 1 = (1, 1) := rfl
theorem fq_zero : fq 0 = (0, 1) := rfl
theorem fq_nat (k : Nat) : fq (k : Rat) = ((k : Int), 1) := rfl
theorem fq_inv (k : Nat) : fq (1 / ((k + 1 : Nat) : Rat)) = (1, ((k + 1 : Nat) : Int)) := by
  have h := divF_fq 1 (natc_ne k)
  rw [← h, fq_one, fq_nat]
  unfold divF
  show F (1 * 1) (1 * ((k + 1 : Nat) : Int)) = _
  rw [Int.one_mul, Int.one_mul]
  have hg : gs 1 ((k + 1 : Nat) : Int) = 1 := by
    unfold gs
    rw [if_neg (by omega)]
    simp
  unfold F
  rw [hg, Int.fdiv_one, Int.fdiv_one]
/-- r times m is an integer, at most X -/
def Iz (m X : Nat) (r : Rat) : Prop := ∃ N : Int, r * (m : Rat) = (N : Rat) ∧ N.natAbs ≤ X
section
variable {m n X Y c : Nat} {a b r : Rat}
theorem Iz.le (h : Iz m X r) (k : X ≤ Y) : Iz m Y r := by
  obtain ⟨N, e, l⟩ := h
  exact ⟨N, e, Nat.le_trans l k⟩
theorem Iz.mul (h : Iz m X a) (k : Iz n Y b) : Iz (m * n) (X * Y) (a * b) := by
  obtain ⟨N, e, l⟩ := h
  obtain ⟨M, f, g⟩ := k
  refine ⟨N * M, ?_, by rw [Int.natAbs_mul]; exact Nat.mul_le_mul l g⟩
  rw [Rat.natCast_mul, Rat.intCast_mul, ← e, ← f]
  grind
theorem Iz.add (h : Iz m X a) (k : Iz m Y b) : Iz m (X + Y) (a + b) := by
  obtain ⟨N, e, l⟩ := h
  obtain ⟨M, f, g⟩ := k
  refine ⟨N + M, ?_, Nat.le_trans (Int.natAbs_add_le N M) (Nat.add_le_add l g)⟩
  rw [Rat.intCast_add, ← e, ← f]
  grind
theorem Iz.sub (h : Iz m X a) (k : Iz m Y b) : Iz m (X + Y) (a - b) := by
  obtain ⟨N, e, l⟩ := h
  obtain ⟨M, f, g⟩ := k
  refine ⟨N - M, ?_, by omega⟩
  rw [Rat.intCast_sub, ← e, ← f]
  grind
theorem Iz.up (h : Iz m X r) (c : Nat) : Iz (m * c) (X * c) r := by
  obtain ⟨N, e, l⟩ := h
  refine ⟨N * c, ?_, by rw [Int.natAbs_mul, Int.natAbs_natCast]; exact Nat.mul_le_mul_right c l⟩
  rw [Rat.natCast_mul, Rat.intCast_mul, ← e, Rat.intCast_natCast]
  grind
theorem Iz.zero : Iz m 0 0 := ⟨0, by show (0 : Rat) * _ = 0; grind, Nat.le_refl _⟩
theorem Iz.inv (k : Nat) : Iz (k + 1) 1 (1 / ((k + 1 : Nat) : Rat)) := ⟨1, by
  have := natc_ne k
  show 1 / ((k + 1 : Nat) : Rat) * ((k + 1 : Nat) : Rat) = 1
  generalize ((k + 1 : Nat) : Rat) = N at *
  grind, Nat.le_refl _⟩
theorem Iz.nat (k : Nat) : Iz 1 k (k : Rat) := ⟨k, by
  show (k : Rat) * 1 = ((k : Int) : Rat)
  rw [Rat.intCast_natCast]
  grind, by omega⟩
theorem Iz.sizes (h : Iz m X r) (hm : m ≠ 0) : (fq r).1.natAbs ≤ X ∧ (fq r).2.natAbs ≤ m := by
  obtain ⟨N, e, l⟩ := h
  have hm' : (m : Int) ≠ 0 := by omega
  have h2 : r = Rat.divInt N (m : Int) := by
    have h3 : ((m : Nat) : Rat) ≠ 0 := fun z => hm (Rat.natCast_inj.mp (z : (m : Rat) = ((0 : Nat) : Rat)))
    rw [Rat.divInt_eq_div, ← e, Rat.intCast_natCast]
    grind
  rw [h2, ← F_fq N hm']
  refine ⟨Nat.le_trans (F_le1 N hm') l, ?_⟩
  have := F_le2 N hm'
  omega
theorem ps_iz {f g : Nat → Rat} {n : Nat} : ∀ j, (∀ k < j, Iz m X (f k * g (n - k))) → Iz m (j * X) (ps f g n j)
  | 0, _ => by
    rw [Nat.zero_mul]
    exact Iz.zero
  | j + 1, h => by
    rw [Nat.succ_mul]
    exact (ps_iz j fun k hk => h k (by omega)).add (h j (by omega))
end
def fact : Nat → Nat
  | 0 => 1
  | n + 1 => fact n * (n + 1)
theorem fact_pos : ∀ n, 0 < fact n
  | 0 => by decide
  | n + 1 => Nat.mul_pos (fact_pos n) (Nat.succ_pos n)
theorem fact_desc : ∀ k n, k ≤ n → n ≤ 12 → ∃ q, fact n = fact (n - k) * q ∧ q ≤ 12 ^ k
  | 0, n, _, _ => ⟨1, by rw [Nat.sub_zero, Nat.mul_one], Nat.le_refl _⟩
  | k + 1, n, h, h12 => by
    obtain ⟨q, e, l⟩ := fact_desc k n (by omega) h12
    refine ⟨(n - k) * q, ?_, ?_⟩
    · have e2 : n - k = (n - (k + 1)) + 1 := by omega
      have e3 : fact (n - k) = fact (n - (k + 1)) * (n - k) := by
        conv => lhs; rw [e2, fact]
        rw [← e2]
      rw [e, e3, Nat.mul_assoc]
    · rw [Nat.pow_succ, Nat.mul_comm (12 ^ k)]
      exact Nat.mul_le_mul (by omega) l
theorem fact_dvd : ∀ k n, fact n ∣ fact (n + k)
  | 0, n => Nat.dvd_refl _
  | k + 1, n => Nat.dvd_trans (fact_dvd k n) (by rw [← Nat.add_assoc, fact]; exact Nat.dvd_mul_right _ _)
def M1 : Nat := 12 ^ 13 * fact 12
/-- small enough to be multiplied and added up -/
def Sm (r : Rat) : Prop := (fq r).1.natAbs < 2 ^ 1900 ∧ (fq r).2.natAbs < 2 ^ 1900
def Gd (r : Rat) : Prop := Iz M1 (2 ^ 300) r
theorem M1_lt : M1 < 2 ^ 80 := by decide +kernel
theorem M1_ne : M1 ≠ 0 := by decide +kernel
theorem sm_of {m X : Nat} {r : Rat} (h : Iz m X r) (hm : m ≠ 0) (h1 : m < 2 ^ 1900) (h2 : X < 2 ^ 1900) : Sm r := by
  obtain ⟨a, b⟩ := h.sizes hm
  exact ⟨Nat.lt_of_le_of_lt a h2, Nat.lt_of_le_of_lt b h1⟩
theorem two_le {a b : Nat} (h : a ≤ b) : 2 ^ a ≤ 2 ^ b := Nat.pow_le_pow_right (by decide) h
theorem Gd.sm {r : Rat} (h : Gd r) : Sm r := sm_of h M1_ne (Nat.lt_of_lt_of_le M1_lt (two_le (by decide))) (Nat.pow_lt_pow_right (by decide) (by decide))
theorem gd_of {m X : Nat} {r : Rat} (h : Iz m X r) (hm : m ∣ M1) (hX : X ≤ 2 ^ 200) : Gd r := by
  obtain ⟨c, hc⟩ := hm
  have h1 := h.up c
  rw [← hc] at h1
  refine h1.le ?_
  have hc1 : c ≤ M1 := by
    have h0 : m ≠ 0 := fun z => M1_ne (by rw [hc, z, Nat.zero_mul])
    rw [hc]
    exact Nat.le_mul_of_pos_left c (by omega)
  have h2 : X * c ≤ 2 ^ 200 * 2 ^ 80 := Nat.mul_le_mul hX (Nat.le_of_lt (Nat.lt_of_le_of_lt hc1 M1_lt))
  rw [← Nat.pow_add] at h2
  exact Nat.le_trans h2 (two_le (by decide))
theorem MM_ne : M1 * M1 ≠ 0 := Nat.mul_ne_zero M1_ne M1_ne
theorem MM_lt : M1 * M1 < 2 ^ 1900 := by
  have := Nat.mul_lt_mul'' M1_lt M1_lt
  rw [← Nat.pow_add] at this
  exact Nat.lt_of_lt_of_le this (two_le (by decide))
theorem Gd.mul {a b : Rat} (h : Gd a) (k : Gd b) : Iz (M1 * M1) (2 ^ 600) (a * b) := by
  have := Iz.mul h k
  rw [← Nat.pow_add] at this
  exact this
theorem Gd.mul_sm {a b : Rat} (h : Gd a) (k : Gd b) : Sm (a * b) := sm_of (h.mul k) MM_ne MM_lt (Nat.pow_lt_pow_right (by decide) (by decide))
/-- sums of at most a thousand products -/
theorem ps_sm {a b : Nat → Rat} {n j : Nat} (hj : j ≤ 1000) (h : ∀ k < j, Gd (a k) ∧ Gd (b (n - k))) : Sm (ps a b n j) := by
  refine sm_of (ps_iz (m := M1 * M1) (X := 2 ^ 600) j fun k hk => (h k hk).1.mul (h k hk).2) MM_ne MM_lt ?_
  have : j * 2 ^ 600 ≤ 2 ^ 10 * 2 ^ 600 := Nat.mul_le_mul_right _ (Nat.le_trans hj (by decide))
  rw [← Nat.pow_add] at this
  exact Nat.lt_of_le_of_lt this (Nat.pow_lt_pow_right (by decide) (by decide))
theorem pf_dvd {n : Nat} (h : n ≤ 12) : 12 ^ n * fact n ∣ M1 := Nat.mul_dvd_mul (Nat.pow_dvd_pow 12 (by omega)) (by
  have := fact_dvd (12 - n) n
  rw [show n + (12 - n) = 12 by omega] at this
  exact this)
section
variable {f g s e : Nat → Rat} {N : Nat}
theorem dv_iz (hf : ∀ k ≤ N, Iz 12 36 (f k)) {k : Nat} (hk : k < N) (hN : N ≤ 12) : Iz 12 432 (dv f k) := by
  have h := (Iz.nat (k + 1)).mul (hf (k + 1) (by omega))
  rw [Nat.one_mul] at h
  exact h.le (by omega)
/-- the entries of the exponential -/
theorem exp_iz (hf : ∀ k ≤ N, Iz 12 36 (f k)) (hN : N ≤ 12) (h : Goes (dv f) e N) : ∀ n ≤ N, Iz (12 ^ n * fact n) (2 ^ (13 * n)) (e n) := by
  intro n
  induction n using Nat.strongRecOn with
  | _ n ih =>
    intro hn
    cases n with
    | zero =>
      rw [h.1]
      exact ⟨1, by show (1 : Rat) * ((1 : Nat) : Rat) = 1; have : ((1 : Nat) : Rat) = 1 := rfl; rw [this]; grind, Nat.le_refl _⟩
    | succ n =>
      have h1 := h.2 n (by omega)
      have h2 : Iz (12 ^ (n + 1) * fact n) ((n + 1) * (432 * 2 ^ (13 * n))) (cv (dv f) e n) := ps_iz (n + 1) fun k hk => by
        obtain ⟨q, hq, lq⟩ := fact_desc k n (by omega) (by omega)
        have a := (dv_iz hf (show k < N by omega) hN).mul (ih (n - k) (by omega) (by omega))
        have b := a.up (12 ^ k * q)
        have em : 12 * (12 ^ (n - k) * fact (n - k)) * (12 ^ k * q) = 12 ^ (n + 1) * fact n := by
          rw [hq, Nat.pow_succ]
          have : 12 ^ n = 12 ^ (n - k) * 12 ^ k := by rw [← Nat.pow_add]; congr 1; omega
          rw [this]
          ac_rfl
        rw [em] at b
        refine b.le ?_
        have l1 : 12 ^ k * q ≤ 2 ^ (13 * k) := by
          refine Nat.le_trans (Nat.mul_le_mul_left _ lq) ?_
          rw [← Nat.mul_pow, Nat.pow_mul]
          exact Nat.pow_le_pow_left (by decide) k
        rw [Nat.mul_assoc]
        refine Nat.mul_le_mul_left _ ?_
        refine Nat.le_trans (Nat.mul_le_mul_left _ l1) ?_
        rw [← Nat.pow_add]
        exact two_le (by omega)
      have h3 := h2.mul (Iz.inv n)
      have e3 : cv (dv f) e n * (1 / ((n + 1 : Nat) : Rat)) = e (n + 1) := by
        have := natc_ne n
        rw [← h1]
        generalize ((n + 1 : Nat) : Rat) = X at *
        grind
      rw [e3, Nat.mul_one, Nat.mul_assoc] at h3
      refine h3.le ?_
      rw [show 13 * (n + 1) = 13 + 13 * n by omega, Nat.pow_add, ← Nat.mul_assoc]
      exact Nat.mul_le_mul_right _ (Nat.le_trans (Nat.mul_le_mul_right 432 (show n + 1 ≤ 12 by omega)) (by decide))
theorem exp_gd (hf : ∀ k ≤ N, Iz 12 36 (f k)) (hN : N ≤ 12) (h : Goes (dv f) e N) {n : Nat} (hn : n ≤ N) : Gd (e n) := gd_of (exp_iz hf hN h n hn) (pf_dvd (by omega)) (two_le (by omega))
theorem tm_iz (hf : ∀ k ≤ N, Iz 12 36 (f k)) (hN : N ≤ 12) : ∀ k n, n ≤ N → Iz (12 ^ k * fact k) (468 ^ k) (tm f k n)
  | 0, n, _ => by
    show Iz 1 1 (if n = 0 then (1 : Rat) else 0)
    split
    · exact (Iz.nat 1)
    · exact Iz.zero.le (Nat.zero_le _)
  | k + 1, n, hn => by
    have h2 : Iz (12 ^ k * fact k * 12) ((n + 1) * (468 ^ k * 36)) (cv (tm f k) f n) := ps_iz (n + 1) fun j hj => (tm_iz hf hN k j (by omega)).mul (hf (n - j) (by omega))
    have h3 := h2.mul (Iz.inv k)
    have em : 12 ^ k * fact k * 12 * (k + 1) = 12 ^ (k + 1) * fact (k + 1) := by
      rw [fact, Nat.pow_succ]
      ac_rfl
    rw [em, Nat.mul_one] at h3
    refine h3.le ?_
    rw [Nat.pow_succ, show (468 : Nat) = 13 * 36 from rfl, ← Nat.mul_assoc, Nat.mul_comm (n + 1), Nat.mul_assoc]
    exact Nat.mul_le_mul_left _ (Nat.mul_le_mul_right _ (by omega))
theorem tm_gd (hf : ∀ k ≤ N, Iz 12 36 (f k)) (hN : N ≤ 12) {k n : Nat} (hk : k ≤ 12) (hn : n ≤ N) : Gd (tm f k n) := gd_of (tm_iz hf hN k n hn) (pf_dvd hk) (by
  refine Nat.le_trans (Nat.pow_le_pow_right (by decide) hk) ?_
  decide +kernel)
theorem slope_iz (he : ∀ k ≤ N, Iz 12 36 (e k)) (hN : N ≤ 12) (h : Goes s e N) : ∀ n < N, Iz (12 ^ (n + 1)) (1024 ^ (n + 1)) (s n) := by
  intro n
  induction n using Nat.strongRecOn with
  | _ n ih =>
    intro hn
    have h1 := h.2 n hn
    have h2 : s n = ((n + 1 : Nat) : Rat) * e (n + 1) - ps s e n n := by
      have k2 : ((n + 1 : Nat) : Rat) * e (n + 1) = ps s e n n + s n * e (n - n) := h1
      rw [Nat.sub_self, h.1] at k2
      rw [k2]
      grind
    rw [h2]
    have a1 := (dv_iz he hn hN).up (12 ^ n)
    have a2 : Iz (12 ^ (n + 1)) (n * (36 * 1024 ^ n)) (ps s e n n) := ps_iz n fun k hk => by
      have b := ((ih k hk (by omega)).mul (he (n - k) (by omega))).up (12 ^ (n - 1 - k))
      have em : 12 ^ (k + 1) * 12 * 12 ^ (n - 1 - k) = 12 ^ (n + 1) := by
        rw [← Nat.pow_succ, ← Nat.pow_add]
        congr 1
        omega
      rw [em] at b
      refine b.le ?_
      have l1 : 12 ^ (n - 1 - k) ≤ 1024 ^ (n - 1 - k) := Nat.pow_le_pow_left (by decide) _
      have l2 : 1024 ^ (k + 1) * 36 * 12 ^ (n - 1 - k) ≤ 1024 ^ (k + 1) * 36 * 1024 ^ (n - 1 - k) := Nat.mul_le_mul_left _ l1
      refine Nat.le_trans l2 (Nat.le_of_eq ?_)
      have e2 : (1024 : Nat) ^ n = 1024 ^ (k + 1) * 1024 ^ (n - 1 - k) := by
        rw [← Nat.pow_add]
        congr 1
        omega
      rw [e2]
      ac_rfl
    rw [show 12 * 12 ^ n = 12 ^ (n + 1) by rw [Nat.pow_succ, Nat.mul_comm]] at a1
    refine (a1.sub a2).le ?_
    have l1 : (12 : Nat) ^ n ≤ 1024 ^ n := Nat.pow_le_pow_left (by decide) n
    have l2 : n * (36 * 1024 ^ n) ≤ 12 * (36 * 1024 ^ n) := Nat.mul_le_mul_right _ (by omega)
    rw [Nat.pow_succ]
    omega
theorem slope_gd (he : ∀ k ≤ N, Iz 12 36 (e k)) (hN : N ≤ 12) (h : Goes s e N) {n : Nat} (hn : n < N) : Gd (s n) := gd_of (slope_iz he hN h n hn) (Nat.dvd_trans (Nat.pow_dvd_pow 12 (show n + 1 ≤ 13 by omega)) (Nat.dvd_mul_right _ _)) (by
  rw [show (1024 : Nat) = 2 ^ 10 from rfl, ← Nat.pow_mul]
  exact two_le (by omega))
end
end SM
namespace SM
theorem goes_congr {g h e d : Nat → Rat} {N : Nat} (G : Goes g e N) (k1 : ∀ k < N, h k = g k) (k2 : ∀ k ≤ N, d k = e k) : Goes h d N := by
  refine ⟨by rw [k2 0 (Nat.zero_le _)]; exact G.1, fun n hn => ?_⟩
  have e1 : cv h d n = cv g e n := cv_congr (fun k hk => k1 k (by omega)) (fun k hk => k2 k (by omega))
  rw [e1, k2 (n + 1) hn]
  exact G.2 n hn
theorem slopes_ex {e : Nat → Rat} (h0 : e 0 = 1) : ∀ N, ∃ s, Goes s e N
  | 0 => ⟨fun _ => 0, h0, fun n hn => by omega⟩
  | N + 1 => by
    obtain ⟨s, _, hs⟩ := slopes_ex h0 N
    refine ⟨fun k => if k = N then ((N + 1 : Nat) : Rat) * e (N + 1) - ps s e N N else s k, h0, fun n hn => ?_⟩
    by_cases hN : n = N
    · subst hN
      have e1 : ps (fun k => if k = n then ((n + 1 : Nat) : Rat) * e (n + 1) - ps s e n n else s k) e n n = ps s e n n := ps_congr _ (fun k hk => if_neg (by omega)) fun _ _ => rfl
      show _ = ps _ e n n + (if n = n then ((n + 1 : Nat) : Rat) * e (n + 1) - ps s e n n else s n) * e (n - n)
      rw [e1, if_pos rfl, Nat.sub_self, h0]
      grind
    · rw [hs n (by omega)]
      exact cv_congr (fun k hk => (if_neg (by omega)).symm) fun _ _ => rfl
theorem nat_sm {r : Rat} (h : Gd r) {k : Nat} (hk : k ≤ 1000) : Sm ((k : Rat) * r) := by
  have h1 := (Iz.nat k).mul h
  rw [Nat.one_mul] at h1
  refine sm_of h1 M1_ne (Nat.lt_of_lt_of_le M1_lt (two_le (by decide))) ?_
  have : k * 2 ^ 300 ≤ 2 ^ 10 * 2 ^ 300 := Nat.mul_le_mul_right _ (Nat.le_trans hk (by decide))
  rw [← Nat.pow_add] at this
  exact Nat.lt_of_le_of_lt this (Nat.pow_lt_pow_right (by decide) (by decide))
theorem div_sm {r : Rat} (h : Gd r) {k : Nat} (hk : k ≤ 1000) : Sm (r / ((k + 1 : Nat) : Rat)) := by
  have h1 := Iz.mul h (Iz.inv k)
  have e : r * (1 / ((k + 1 : Nat) : Rat)) = r / ((k + 1 : Nat) : Rat) := by
    have := natc_ne k
    generalize ((k + 1 : Nat) : Rat) = X at *
    grind
  rw [e, Nat.mul_one] at h1
  refine sm_of h1 (Nat.mul_ne_zero M1_ne (by omega)) ?_ (Nat.pow_lt_pow_right (by decide) (by decide))
  have : M1 * (k + 1) ≤ 2 ^ 80 * 2 ^ 10 := Nat.mul_le_mul (Nat.le_of_lt M1_lt) (by omega)
  rw [← Nat.pow_add] at this
  exact Nat.lt_of_le_of_lt this (Nat.pow_lt_pow_right (by decide) (by decide))
theorem gd12 {r : Rat} (h : Iz 12 36 r) : Gd r := gd_of h (Nat.dvd_trans (by decide : 12 ∣ 12 ^ 13) (Nat.dvd_mul_right _ _)) (Nat.le_trans (by decide : 36 ≤ 2 ^ 10) (two_le (by decide)))
theorem tot_sm {f : Nat → Rat} {N n : Nat} (hf : ∀ k ≤ N, Iz 12 36 (f k)) (hN : N ≤ 12) (hn : n ≤ N) : ∀ k, k ≤ 12 → Sm (tot f k n) := fun k hk => by
  have h : ∀ k, k ≤ 12 → Iz M1 ((k + 1) * 2 ^ 300) (tot f k n) := fun k => by
    induction k with
    | zero =>
      intro _
      rw [Nat.one_mul]
      exact tm_gd hf hN (Nat.zero_le _) hn
    | succ k ih =>
      intro hk
      have := (ih (by omega)).add (tm_gd hf hN hk hn)
      rw [Nat.succ_mul]
      exact this
  refine sm_of (h k hk) M1_ne (Nat.lt_of_lt_of_le M1_lt (two_le (by decide))) ?_
  have : (k + 1) * 2 ^ 300 ≤ 2 ^ 10 * 2 ^ 300 := Nat.mul_le_mul_right _ (by omega)
  rw [← Nat.pow_add] at this
  exact Nat.lt_of_le_of_lt this (Nat.pow_lt_pow_right (by decide) (by decide))
end SM
namespace KP
open PySem PySem.Spec PyProof.Rows L2 EXT SDT GXP AUG
open SM (fq Iz Sm)
open PM (Trm Ex canon mulT look put gather keys addTo pw one addE Canon)
def veB : List Value := [.type "ValueError", .type "Exception", .type "BaseException", .type "object"]
def topS (i : Nat) : Stmt := PySem.Challenge.pw_spinfield_k50_whole_joint_sums.main.body.getD i (.Pass ⟨0, 0, 0, 0⟩)
abbrev s_fraction : Stmt := topS 7
abbrev n_fraction : List Str := ["numerator", "denominator", "divisor"]
theorem sc_fraction : FnScope n_fraction ["numerator", "denominator"] (defScope s_fraction) := ⟨rfl, rfl, rfl, by decide +kernel, rfl, by decide +kernel, by decide +kernel⟩
abbrev s_add : Stmt := topS 8
abbrev n_add : List Str := ["a", "b"]
theorem sc_add : FnScope n_add ["a", "b"] (defScope s_add) := ⟨rfl, rfl, rfl, by decide +kernel, rfl, by decide +kernel, by decide +kernel⟩
abbrev s_subtract : Stmt := topS 9
abbrev n_subtract : List Str := ["a", "b"]
theorem sc_subtract : FnScope n_subtract ["a", "b"] (defScope s_subtract) := ⟨rfl, rfl, rfl, by decide +kernel, rfl, by decide +kernel, by decide +kernel⟩
abbrev s_multiply : Stmt := topS 10
abbrev n_multiply : List Str := ["a", "b"]
theorem sc_multiply : FnScope n_multiply ["a", "b"] (defScope s_multiply) := ⟨rfl, rfl, rfl, by decide +kernel, rfl, by decide +kernel, by decide +kernel⟩
abbrev s_divide : Stmt := topS 11
abbrev n_divide : List Str := ["a", "b"]
theorem sc_divide : FnScope n_divide ["a", "b"] (defScope s_divide) := ⟨rfl, rfl, rfl, by decide +kernel, rfl, by decide +kernel, by decide +kernel⟩
abbrev s_compare : Stmt := topS 12
abbrev n_compare : List Str := ["a", "b", "left", "right"]
theorem sc_compare : FnScope n_compare ["a", "b"] (defScope s_compare) := ⟨rfl, rfl, rfl, by decide +kernel, rfl, by decide +kernel, by decide +kernel⟩
abbrev s_raised : Stmt := topS 13
abbrev n_raised : List Str := ["a", "exponent"]
theorem sc_raised : FnScope n_raised ["a", "exponent"] (defScope s_raised) := ⟨rfl, rfl, rfl, by decide +kernel, rfl, by decide +kernel, by decide +kernel⟩
abbrev s_repeated : Stmt := topS 14
abbrev n_repeated : List Str := ["base", "exponent", "one", "combine", "result", "square", "left"]
theorem sc_repeated : FnScope n_repeated ["base", "exponent", "one", "combine"] (defScope s_repeated) := ⟨rfl, rfl, rfl, by decide +kernel, rfl, by decide +kernel, by decide +kernel⟩
abbrev s_polynomial : Stmt := topS 16
abbrev n_polynomial : List Str := ["terms", "found", "a", "b", "c"]
theorem sc_polynomial : FnScope n_polynomial ["terms"] (defScope s_polynomial) := ⟨rfl, rfl, rfl, by decide +kernel, rfl, by decide +kernel, by decide +kernel⟩
abbrev s_in_order : Stmt := topS 17
abbrev n_in_order : List Str := ["found", "pair"]
theorem sc_in_order : FnScope n_in_order ["found"] (defScope s_in_order) := ⟨rfl, rfl, rfl, by decide +kernel, rfl, by decide +kernel, by decide +kernel⟩
abbrev s_value : Stmt := topS 18
abbrev n_value : List Str := ["p", "x", "y", "total", "found", "b"]
theorem sc_value : FnScope n_value ["p", "x", "y"] (defScope s_value) := ⟨rfl, rfl, rfl, by decide +kernel, rfl, by decide +kernel, by decide +kernel⟩
abbrev s_coefficients_at : Stmt := topS 19
abbrev n_coefficients_at : List Str := ["p", "x", "powers", "found", "a", "b", "c"]
theorem sc_coefficients_at : FnScope n_coefficients_at ["p", "x"] (defScope s_coefficients_at) := ⟨rfl, rfl, rfl, by decide +kernel, rfl, by decide +kernel, by decide +kernel⟩
abbrev s_Spins_init : Stmt := inClass (topS 24) 0
abbrev n_Spins_init : List Str := ["self", "fields", "edges", "edge"]
theorem sc_Spins_init : FnScope n_Spins_init ["self", "fields", "edges"] (defScope s_Spins_init) := ⟨rfl, rfl, rfl, by decide +kernel, rfl, by decide +kernel, by decide +kernel⟩
abbrev s_check_fields : Stmt := topS 25
abbrev n_check_fields : List Str := ["fields", "field"]
theorem sc_check_fields : FnScope n_check_fields ["fields"] (defScope s_check_fields) := ⟨rfl, rfl, rfl, by decide +kernel, rfl, by decide +kernel, by decide +kernel⟩
abbrev s_check_edges : Stmt := topS 26
abbrev n_check_edges : List Str := ["edges", "count", "u", "v", "j", "before", "behind"]
theorem sc_check_edges : FnScope n_check_edges ["edges", "count"] (defScope s_check_edges) := ⟨rfl, rfl, rfl, by decide +kernel, rfl, by decide +kernel, by decide +kernel⟩
abbrev s_all_states : Stmt := topS 27
abbrev n_all_states : List Str := ["spins", "states", "_", "state", "spin"]
theorem sc_all_states : FnScope n_all_states ["spins"] (defScope s_all_states) := ⟨rfl, rfl, rfl, by decide +kernel, rfl, by decide +kernel, by decide +kernel⟩
abbrev s_cost : Stmt := topS 28
abbrev n_cost : List Str := ["spins", "state", "paid", "u", "v", "j", "field", "spin"]
theorem sc_cost : FnScope n_cost ["spins", "state"] (defScope s_cost) := ⟨rfl, rfl, rfl, by decide +kernel, rfl, by decide +kernel, by decide +kernel⟩
abbrev s_ups : Stmt := topS 29
abbrev n_ups : List Str := ["state"]
theorem sc_ups : FnScope n_ups ["state"] (defScope s_ups) := ⟨rfl, rfl, rfl, by decide +kernel, rfl, by decide +kernel, by decide +kernel⟩
abbrev s_sum_by_states : Stmt := topS 30
abbrev n_sum_by_states : List Str := ["spins", "state"]
theorem sc_sum_by_states : FnScope n_sum_by_states ["spins"] (defScope s_sum_by_states) := ⟨rfl, rfl, rfl, by decide +kernel, rfl, by decide +kernel, by decide +kernel⟩
abbrev s_check_above_zero : Stmt := topS 32
abbrev n_check_above_zero : List Str := ["x", "y"]
theorem sc_check_above_zero : FnScope n_check_above_zero ["x", "y"] (defScope s_check_above_zero) := ⟨rfl, rfl, rfl, by decide +kernel, rfl, by decide +kernel, by decide +kernel⟩
abbrev s_check_small : Stmt := topS 35
abbrev n_check_small : List Str := ["spins", "x", "y"]
theorem sc_check_small : FnScope n_check_small ["spins", "x", "y"] (defScope s_check_small) := ⟨rfl, rfl, rfl, by decide +kernel, rfl, by decide +kernel, by decide +kernel⟩
abbrev s_joint_sums : Stmt := topS 38
abbrev n_joint_sums : List Str := ["spins", "x", "y", "by_states", "by_sets", "state", "weights", "total", "weight"]
theorem sc_joint_sums : FnScope n_joint_sums ["spins", "x", "y"] (defScope s_joint_sums) := ⟨rfl, rfl, rfl, by decide +kernel, rfl, by decide +kernel, by decide +kernel⟩
abbrev s_joint_weights : Stmt := topS 39
abbrev n_joint_weights : List Str := ["spins", "state", "x", "y", "paid", "field", "spin", "weights", "u", "v", "j", "left", "taken", "weight"]
theorem sc_joint_weights : FnScope n_joint_weights ["spins", "state", "x", "y"] (defScope s_joint_weights) := ⟨rfl, rfl, rfl, by decide +kernel, rfl, by decide +kernel, by decide +kernel⟩
abbrev s_sum_of : Stmt := topS 40
abbrev n_sum_of : List Str := ["numbers", "total", "number"]
theorem sc_sum_of : FnScope n_sum_of ["numbers"] (defScope s_sum_of) := ⟨rfl, rfl, rfl, by decide +kernel, rfl, by decide +kernel, by decide +kernel⟩
abbrev s_law_cell : Stmt := topS 42
abbrev n_law_cell : List Str := ["script", "k"]
theorem sc_law_cell : FnScope n_law_cell ["script", "k"] (defScope s_law_cell) := ⟨rfl, rfl, rfl, by decide +kernel, rfl, by decide +kernel, by decide +kernel⟩
abbrev s_law_mix : Stmt := topS 43
abbrev n_law_mix : List Str := ["cell", "k", "number"]
theorem sc_law_mix : FnScope n_law_mix ["cell", "k"] (defScope s_law_mix) := ⟨rfl, rfl, rfl, by decide +kernel, rfl, by decide +kernel, by decide +kernel⟩
abbrev s_law_row : Stmt := topS 44
abbrev n_law_row : List Str := ["cell", "count", "bound", "found", "rest", "k"]
theorem sc_law_row : FnScope n_law_row ["cell", "count", "bound"] (defScope s_law_row) := ⟨rfl, rfl, rfl, by decide +kernel, rfl, by decide +kernel, by decide +kernel⟩
abbrev s_law_tuples : Stmt := topS 45
abbrev n_law_tuples : List Str := ["thing", "part"]
theorem sc_law_tuples : FnScope n_law_tuples ["thing"] (defScope s_law_tuples) := ⟨rfl, rfl, rfl, by decide +kernel, rfl, by decide +kernel, by decide +kernel⟩
abbrev s_law_gcd : Stmt := topS 46
abbrev n_law_gcd : List Str := ["a", "b"]
theorem sc_law_gcd : FnScope n_law_gcd ["a", "b"] (defScope s_law_gcd) := ⟨rfl, rfl, rfl, by decide +kernel, rfl, by decide +kernel, by decide +kernel⟩
abbrev s_law_frac : Stmt := topS 47
abbrev n_law_frac : List Str := ["a", "b", "common"]
theorem sc_law_frac : FnScope n_law_frac ["a", "b"] (defScope s_law_frac) := ⟨rfl, rfl, rfl, by decide +kernel, rfl, by decide +kernel, by decide +kernel⟩
abbrev s_law_add : Stmt := topS 48
abbrev n_law_add : List Str := ["p", "q"]
theorem sc_law_add : FnScope n_law_add ["p", "q"] (defScope s_law_add) := ⟨rfl, rfl, rfl, by decide +kernel, rfl, by decide +kernel, by decide +kernel⟩
abbrev s_law_mul : Stmt := topS 49
abbrev n_law_mul : List Str := ["p", "q"]
theorem sc_law_mul : FnScope n_law_mul ["p", "q"] (defScope s_law_mul) := ⟨rfl, rfl, rfl, by decide +kernel, rfl, by decide +kernel, by decide +kernel⟩
abbrev s_law_pow : Stmt := topS 51
abbrev n_law_pow : List Str := ["p", "n", "result", "k"]
theorem sc_law_pow : FnScope n_law_pow ["p", "n"] (defScope s_law_pow) := ⟨rfl, rfl, rfl, by decide +kernel, rfl, by decide +kernel, by decide +kernel⟩
abbrev s_law_spins : Stmt := topS 55
abbrev n_law_spins : List Str := ["script", "first", "most", "kind", "count", "fields", "digit", "pairs", "u", "v", "edges", "digits", "k", "coupling"]
theorem sc_law_spins : FnScope n_law_spins ["script", "first", "most", "kind"] (defScope s_law_spins) := ⟨rfl, rfl, rfl, by decide +kernel, rfl, by decide +kernel, by decide +kernel⟩
abbrev s_law_states : Stmt := topS 56
abbrev n_law_states : List Str := ["count", "found", "k", "later", "state"]
theorem sc_law_states : FnScope n_law_states ["count"] (defScope s_law_states) := ⟨rfl, rfl, rfl, by decide +kernel, rfl, by decide +kernel, by decide +kernel⟩
abbrev s_law_cost : Stmt := topS 57
abbrev n_law_cost : List Str := ["fields", "edges", "state", "total", "k", "u", "v", "coupling"]
theorem sc_law_cost : FnScope n_law_cost ["fields", "edges", "state"] (defScope s_law_cost) := ⟨rfl, rfl, rfl, by decide +kernel, rfl, by decide +kernel, by decide +kernel⟩
abbrev s_law_weights : Stmt := topS 59
abbrev n_law_weights : List Str := ["fields", "edges", "x", "y", "found", "state"]
theorem sc_law_weights : FnScope n_law_weights ["fields", "edges", "x", "y"] (defScope s_law_weights) := ⟨rfl, rfl, rfl, by decide +kernel, rfl, by decide +kernel, by decide +kernel⟩
abbrev s_law_fractions : Stmt := topS 61
abbrev n_law_fractions : List Str := ["cell", "unit", "bottom", "x"]
theorem sc_law_fractions : FnScope n_law_fractions ["cell", "unit"] (defScope s_law_fractions) := ⟨rfl, rfl, rfl, by decide +kernel, rfl, by decide +kernel, by decide +kernel⟩
abbrev s_law_parts : Stmt := topS 62
abbrev n_law_parts : List Str := ["count", "pairs", "parts", "u", "v", "old", "part"]
theorem sc_law_parts : FnScope n_law_parts ["count", "pairs"] (defScope s_law_parts) := ⟨rfl, rfl, rfl, by decide +kernel, rfl, by decide +kernel, by decide +kernel⟩
abbrev s_law_bits : Stmt := topS 63
abbrev n_law_bits : List Str := ["mask", "count", "k"]
theorem sc_law_bits : FnScope n_law_bits ["mask", "count"] (defScope s_law_bits) := ⟨rfl, rfl, rfl, by decide +kernel, rfl, by decide +kernel, by decide +kernel⟩
abbrev s_law_set_weight : Stmt := topS 64
abbrev n_law_set_weight : List Str := ["fields", "edges", "chosen", "x", "y", "weight", "k", "left", "parts", "part", "own", "up"]
theorem sc_law_set_weight : FnScope n_law_set_weight ["fields", "edges", "chosen", "x", "y"] (defScope s_law_set_weight) := ⟨rfl, rfl, rfl, by decide +kernel, rfl, by decide +kernel, by decide +kernel⟩
abbrev s_law : Stmt := topS 65
abbrev n_law : List Str := ["script", "cell", "fields", "edges", "x", "y", "many", "pairs", "u", "v", "spins", "told", "e", "totals", "side", "entry", "mask"]
theorem sc_law : FnScope n_law ["script"] (defScope s_law) := ⟨rfl, rfl, rfl, by decide +kernel, rfl, by decide +kernel, by decide +kernel⟩
structure Top (K : PySem.W.Frag) (mg : Str → Option Value) : Type where
  f_fraction : Addr
  d_fraction : FuncData
  F_fraction : Fun K "fraction" "fraction" s_fraction f_fraction d_fraction
  b_fraction : Binds K d_fraction ["numerator", "denominator"] []
  g_fraction : mg "fraction" = some (.ref f_fraction)
  f_add : Addr
  d_add : FuncData
  F_add : Fun K "add" "add" s_add f_add d_add
  b_add : Binds K d_add ["a", "b"] []
  g_add : mg "add" = some (.ref f_add)
  f_subtract : Addr
  d_subtract : FuncData
  F_subtract : Fun K "subtract" "subtract" s_subtract f_subtract d_subtract
  b_subtract : Binds K d_subtract ["a", "b"] []
  g_subtract : mg "subtract" = some (.ref f_subtract)
  f_multiply : Addr
  d_multiply : FuncData
  F_multiply : Fun K "multiply" "multiply" s_multiply f_multiply d_multiply
  b_multiply : Binds K d_multiply ["a", "b"] []
  g_multiply : mg "multiply" = some (.ref f_multiply)
  f_divide : Addr
  d_divide : FuncData
  F_divide : Fun K "divide" "divide" s_divide f_divide d_divide
  b_divide : Binds K d_divide ["a", "b"] []
  g_divide : mg "divide" = some (.ref f_divide)
  f_compare : Addr
  d_compare : FuncData
  F_compare : Fun K "compare" "compare" s_compare f_compare d_compare
  b_compare : Binds K d_compare ["a", "b"] []
  g_compare : mg "compare" = some (.ref f_compare)
  f_raised : Addr
  d_raised : FuncData
  F_raised : Fun K "raised" "raised" s_raised f_raised d_raised
  b_raised : Binds K d_raised ["a", "exponent"] []
  g_raised : mg "raised" = some (.ref f_raised)
  f_repeated : Addr
  d_repeated : FuncData
  F_repeated : Fun K "repeated" "repeated" s_repeated f_repeated d_repeated
  b_repeated : Binds K d_repeated ["base", "exponent", "one", "combine"] []
  g_repeated : mg "repeated" = some (.ref f_repeated)
  f_polynomial : Addr
  d_polynomial : FuncData
  F_polynomial : Fun K "polynomial" "polynomial" s_polynomial f_polynomial d_polynomial
  b_polynomial : Binds K d_polynomial ["terms"] []
  g_polynomial : mg "polynomial" = some (.ref f_polynomial)
  f_in_order : Addr
  d_in_order : FuncData
  c_in_order : Addr
  P_in_order : Addr
  F_in_order : FunC K "_in_order" "_in_order" s_in_order f_in_order d_in_order c_in_order
  b_in_order : Binds K d_in_order ["found"] []
  g_in_order : mg "_in_order" = some (.ref f_in_order)
  f_value : Addr
  d_value : FuncData
  F_value : Fun K "value" "value" s_value f_value d_value
  b_value : Binds K d_value ["p", "x", "y"] []
  g_value : mg "value" = some (.ref f_value)
  f_coefficients_at : Addr
  d_coefficients_at : FuncData
  F_coefficients_at : Fun K "_coefficients_at" "_coefficients_at" s_coefficients_at f_coefficients_at d_coefficients_at
  b_coefficients_at : Binds K d_coefficients_at ["p", "x"] []
  g_coefficients_at : mg "_coefficients_at" = some (.ref f_coefficients_at)
  f_check_fields : Addr
  d_check_fields : FuncData
  c_check_fields : Addr
  P_check_fields : Addr
  F_check_fields : FunC K "_check_fields" "_check_fields" s_check_fields f_check_fields d_check_fields c_check_fields
  b_check_fields : Binds K d_check_fields ["fields"] []
  g_check_fields : mg "_check_fields" = some (.ref f_check_fields)
  f_check_edges : Addr
  d_check_edges : FuncData
  F_check_edges : Fun K "_check_edges" "_check_edges" s_check_edges f_check_edges d_check_edges
  b_check_edges : Binds K d_check_edges ["edges", "count"] []
  g_check_edges : mg "_check_edges" = some (.ref f_check_edges)
  f_all_states : Addr
  d_all_states : FuncData
  F_all_states : Fun K "all_states" "all_states" s_all_states f_all_states d_all_states
  b_all_states : Binds K d_all_states ["spins"] []
  g_all_states : mg "all_states" = some (.ref f_all_states)
  f_cost : Addr
  d_cost : FuncData
  c_cost : Addr
  P_cost : Addr
  F_cost : FunC K "cost" "cost" s_cost f_cost d_cost c_cost
  b_cost : Binds K d_cost ["spins", "state"] []
  g_cost : mg "cost" = some (.ref f_cost)
  f_ups : Addr
  d_ups : FuncData
  F_ups : Fun K "ups" "ups" s_ups f_ups d_ups
  b_ups : Binds K d_ups ["state"] []
  g_ups : mg "ups" = some (.ref f_ups)
  f_sum_by_states : Addr
  d_sum_by_states : FuncData
  F_sum_by_states : Fun K "sum_by_states" "sum_by_states" s_sum_by_states f_sum_by_states d_sum_by_states
  b_sum_by_states : Binds K d_sum_by_states ["spins"] []
  g_sum_by_states : mg "sum_by_states" = some (.ref f_sum_by_states)
  f_check_above_zero : Addr
  d_check_above_zero : FuncData
  F_check_above_zero : Fun K "check_above_zero" "check_above_zero" s_check_above_zero f_check_above_zero d_check_above_zero
  b_check_above_zero : Binds K d_check_above_zero ["x", "y"] []
  g_check_above_zero : mg "check_above_zero" = some (.ref f_check_above_zero)
  f_check_small : Addr
  d_check_small : FuncData
  F_check_small : Fun K "check_small" "check_small" s_check_small f_check_small d_check_small
  b_check_small : Binds K d_check_small ["spins", "x", "y"] []
  g_check_small : mg "check_small" = some (.ref f_check_small)
  f_joint_sums : Addr
  d_joint_sums : FuncData
  F_joint_sums : Fun K "joint_sums" "joint_sums" s_joint_sums f_joint_sums d_joint_sums
  b_joint_sums : Binds K d_joint_sums ["spins", "x", "y"] []
  g_joint_sums : mg "joint_sums" = some (.ref f_joint_sums)
  f_joint_weights : Addr
  d_joint_weights : FuncData
  c_joint_weights : Addr
  P_joint_weights : Addr
  F_joint_weights : FunC K "_joint_weights" "_joint_weights" s_joint_weights f_joint_weights d_joint_weights c_joint_weights
  b_joint_weights : Binds K d_joint_weights ["spins", "state", "x", "y"] []
  g_joint_weights : mg "_joint_weights" = some (.ref f_joint_weights)
  f_sum_of : Addr
  d_sum_of : FuncData
  F_sum_of : Fun K "_sum_of" "_sum_of" s_sum_of f_sum_of d_sum_of
  b_sum_of : Binds K d_sum_of ["numbers"] []
  g_sum_of : mg "_sum_of" = some (.ref f_sum_of)
  f_law_cell : Addr
  d_law_cell : FuncData
  F_law_cell : Fun K "_law_cell" "_law_cell" s_law_cell f_law_cell d_law_cell
  b_law_cell : Binds K d_law_cell ["script", "k"] []
  g_law_cell : mg "_law_cell" = some (.ref f_law_cell)
  f_law_mix : Addr
  d_law_mix : FuncData
  F_law_mix : Fun K "_law_mix" "_law_mix" s_law_mix f_law_mix d_law_mix
  b_law_mix : Binds K d_law_mix ["cell", "k"] []
  g_law_mix : mg "_law_mix" = some (.ref f_law_mix)
  f_law_row : Addr
  d_law_row : FuncData
  F_law_row : Fun K "_law_row" "_law_row" s_law_row f_law_row d_law_row
  b_law_row : Binds K d_law_row ["cell", "count", "bound"] []
  g_law_row : mg "_law_row" = some (.ref f_law_row)
  f_law_tuples : Addr
  d_law_tuples : FuncData
  F_law_tuples : Fun K "_law_tuples" "_law_tuples" s_law_tuples f_law_tuples d_law_tuples
  b_law_tuples : Binds K d_law_tuples ["thing"] []
  g_law_tuples : mg "_law_tuples" = some (.ref f_law_tuples)
  f_law_gcd : Addr
  d_law_gcd : FuncData
  F_law_gcd : Fun K "_law_gcd" "_law_gcd" s_law_gcd f_law_gcd d_law_gcd
  b_law_gcd : Binds K d_law_gcd ["a", "b"] []
  g_law_gcd : mg "_law_gcd" = some (.ref f_law_gcd)
  f_law_frac : Addr
  d_law_frac : FuncData
  F_law_frac : Fun K "_law_frac" "_law_frac" s_law_frac f_law_frac d_law_frac
  b_law_frac : Binds K d_law_frac ["a", "b"] []
  g_law_frac : mg "_law_frac" = some (.ref f_law_frac)
  f_law_add : Addr
  d_law_add : FuncData
  F_law_add : Fun K "_law_add" "_law_add" s_law_add f_law_add d_law_add
  b_law_add : Binds K d_law_add ["p", "q"] []
  g_law_add : mg "_law_add" = some (.ref f_law_add)
  f_law_mul : Addr
  d_law_mul : FuncData
  F_law_mul : Fun K "_law_mul" "_law_mul" s_law_mul f_law_mul d_law_mul
  b_law_mul : Binds K d_law_mul ["p", "q"] []
  g_law_mul : mg "_law_mul" = some (.ref f_law_mul)
  f_law_pow : Addr
  d_law_pow : FuncData
  F_law_pow : Fun K "_law_pow" "_law_pow" s_law_pow f_law_pow d_law_pow
  b_law_pow : Binds K d_law_pow ["p", "n"] []
  g_law_pow : mg "_law_pow" = some (.ref f_law_pow)
  f_law_spins : Addr
  d_law_spins : FuncData
  F_law_spins : Fun K "_law_spins" "_law_spins" s_law_spins f_law_spins d_law_spins
  b_law_spins : Binds K d_law_spins ["script", "first", "most", "kind"] []
  g_law_spins : mg "_law_spins" = some (.ref f_law_spins)
  f_law_states : Addr
  d_law_states : FuncData
  F_law_states : Fun K "_law_states" "_law_states" s_law_states f_law_states d_law_states
  b_law_states : Binds K d_law_states ["count"] []
  g_law_states : mg "_law_states" = some (.ref f_law_states)
  f_law_cost : Addr
  d_law_cost : FuncData
  F_law_cost : Fun K "_law_cost" "_law_cost" s_law_cost f_law_cost d_law_cost
  b_law_cost : Binds K d_law_cost ["fields", "edges", "state"] []
  g_law_cost : mg "_law_cost" = some (.ref f_law_cost)
  f_law_weights : Addr
  d_law_weights : FuncData
  F_law_weights : Fun K "_law_weights" "_law_weights" s_law_weights f_law_weights d_law_weights
  b_law_weights : Binds K d_law_weights ["fields", "edges", "x", "y"] []
  g_law_weights : mg "_law_weights" = some (.ref f_law_weights)
  f_law_fractions : Addr
  d_law_fractions : FuncData
  F_law_fractions : Fun K "_law_fractions" "_law_fractions" s_law_fractions f_law_fractions d_law_fractions
  b_law_fractions : Binds K d_law_fractions ["cell", "unit"] []
  g_law_fractions : mg "_law_fractions" = some (.ref f_law_fractions)
  f_law_parts : Addr
  d_law_parts : FuncData
  F_law_parts : Fun K "_law_parts" "_law_parts" s_law_parts f_law_parts d_law_parts
  b_law_parts : Binds K d_law_parts ["count", "pairs"] []
  g_law_parts : mg "_law_parts" = some (.ref f_law_parts)
  f_law_bits : Addr
  d_law_bits : FuncData
  F_law_bits : Fun K "_law_bits" "_law_bits" s_law_bits f_law_bits d_law_bits
  b_law_bits : Binds K d_law_bits ["mask", "count"] []
  g_law_bits : mg "_law_bits" = some (.ref f_law_bits)
  f_law_set_weight : Addr
  d_law_set_weight : FuncData
  F_law_set_weight : Fun K "_law_set_weight" "_law_set_weight" s_law_set_weight f_law_set_weight d_law_set_weight
  b_law_set_weight : Binds K d_law_set_weight ["fields", "edges", "chosen", "x", "y"] []
  g_law_set_weight : mg "_law_set_weight" = some (.ref f_law_set_weight)
  t_MOST_VERTICES_spins : Tok
  g_MOST_VERTICES_spins : mg "MOST_VERTICES_spins" = some (.int 12 t_MOST_VERTICES_spins)
  t_MOST_EDGES : Tok
  g_MOST_EDGES : mg "MOST_EDGES" = some (.int 24 t_MOST_EDGES)
  t_MOST_SIZE : Tok
  g_MOST_SIZE : mg "MOST_SIZE" = some (.int 9 t_MOST_SIZE)
  t_MOST_VERTICES_distributions : Tok
  g_MOST_VERTICES_distributions : mg "MOST_VERTICES_distributions" = some (.int 6 t_MOST_VERTICES_distributions)
  t_MOST_JOINT_EDGES : Tok
  g_MOST_JOINT_EDGES : mg "MOST_JOINT_EDGES" = some (.int 8 t_MOST_JOINT_EDGES)
  f_FieldError : Addr
  g_FieldError : mg "FieldError" = some (.ref f_FieldError)
  q_FieldError : PySem.W.excIn K f_FieldError veB "ValueError.__new__" = true
  k_FieldError : PySem.W.keepIn K (.ref f_FieldError) = true
  b_FieldError : PySem.W.subIn K (.ref f_FieldError) (.type "BaseException") = some true
  y_FieldError : PySem.W.typeIn K (.ref f_FieldError) = some (.type "type")
  f_InvalidSpins : Addr
  g_InvalidSpins : mg "InvalidSpins" = some (.ref f_InvalidSpins)
  q_InvalidSpins : PySem.W.excIn K f_InvalidSpins veB "ValueError.__new__" = true
  k_InvalidSpins : PySem.W.keepIn K (.ref f_InvalidSpins) = true
  b_InvalidSpins : PySem.W.subIn K (.ref f_InvalidSpins) (.type "BaseException") = some true
  y_InvalidSpins : PySem.W.typeIn K (.ref f_InvalidSpins) = some (.type "type")
  f_InvalidWeight : Addr
  g_InvalidWeight : mg "InvalidWeight" = some (.ref f_InvalidWeight)
  q_InvalidWeight : PySem.W.excIn K f_InvalidWeight veB "ValueError.__new__" = true
  k_InvalidWeight : PySem.W.keepIn K (.ref f_InvalidWeight) = true
  b_InvalidWeight : PySem.W.subIn K (.ref f_InvalidWeight) (.type "BaseException") = some true
  y_InvalidWeight : PySem.W.typeIn K (.ref f_InvalidWeight) = some (.type "type")
  f_TooLarge : Addr
  g_TooLarge : mg "TooLarge" = some (.ref f_TooLarge)
  q_TooLarge : PySem.W.excIn K f_TooLarge veB "ValueError.__new__" = true
  k_TooLarge : PySem.W.keepIn K (.ref f_TooLarge) = true
  b_TooLarge : PySem.W.subIn K (.ref f_TooLarge) (.type "BaseException") = some true
  y_TooLarge : PySem.W.typeIn K (.ref f_TooLarge) = some (.type "type")
  C_Spins : Addr
  g_Spins : mg "Spins" = some (.ref C_Spins)
  cl_Spins : Cls K C_Spins
  f_Spins_init : Addr
  d_Spins_init : FuncData
  c_Spins_init : Addr
  P_Spins_init : Addr
  F_Spins_init : FunC K "__init__" "Spins.__init__" s_Spins_init f_Spins_init d_Spins_init c_Spins_init
  b_Spins_init : Binds K d_Spins_init ["self", "fields", "edges"] []
  mk_Spins : Mk K C_Spins f_Spins_init
  na_Spins_fields : NoAttr K C_Spins "fields"
  na_Spins_edges : NoAttr K C_Spins "edges"
  g_gcd : mg "gcd" = some (.builtin "math.gcd")
  m_abs : mg "abs" = none
  m_all : mg "all" = none
  m_bool : mg "bool" = none
  m_int : mg "int" = none
  m_isinstance : mg "isinstance" = none
  m_len : mg "len" = none
  m_list : mg "list" = none
  m_range : mg "range" = none
  m_sorted : mg "sorted" = none
  m_sum : mg "sum" = none
  m_tuple : mg "tuple" = none
  m_zip : mg "zip" = none
  xm_TooLarge : PySem.W.exmOne K (.ref f_TooLarge) (.ref f_FieldError) = some true
  ki_TooLarge : PySem.W.kitOne K (.ref f_TooLarge) (.ref f_TooLarge) = some true
  ec_TooLarge : ExcC K f_TooLarge
structure Tb {K : PySem.W.Frag} {mg : Str → Option Value} (T : Top K mg) (base : Heap) : Prop where
  t_in_order : LamX.TabB base mg T.c_in_order T.P_in_order
  t_Spins_init : LamX.TabB base mg T.c_Spins_init T.P_Spins_init
  t_check_fields : LamX.TabB base mg T.c_check_fields T.P_check_fields
  t_cost : LamX.TabB base mg T.c_cost T.P_cost
  t_joint_weights : LamX.TabB base mg T.c_joint_weights T.P_joint_weights
/-- the tables stand -/
structure Tg {K : PySem.W.Frag} {mg : Str → Option Value} (T : Top K mg) (H : Hp) : Prop where
  t_in_order : GxR.TabG H T.P_in_order
  t_Spins_init : GxR.TabG H T.P_Spins_init
  t_check_fields : GxR.TabG H T.P_check_fields
  t_cost : GxR.TabG H T.P_cost
  t_joint_weights : GxR.TabG H T.P_joint_weights
theorem Tg.ext {K : PySem.W.Frag} {mg : Str → Option Value} {T : Top K mg} {H H1 : Hp} (G : Tg T H) (s : Ext H H1) : Tg T H1 := ⟨s.tab G.t_in_order, s.tab G.t_Spins_init, s.tab G.t_check_fields, s.tab G.t_cost, s.tab G.t_joint_weights⟩
theorem sl2 : (2 : Nat) ≤ sizeLine := by rw [sizeLine_eq]; decide
theorem sl_of {n : Nat} (h : n ≤ 1000000) : n ≤ sizeLine := by rw [sizeLine_eq]; omega
theorem sl_lt {n : Nat} (h : n < 1000000) : n < sizeLine := by rw [sizeLine_eq]; omega
end KP
namespace KP
open PySem PySem.Spec PyProof.Rows L2 EXT SDT GXP AUG
open SM (fq Iz Sm)
open PM (Trm Ex canon mulT look put gather keys addTo pw one addE Canon)
section
variable {P : Program} {w : World} {K : PySem.W.Frag} {mg : Str → Option Value} {base : Heap}
/-- // by a divisor that is not 0, below 2 ^ 9000 -/
def CDivZ (_ j : Int) : Prop := j ≠ 0 ∧ j.natAbs.log2 < 9000
theorem op_fdivZ {X : Cx} : OpR X (binaryOp .FloorDiv) (rI CDivZ fun i j => .int (i.fdiv j)) := opI fun i j _ _ _ _ _ hc q =>
  floordiv_int hc.1 q (.inl (PyProof.noPylong_of_log2 hc.2))
theorem same_upd {H : Hp} {p : Addr} {o : HO} (h : H p = none) : Same H (upd H p o) := fun b x e => by
  rw [upd_ne (ne_of_none e h)]
  exact e
theorem _root_.L2.Same.tup {K : PySem.W.Frag} {H H' : Hp} {a : Addr} {xs : List V} (e : Same H H') (h : SqT K H a xs) : SqT K H' a xs := e.ext.tup h
theorem take_snoc {α : Type} {l : List α} {i : Nat} {x : α} (h : l[i]? = some x) : l.take (i + 1) = l.take i ++ [x] := by
  rw [List.take_add_one, h]
  rfl
theorem _root_.L2.FunC.okX {x qual : Str} {st : Stmt} {f c : Addr} {fd : FuncData} {N ps : List Str} {k : Nat} {sp : Sp} (F : FunC K x qual st f fd c) (S : FnScope N ps (defScope st)) (len : ∀ vs H Q E, sp vs H Q E → vs.length = ps.length)
    (hbody : ∀ (A : Around) (outer : List Env) (s : Shared) (H : Hp) (vs : List V) (Q : VK) (E : XK), Room k (A.deeper (envOfC qual (defScope st) s.heap.objs.size f (.ref c))) → sp vs H Q E →
      ∃ t, PSs (cxOf (L2.CX P w) P w K mg base N qual (defScope st) f (.ref c) A outer s H E) (defBody st) t ∧ t { nx := fun _ H' => Q .non H', rt := Q } (start N vs) H) :
    FnOk P w K mg base (L2.CX P w) (k + 1) f fd ps sp := by
  obtain ⟨oc, od, kV, doc, pm, an, ct, osl, e, lk, hcd⟩ := F.ex
  subst e
  exact fn_of lk hcd S len fun A outer s H vs Q E hr hsp => hbody A outer s H vs Q E hr hsp
theorem iteB {c : Bool} {A B : Prop} (h1 : c = true → A) (h2 : c = false → B) : if c = true then A else B := by
  cases c
  · exact iteF (h2 rfl)
  · exact iteT (h1 rfl)
/-- fields as they may be -/
def goodF (fs : List Int) : Prop := 1 ≤ fs.length ∧ fs.length ≤ 12 ∧ ∀ f ∈ fs, -9 ≤ f ∧ f ≤ 9
def spFields (T : Top K mg) : Sp := fun vs H Q E => ∃ (a : Addr) (fs : List Int), vs = [.ref a] ∧ SqT K H a (fs.map V.int) ∧ Tg T H ∧
  (goodF fs → ∀ H', Ext H H' → Q .non H') ∧ (¬ goodF fs → ∀ H', Ext H H' → E (.ref T.f_InvalidSpins) none H')
theorem ok_check_fields (T : Top K mg) (B : Tb T base) : FnOk P w K mg base (L2.CX P w) 2 T.f_check_fields T.d_check_fields ["fields"] (spFields T) := by
  refine T.F_check_fields.okX sc_check_fields (fun vs H Q E h => ?_) (fun A outer s H vs Q E hr h => ?_)
  · obtain ⟨a, fs, rfl, _⟩ := h
    rfl
  · obtain ⟨a, fs, rfl, ha, G, q1, q2⟩ := h
    refine ⟨_, (pss_cons (ps_if (pt_not (pt_chain op_le op_le pe_int (pe_callB call_len_seq (by rfl) T.m_len (by decide +kernel) (pa_cons (pv 0) pa_nil)) (pe_glob (v := .int 12) (by rfl) T.g_MOST_VERTICES_spins ⟨_, rfl⟩))) (pss_one (ps_raise rfl (takes_of rfl rfl rfl rfl) (pmk_own PySem.F.excBase_ValueError T.q_InvalidSpins T.g_InvalidSpins T.k_InvalidSpins (raises_own T.b_InvalidSpins T.y_InvalidSpins) (by rfl)))) pss_nil)
      (pss_one (ps_if (pt_not (pt_val (GXP.pe_allGx (own := [("field", 1)]) (g := gName 1) (tt := tYes) (k := 0) (c := T.c_check_fields) (P := T.P_check_fields) (by rfl) T.m_all ⟨hr.mono (by decide), rfl, B.t_check_fields, rfl, rfl, blkOk_by (own := [("field", 1)]) (N := n_check_fields) (sc := defScope s_check_fields) (by decide +kernel), sc_check_fields.nd, by decide +kernel, rfl, (pi_tup (pv 0)), fun A s H C cl code bi fp hrA => (pg_name (i := 1) sc_check_fields.nd rfl (by first | exact .inl rfl | exact .inr rfl)), fun A s H C cl code bi fp hrA => pts_nil, fun A s H C cl code bi fp hrA => (pe_chain op_le op_le (pe_un un_neg (pe_glob (v := .int 9) (by rfl) T.g_MOST_SIZE ⟨_, rfl⟩)) (pv 1) (pe_glob (v := .int 9) (by rfl) T.g_MOST_SIZE ⟨_, rfl⟩)), fun _ => rfl⟩))) (pss_one (ps_raise rfl (takes_of rfl rfl rfl rfl) (pmk_own PySem.F.excBase_ValueError T.q_InvalidSpins T.g_InvalidSpins T.k_InvalidSpins (raises_own T.b_InvalidSpins T.y_InvalidSpins) (by rfl)))) pss_nil))), ?_⟩
    have hl : (fs.map V.int).length = fs.length := List.length_map _
    have bad : ¬ goodF fs → ∀ H', Ext H H' → E (.ref T.f_InvalidSpins) none H' := q2
    refine ⟨_, rfl, a, _, rfl, .inr ha, _, _, rfl, rfl, _, rfl, ite2 (fun e1 => ?_) (fun e1 => ?_)⟩
    · have e1 : 1 ≤ fs.length := by
        have := of_decide_eq_true e1
        rw [hl] at this
        omega
      refine ⟨_, _, rfl, rfl, _, rfl, iteB (fun e2 => ?_) (fun e2 => ?_)⟩
      · have e2 : ¬ fs.length ≤ 12 := fun z => by
          have e3 : (12 : Int) < fs.length := by simpa using e2
          omega
        exact bad (fun g => e2 g.2.1) H (Ext.refl H)
      · have e2 : fs.length ≤ 12 := by
          have : decide (((fs.map V.int).length : Int) ≤ 12) = true := by simpa using e2
          have := of_decide_eq_true this
          rw [hl] at this
          omega
        refine ⟨_, rfl, a, rfl, ⟨_, ha⟩, G.t_check_fields, fun H2 t2 => ?_⟩
        have x2 : Ext H H2 := ext_tabbed G.t_check_fields t2
        refine gx_tup (xs := fs.map V.int) (fun i zs H3 => H3 = H2 ∧ ∀ f ∈ fs.take i, -9 ≤ f ∧ f ≤ 9) ⟨rfl, fun f m => by simp at m⟩ (fun i zs H3 _ h => by rw [h.1]; exact x2.tup ha) (fun i x zs H3 hi hP => ?_) (fun zs H3 hP => ?_)
        · obtain ⟨rfl, hz⟩ := hP
          rw [List.getElem?_map] at hi
          cases hf : fs[i]? with
          | none => rw [hf] at hi; cases hi
          | some f =>
            rw [hf] at hi
            cases hi
            have hm := List.mem_of_getElem? hf
            have take1 : fs.take (i + 1) = fs.take i ++ [f] := by rw [List.take_add_one, hf]; rfl
            refine ⟨rfl, _, rfl, _, rfl, _, _, rfl, rfl, _, rfl, ite2 (fun e3 => ?_) (fun e3 => ?_)⟩
            · have e3 := of_decide_eq_true e3
              refine ⟨_, _, rfl, rfl, _, rfl, ?_⟩
              by_cases e4 : f ≤ 9
              · rw [decide_eq_true e4, if_neg (by decide)]
                refine ⟨rfl, fun g m => ?_⟩
                rw [take1] at m
                rcases List.mem_append.mp m with m | m
                · exact hz g m
                · rw [List.mem_singleton.mp m]
                  exact ⟨e3, e4⟩
              · rw [decide_eq_false e4, if_pos rfl]
                exact ⟨_, rfl, iteT (bad (fun g => e4 (g.2.2 f hm).2) _ x2)⟩
            · have e3 : ¬ -9 ≤ f := fun z => e3 (decide_eq_true z)
              refine ⟨_, rfl, ?_⟩
              rw [if_pos rfl]
              exact ⟨_, rfl, iteT (bad (fun g => e3 (g.2.2 f hm).1) _ x2)⟩
        · obtain ⟨rfl, hz⟩ := hP
          rw [hl, List.take_length] at hz
          exact ⟨_, rfl, iteF (q1 ⟨e1, e2, hz⟩ _ x2)⟩
    · have e1 : ¬ 1 ≤ fs.length := fun z => e1 (decide_eq_true (by rw [hl]; omega))
      exact ⟨_, rfl, iteT (bad (fun g => e1 g.1) H (Ext.refl H))⟩
/-- an edge, as a tuple of three ints -/
abbrev Eg := Int × Int × Int
def EdgeAt (K : PySem.W.Frag) (H : Hp) (v : V) (e : Eg) : Prop := ∃ a, v = .ref a ∧ SqT K H a [.int e.1, .int e.2.1, .int e.2.2]
def okE (n : Int) (e : Eg) : Prop := 0 ≤ e.1 ∧ e.1 < e.2.1 ∧ e.2.1 < n ∧ e.2.2 ≠ 0 ∧ -9 ≤ e.2.2 ∧ e.2.2 ≤ 9
def ltEg (x y : Eg) : Prop := x.1 < y.1 ∨ (x.1 = y.1 ∧ x.2.1 < y.2.1)
def goodE (n : Int) (es : List Eg) : Prop := es.length ≤ 24 ∧ (∀ e ∈ es, okE n e) ∧ ∀ i x y, es[i]? = some x → es[i + 1]? = some y → ltEg x y
def spEdges (T : Top K mg) : Sp := fun vs H Q E => ∃ (a : Addr) (xs : List V) (es : List Eg) (n : Int), vs = [.ref a, .int n] ∧ SqT K H a xs ∧ Paired (EdgeAt K H) xs es ∧ es.length < 1000000 ∧
  (goodE n es → ∀ H', Ext H H' → Q .non H') ∧ (¬ goodE n es → ∀ H', Ext H H' → E (.ref T.f_InvalidSpins) none H')
theorem cut2 {x y z : V} : ¬ (HT.sIx [x, y, z].length 0 none = 0 ∧ HT.sIx [x, y, z].length [x, y, z].length (some 2) = [x, y, z].length) := fun w => by
  have h := w.2
  rw [show (some (2 : Int)) = some ((2 : Nat) : Int) from rfl, HT.sIx_nat] at h
  simp at h
theorem ok_check_edges (T : Top K mg) : FnOk P w K mg base (L2.CX P w) 1 T.f_check_edges T.d_check_edges ["edges", "count"] (spEdges T) := by
  refine T.F_check_edges.okX sc_check_edges (fun vs H Q E h => ?_) (fun cdv A outer s H vs Q E hr h => ?_)
  · obtain ⟨a, xs, es, n, rfl, _⟩ := h
    rfl
  · obtain ⟨a, xs, es, n, rfl, ha, hes, hlen, q1, q2⟩ := h
    refine ⟨_, (pss_cons (ps_if (pt_cmpR op_gt (pe_callB call_len_seq (by rfl) T.m_len (by decide +kernel) (pa_cons (pv 0) pa_nil)) (pe_glob (v := .int 24) (by rfl) T.g_MOST_EDGES ⟨_, rfl⟩) (nomark _)) (pss_one (ps_raise rfl (takes_of rfl rfl rfl rfl) (pmk_own PySem.F.excBase_ValueError T.q_InvalidSpins T.g_InvalidSpins T.k_InvalidSpins (raises_own T.b_InvalidSpins T.y_InvalidSpins) (by rfl)))) pss_nil)
      (pss_cons (ps_for (passes_of rfl) rfl (pi_tup (pv 0)) (pg_tup rfl (pgs_cons (pg_name (i := 2) sc_check_edges.nd rfl (by first | exact .inl rfl | exact .inr rfl)) (pgs_cons (pg_name (i := 3) sc_check_edges.nd rfl (by first | exact .inl rfl | exact .inr rfl)) (pgs_cons (pg_name (i := 4) sc_check_edges.nd rfl (by first | exact .inl rfl | exact .inr rfl)) pgs_nil)))) (pss_cons (ps_if (pt_not (pt_chain3 op_le op_lt op_lt pe_int (pv 2) (pv 3) (pv 1))) (pss_one (ps_raise rfl (takes_of rfl rfl rfl rfl) (pmk_own PySem.F.excBase_ValueError T.q_InvalidSpins T.g_InvalidSpins T.k_InvalidSpins (raises_own T.b_InvalidSpins T.y_InvalidSpins) (by rfl)))) pss_nil)
      (pss_one (ps_if (PW.pt (pw_or (pt_cmpR op_eq (pv 4) pe_int (nomark _)) (pw_or1 (pt_not (pt_chain op_le op_le (pe_un un_neg (pe_glob (v := .int 9) (by rfl) T.g_MOST_SIZE ⟨_, rfl⟩)) (pv 4) (pe_glob (v := .int 9) (by rfl) T.g_MOST_SIZE ⟨_, rfl⟩)))))) (pss_one (ps_raise rfl (takes_of rfl rfl rfl rfl) (pmk_own PySem.F.excBase_ValueError T.q_InvalidSpins T.g_InvalidSpins T.k_InvalidSpins (raises_own T.b_InvalidSpins T.y_InvalidSpins) (by rfl)))) pss_nil))))
      (pss_one (ps_for (passes_of rfl) rfl (RZ.pi_zipA (by rfl) T.m_zip (pa_cons (pv 0) (pa_cons (pe_slice sl_tupA (pv 0) (po_some pe_int) po_none) pa_nil))) (pg_tup rfl (pgs_cons (pg_name (i := 5) sc_check_edges.nd rfl (by first | exact .inl rfl | exact .inr rfl)) (pgs_cons (pg_name (i := 6) sc_check_edges.nd rfl (by first | exact .inl rfl | exact .inr rfl)) pgs_nil))) (pss_one (ps_if (pt_cmpR (op_geP (Nat.lt_of_le_of_lt (Nat.le_add_right _ _) hr.units)) (pe_slice sl_tupA (pv 5) po_none (po_some pe_int)) (pe_slice sl_tupA (pv 6) po_none (po_some pe_int)) (nomark _)) (pss_one (ps_raise rfl (takes_of rfl rfl rfl rfl) (pmk_own PySem.F.excBase_ValueError T.q_InvalidSpins T.g_InvalidSpins T.k_InvalidSpins (raises_own T.b_InvalidSpins T.y_InvalidSpins) (by rfl)))) pss_nil)))))), ?_⟩
    have bad : ¬ goodE n es → ∀ H', Ext H H' → E (.ref T.f_InvalidSpins) none H' := q2
    have hl := hes.length
    refine ⟨_, rfl, a, _, rfl, .inr ha, _, _, rfl, rfl, _, rfl, ite2 (fun e1 => ?_) (fun e1 => ?_)⟩
    · have e1 := of_decide_eq_true e1
      exact bad (fun g => by have := g.1; omega) H (Ext.refl H)
    have el24 : es.length ≤ 24 := by
      have : ¬ (24 : Int) < (xs.length : Int) := fun z => e1 (decide_eq_true z)
      omega
    refine ⟨_, rfl, a, rfl, ⟨_, ha⟩, for_tup (xs := xs) (fun i σ H1 => (∃ x1 x2 x3, σ = [some (.ref a), some (.int n), x1, x2, x3, none, none]) ∧ Ext H H1 ∧ ∀ e ∈ es.take i, okE n e) ⟨⟨_, _, _, rfl⟩, Ext.refl H, fun e m => by simp at m⟩ (fun i σ H1 _ h => h.2.1.tup ha) (fun i x σ H1 hi hP => ?_) (fun σ H1 hP => ?_)⟩
    · obtain ⟨⟨x1, x2, x3, rfl⟩, s1, hok⟩ := hP
      obtain ⟨⟨u, v, j⟩, hei, a1, rfl, h1⟩ := paired_at hes hi
      have hm := List.mem_of_getElem? hei
      have take1 : es.take (i + 1) = es.take i ++ [(u, v, j)] := by rw [List.take_add_one, hei]; rfl
      have bade : ¬ okE n (u, v, j) → E (.ref T.f_InvalidSpins) none H1 := fun z => bad (fun g => z (g.2.1 _ hm)) H1 s1
      refine ⟨a1, _, rfl, s1.tup h1, rfl, _, _, rfl, _, _, rfl, _, _, rfl, rfl, ?_⟩
      refine ⟨_, rfl, _, _, rfl, rfl, _, rfl, ite2 (fun b1 => ?_) (fun b1 => ?_)⟩
      · have b1 : 0 ≤ u := of_decide_eq_true b1
        refine ⟨_, rfl, _, _, rfl, rfl, _, rfl, ite2 (fun b2 => ?_) (fun b2 => ?_)⟩
        · have b2 : u < v := of_decide_eq_true b2
          refine ⟨_, rfl, _, _, rfl, rfl, _, rfl, ?_⟩
          by_cases b3 : v < n
          · rw [decide_eq_true b3]
            refine iteF ?_
            refine ⟨_, rfl, rfl, _, rfl, ?_⟩
            by_cases b4 : j = 0
            · subst b4
              refine iteT (iteT (bade fun z => z.2.2.2.1 rfl))
            · have d4 : decide (V.int j = V.int 0) = false := decide_eq_false fun z => b4 (V.int.inj z)
              rw [d4]
              refine iteF ?_
              refine ⟨_, rfl, _, rfl, _, _, rfl, rfl, _, rfl, ite2 (fun b5 => ?_) (fun b5 => ?_)⟩
              · have b5 : -9 ≤ j := of_decide_eq_true b5
                refine ⟨_, _, rfl, rfl, _, rfl, ?_⟩
                by_cases b6 : j ≤ 9
                · rw [decide_eq_true b6]
                  refine iteF ⟨⟨_, _, _, rfl⟩, s1, fun e m => ?_⟩
                  rw [take1] at m
                  rcases List.mem_append.mp m with m | m
                  · exact hok e m
                  · rw [List.mem_singleton.mp m]
                    exact ⟨b1, b2, b3, b4, b5, b6⟩
                · rw [decide_eq_false b6]
                  exact iteT (bade fun z => b6 z.2.2.2.2.2)
              · have b5 : ¬ -9 ≤ j := fun z => b5 (decide_eq_true z)
                exact ⟨_, rfl, iteT (bade fun z => b5 z.2.2.2.2.1)⟩
          · rw [decide_eq_false b3]
            exact iteT (bade fun z => b3 z.2.2.1)
        · have b2 : ¬ u < v := fun z => b2 (decide_eq_true z)
          exact ⟨_, rfl, iteT (bade fun z => b2 z.2.1)⟩
      · have b1 : ¬ 0 ≤ u := fun z => b1 (decide_eq_true z)
        exact ⟨_, rfl, iteT (bade fun z => b1 z.1)⟩
    · obtain ⟨⟨x1, x2', x3, rfl⟩, s1, hok⟩ := hP
      rw [hl, List.take_length] at hok
      -- the pairs ascend
      refine ⟨_, rfl, _, rfl, 1, rfl, a, xs, rfl, s1.tup ha, fun hw => ?_, fun hw p hp => ?_⟩
      · have z0 : xs.length = 0 := by
          have h1 := hw.1
          rw [show (some (1 : Int)) = some ((1 : Nat) : Int) from rfl, HT.sIx_nat] at h1
          omega
        obtain rfl := List.length_eq_zero_iff.mp z0
        refine ⟨a, a, [], [], rfl, .inr ⟨s1.tup ha, s1.tup ha, for_zipM (Nat.le_refl _) (fun i σ H3 => Ext H1 H3) (Ext.refl _) (fun i σ H3 h => ⟨(s1.trans h).tup ha, (s1.trans h).tup ha⟩) (fun i x y T' σ H3 hx => by simp at hx) (fun σ H3 h => ?_)⟩⟩
        refine q1 ⟨el24, hok, fun i x y hx => ?_⟩ H3 (s1.trans h)
        have : es.length = 0 := by rw [← hl]; exact z0
        obtain rfl := List.length_eq_zero_iff.mp this
        simp at hx
      · have ec : cutV xs (some 1) none = xs.drop 1 := by
          unfold cutV
          rw [show (some (1 : Int)) = some ((1 : Nat) : Int) from rfl, HT.sIx_nat, HT.sIx_none]
          by_cases z : xs.length = 0
          · obtain rfl := List.length_eq_zero_iff.mp z
            rfl
          · have z1 : min 1 xs.length = 1 := by omega
            rw [z1]
            refine List.take_of_length_le ?_
            rw [List.length_drop]
            exact Nat.le_refl _
        rw [ec]
        have x2 : Ext H1 (upd H1 p (.tup (xs.drop 1))) := ext_upd hp
        have hb : SqT K (upd H1 p (.tup (xs.drop 1))) p (xs.drop 1) := SqT.of upd_same
        generalize upd H1 p (.tup (xs.drop 1)) = H2 at *
        have s2 := s1.trans x2
        refine ⟨a, p, xs, xs.drop 1, rfl, .inr ⟨s2.tup ha, hb, for_zipM (by rw [List.length_drop]; omega) (fun i σ H3 => (∃ w1 w2, σ = [some (.ref a), some (.int n), x1, x2', x3, w1, w2]) ∧ Ext H2 H3 ∧ ∀ k x y, k < i → es[k]? = some x → es[k + 1]? = some y → ltEg x y)
          ⟨⟨_, _, rfl⟩, Ext.refl _, fun k x y hk => absurd hk (by omega)⟩ (fun i σ H3 h => ⟨(s2.trans h.2.1).tup ha, h.2.1.tup hb⟩) (fun i x y T' σ H3 hx hy hP hT => ?_) (fun σ H3 hP => ?_)⟩⟩
        · obtain ⟨⟨w1, w2, rfl⟩, s3, hlt⟩ := hP
          rw [List.getElem?_drop] at hy
          obtain ⟨⟨u, v, j⟩, hex, a1, rfl, g1⟩ := paired_at hes hx
          obtain ⟨⟨u', v', j'⟩, hey, a2, rfl, g2⟩ := paired_at hes hy
          have hey : es[i + 1]? = some (u', v', j') := by rw [Nat.add_comm]; exact hey
          have s4 : Ext H (upd H3 T' (.tup [.ref a1, .ref a2])) := (s2.trans s3).new hT
          have s5 : Ext H2 (upd H3 T' (.tup [.ref a1, .ref a2])) := s3.new hT
          refine ⟨T', _, rfl, SqT.of upd_same, rfl, _, _, rfl, _, _, rfl, rfl, ?_⟩
          generalize upd H3 T' (.tup [.ref a1, .ref a2]) = H4 at *
          refine ⟨_, rfl, 2, rfl, a1, _, rfl, s4.tup g1, fun w => absurd w cut2, fun _ p1 hp1 => ?_⟩
          have s6 := s4.new (o := .tup (cutV [V.int u, .int v, .int j] none (some 2))) hp1
          refine ⟨_, rfl, 2, rfl, a2, _, rfl, s6.tup g2, fun w => absurd w cut2, fun _ p2 hp2 => ?_⟩
          have s7 := s6.new (o := .tup (cutV [V.int u', .int v', .int j'] none (some 2))) hp2
          refine ⟨p1, p2, (u, v), (u', v'), rfl, rfl, SqT.of ((ext_upd hp2).at upd_same), SqT.of upd_same, _, rfl, iteB (fun z => ?_) (fun z => ?_)⟩
          · have z : geP (u, v) (u', v') = true := z
            refine bad (fun g => ?_) _ s7
            have h1 := g.2.2 i _ _ hex hey
            have h2 : SrtO.lexB (u, v) (u', v') = true := SrtO.lexB_iff.mpr h1
            unfold geP at z
            rw [h2] at z
            cases z
          · have z : geP (u, v) (u', v') = false := z
            refine ⟨⟨_, _, rfl⟩, (s5.new hp1).new hp2, fun k x y hk hkx hky => ?_⟩
            by_cases ek : k = i
            · subst ek
              rw [hex] at hkx
              rw [hey] at hky
              cases hkx
              cases hky
              refine (SrtO.lexB_iff (p := (u, v)) (q := (u', v'))).mp ?_
              unfold geP at z
              simpa using z
            · exact hlt k x y (by omega) hkx hky
        · obtain ⟨⟨w1, w2, rfl⟩, s3, hlt⟩ := hP
          refine q1 ⟨el24, hok, fun i x y hx hy => hlt i x y ?_ hx hy⟩ H3 (s2.trans s3)
          have := (List.getElem?_eq_some_iff.mp hy).1
          rw [List.length_drop]
          omega
/-- tuple(x) of a list, a tuple -/
def rTupOf (K : PySem.W.Frag) : List V → Hp → VK → Prop := fun xs H Q => ∃ p ys, xs = [.ref p] ∧ ((SqL K H p ys ∧ ∀ l, H l = none → Q (.ref l) (upd H l (.tup ys))) ∨ (SqT K H p ys ∧ Q (.ref p) H))
/-- a list or a tuple at a -/
abbrev Sq (K : PySem.W.Frag) (H : Hp) (a : Addr) (xs : List V) : Prop := SqL K H a xs ∨ SqT K H a xs
theorem _root_.EXT.Ext.sq {H H' : Hp} (s : Ext H H') {a : Addr} {xs : List V} (h : Sq K H a xs) : Sq K H' a xs := h.imp s.seq s.tup
theorem _root_.EXT.Ext.edges {H H' : Hp} (s : Ext H H') {xs : List V} {es : List Eg} (h : Paired (EdgeAt K H) xs es) : Paired (EdgeAt K H') xs es := paired_imp (fun _ _ ⟨a, e, h⟩ => ⟨a, e, s.tup h⟩) h
theorem sqt_ins {H : Hp} {p C dx a : Addr} {fs : List (Str × V)} {xs : List V} {o : HO} (hp : H p = some (.ins C dx fs)) (h : SqT K H a xs) : SqT K (upd H p o) a xs := by
  rcases h with (h | ⟨o', h⟩) | h
  · exact .inl (.inl (by rw [upd_ne (fun z => by rw [z, hp] at h; cases h)]; exact h))
  · exact .inl (.inr ⟨o', by rw [upd_ne (fun z => by rw [z, hp] at h; cases h)]; exact h⟩)
  · exact .inr h
/-- a new one is made at p (not there in H0) -/
def spInit (T : Top K mg) : Sp := fun vs H Q E => ∃ (p dx fa ea : Addr) (fs : List Int) (xs : List V) (es : List Eg) (H0 : Hp), vs = [.ref p, .ref fa, .ref ea] ∧ H p = some (.ins T.C_Spins dx []) ∧ H0 p = none ∧ Ext H0 H ∧
  Sq K H0 fa (fs.map V.int) ∧ Sq K H0 ea xs ∧ Paired (EdgeAt K H0) xs es ∧ es.length < 1000000 ∧ fs.length < 1000000 ∧ Tg T H0 ∧
  (goodF fs → goodE fs.length es → ∀ H' fb eb ys, Ext H0 H' → H' p = some (.ins T.C_Spins dx [("fields", .ref fb), ("edges", .ref eb)]) → SqT K H' fb (fs.map V.int) → SqT K H' eb ys → Paired (EdgeAt K H') ys es → Q .non H') ∧
  (¬ (goodF fs ∧ goodE fs.length es) → ∀ H', Ext H0 H' → E (.ref T.f_InvalidSpins) none H')
theorem ok_Spins_init (T : Top K mg) (B : Tb T base) : FnOk P w K mg base (L2.CX P w) 4 T.f_Spins_init T.d_Spins_init ["self", "fields", "edges"] (spInit T) := by
  refine T.F_Spins_init.okX sc_Spins_init (fun vs H Q E h => ?_) (fun A outer s H vs Q E hr h => ?_)
  · obtain ⟨p, dx, fa, ea, fs, xs, es, H0, rfl, _⟩ := h
    rfl
  · obtain ⟨p, dx, fa, ea, fs, xs, es, H0, rfl, hp, h0, s0, hf, he, hes, el, fl, G, q1, q2⟩ := h
    refine ⟨_, (C8.pss_cut (ps_fld (pv 0) (pe_callTy call_tuple_of (by rfl) T.m_tuple (by decide +kernel) (pa_cons (pv 1) pa_nil)) rfl)
      (C8.pss_cut (ps_fld (pv 0) (GXP.pe_tupleGx (own := [("edge", 3)]) (g := gName 3) (tt := tYes) (k := 2) (c := T.c_Spins_init) (P := T.P_Spins_init) (by rfl) T.m_tuple ⟨hr.mono (by decide), rfl, B.t_Spins_init, rfl, rfl, blkOk_by (own := [("edge", 3)]) (N := n_Spins_init) (sc := defScope s_Spins_init) (by decide +kernel), sc_Spins_init.nd, by decide +kernel, rfl, (pi_seq (pv 2)), fun A s H C cl code bi fp hrA => (pg_name (i := 3) sc_Spins_init.nd rfl (by first | exact .inl rfl | exact .inr rfl)), fun A s H C cl code bi fp hrA => pts_nil, fun A s H C cl code bi fp hrA => (pe_callTy (T := "tuple") (r := rTupOf K) call_tuple_of (by rfl) T.m_tuple (by decide +kernel) (pa_cons (pv 3) pa_nil)), fun _ => rfl⟩) rfl)
      (pss_cons (ps_expr (pe_call (ok_check_fields T B) (hr.mono (by decide)) (by rfl) T.g_check_fields T.F_check_fields.kp T.b_check_fields .nil (passes_call (takes_of rfl rfl rfl rfl) (fun _ _ _ _ h => h)) (pa_cons (pe_fld (pv 0) rfl) pa_nil)))
      (pss_one (ps_expr (pe_call (ok_check_edges T) (hr.mono (by decide)) (by rfl) T.g_check_edges T.F_check_edges.kp T.b_check_edges .nil (passes_call (takes_of rfl rfl rfl rfl) (fun _ _ _ _ h => h)) (pa_cons (pe_fld (pv 0) rfl) (pa_cons (pe_callB call_len_seq (by rfl) T.m_len (by decide +kernel) (pa_cons (pe_fld (pv 0) rfl) pa_nil)) pa_nil)))))))), ?_⟩
    have hbad : ∀ H', Ext H0 H' → ¬ (goodF fs ∧ goodE fs.length es) → E (.ref T.f_InvalidSpins) none H' := fun H' s z => q2 z H' s
    refine ⟨fun σ H1 => σ = [some (.ref p), some (.ref fa), some (.ref ea), none] ∧ ∃ fb, Ext H0 H1 ∧ H1 p = some (.ins T.C_Spins dx [("fields", .ref fb)]) ∧ SqT K H1 fb (fs.map V.int), ?_, ?_⟩
    · rcases hf with hf | hf
      · refine ⟨_, rfl, fa, _, rfl, .inl ⟨s0.seq hf, fun l hl => ?_⟩⟩
        have np : p ≠ l := ne_of_none hp hl
        refine ⟨_, rfl, p, T.C_Spins, dx, [], rfl, by rw [upd_ne np]; exact hp, T.cl_Spins, T.na_Spins_fields, by decide, rfl, l, (s0.new hl).own h0, by rw [upd_same]; rfl, ?_⟩
        exact SqT.of (by rw [upd_ne np.symm]; exact upd_same)
      · refine ⟨_, rfl, fa, _, rfl, .inr ⟨s0.tup hf, ?_⟩⟩
        exact ⟨_, rfl, p, T.C_Spins, dx, [], rfl, hp, T.cl_Spins, T.na_Spins_fields, by decide, rfl, fa, s0.own h0, by rw [upd_same]; rfl, (s0.own h0).tup hf⟩
    rintro σ H1 ⟨rfl, fb, s1, hp1, hfb⟩
    have xl := hes.length
    refine ⟨fun σ H1 => σ = [some (.ref p), some (.ref fa), some (.ref ea), none] ∧ ∃ fb eb, Ext H0 H1 ∧ H1 p = some (.ins T.C_Spins dx [("fields", .ref fb), ("edges", .ref eb)]) ∧ SqT K H1 fb (fs.map V.int) ∧ SqT K H1 eb xs, ?_, ?_⟩
    · have tb := (G.ext s1).t_Spins_init
      rcases he with he | he
      · refine ⟨_, rfl, ea, rfl, .inl ⟨⟨_, s1.seq he⟩, tb, fun H2 t2 => ?_⟩⟩
        have s2 := s1.tabbed tb t2
        have hp2 := (ext_tabbed tb t2).keep p _ hp1 (fun _ z => by cases z)
        have hfb2 := (ext_tabbed tb t2).tup hfb
        refine gx_list (xs := xs) (fun i zs H3 => H3 = H2 ∧ zs = xs.take i) ⟨rfl, rfl⟩ (fun i zs H3 _ h => by rw [h.1]; exact s2.seq he) (fun i x zs H3 hi hP => ?_) (fun zs H3 hP => ?_)
        · obtain ⟨rfl, rfl⟩ := hP
          obtain ⟨e, hei, a1, rfl, g1⟩ := paired_at hes hi
          refine ⟨rfl, _, rfl, a1, _, rfl, .inr ⟨s2.tup g1, ?_, rfl, ?_⟩⟩
          · rw [List.length_take]
            exact sl_lt (by omega)
          · rw [List.take_add_one, hi]
            rfl
        · obtain ⟨rfl, rfl⟩ := hP
          intro l hl
          have np : p ≠ l := ne_of_none hp2 hl
          refine ⟨_, rfl, p, T.C_Spins, dx, _, rfl, by rw [upd_ne np]; exact hp2, T.cl_Spins, T.na_Spins_edges, (by show 1 < 1000; decide), rfl, fb, l, (s2.new hl).own h0, by rw [upd_same]; rfl, ?_, ?_⟩
          · exact sqt_ins (by rw [upd_ne np]; exact hp2) ((ext_upd hl).tup hfb2)
          · rw [List.take_length]
            exact SqT.of (by rw [upd_ne np.symm]; exact upd_same)
      · refine ⟨_, rfl, ea, rfl, .inr ⟨⟨_, s1.tup he⟩, tb, fun H2 t2 => ?_⟩⟩
        have s2 := s1.tabbed tb t2
        have hp2 := (ext_tabbed tb t2).keep p _ hp1 (fun _ z => by cases z)
        have hfb2 := (ext_tabbed tb t2).tup hfb
        refine gx_tup (xs := xs) (fun i zs H3 => H3 = H2 ∧ zs = xs.take i) ⟨rfl, rfl⟩ (fun i zs H3 _ h => by rw [h.1]; exact s2.tup he) (fun i x zs H3 hi hP => ?_) (fun zs H3 hP => ?_)
        · obtain ⟨rfl, rfl⟩ := hP
          obtain ⟨e, hei, a1, rfl, g1⟩ := paired_at hes hi
          refine ⟨rfl, _, rfl, a1, _, rfl, .inr ⟨s2.tup g1, ?_, rfl, ?_⟩⟩
          · rw [List.length_take]
            exact sl_lt (by omega)
          · rw [List.take_add_one, hi]
            rfl
        · obtain ⟨rfl, rfl⟩ := hP
          intro l hl
          have np : p ≠ l := ne_of_none hp2 hl
          refine ⟨_, rfl, p, T.C_Spins, dx, _, rfl, by rw [upd_ne np]; exact hp2, T.cl_Spins, T.na_Spins_edges, (by show 1 < 1000; decide), rfl, fb, l, (s2.new hl).own h0, by rw [upd_same]; rfl, ?_, ?_⟩
          · exact sqt_ins (by rw [upd_ne np]; exact hp2) ((ext_upd hl).tup hfb2)
          · rw [List.take_length]
            exact SqT.of (by rw [upd_ne np.symm]; exact upd_same)
    rintro σ H2 ⟨rfl, fb, eb, s2, hp2, hfb2, heb2⟩
    refine ⟨_, rfl, p, T.C_Spins, dx, _, .ref fb, rfl, hp2, T.cl_Spins, T.na_Spins_fields, rfl, fb, fs, rfl, hfb2, G.ext s2, fun gf H3 s3 => ?_, fun nf H3 s3 => hbad H3 (s2.trans s3) fun z => nf z.1⟩
    have hp3 := s3.keep p _ hp2 (fun _ z => by cases z)
    have s03 := s2.trans s3
    refine ⟨_, rfl, p, T.C_Spins, dx, _, .ref eb, rfl, hp3, T.cl_Spins, T.na_Spins_edges, rfl, _, rfl, p, T.C_Spins, dx, _, .ref fb, rfl, hp3, T.cl_Spins, T.na_Spins_fields, rfl, fb, _, rfl, .inr (s3.tup hfb2), ?_⟩
    refine ⟨eb, xs, es, fs.length, by rw [List.length_map]; rfl, s3.tup heb2, s03.edges hes, el, fun ge H4 s4 => ?_, fun ne H4 s4 => hbad H4 (s03.trans s4) fun z => ne z.2⟩
    exact q1 gf ge H4 fb eb xs (s03.trans s4) (s4.keep p _ hp3 (fun _ z => by cases z)) (s4.tup (s3.tup hfb2)) (s4.tup (s3.tup heb2)) ((s03.trans s4).edges hes)
theorem log_lt {j : Int} {b : Nat} (hb : j.natAbs < 2 ^ b) (h0 : 0 < b) (h9 : b ≤ 9000) : j.natAbs.log2 < 9000 := Nat.lt_of_lt_of_le (PySem.Flt.log2_lt_of h0 hb) h9
theorem _root_.L2.Same.new {H H1 : Hp} {p : Addr} {o : HO} (s : Same H H1) (h : H1 p = none) : Same H (upd H1 p o) := s.trans (same_upd h)
open K04
/-- the pair p stands as a tuple at a -/
def Fr (K : PySem.W.Frag) (H : Hp) (a : Addr) (p : Int × Int) : Prop := SqT K H a [.int p.1, .int p.2]
theorem _root_.L2.Same.fr {H H' : Hp} {a : Addr} {p : Int × Int} (e : Same H H') (h : Fr K H a p) : Fr K H' a p := Same.tup e h
/-- hands back a new tuple of p -/
def NewF (H : Hp) (Q : VK) (p : Int × Int) : Prop := ∀ a H', Same H H' → H a = none → H' a = some (.tup [.int p.1, .int p.2]) → Q (.ref a) H'
def small (z : Int) : Prop := z.natAbs < 2 ^ 4000
theorem small_log {z : Int} (h : small z) : z.natAbs.log2 < 9000 := log_lt h (by decide) (by decide)
def spFrac : Sp := fun vs H Q _ => ∃ n d : Int, vs = [.int n, .int d] ∧ d ≠ 0 ∧ small d ∧ NewF H Q (F n d)
theorem gs_small {n d : Int} (h : d ≠ 0) (hs : small d) : CDivZ 0 (gs n d) := ⟨gs_ne h, small_log (Nat.lt_of_le_of_lt (gs_le n h) hs)⟩
theorem ok_fraction (T : Top K mg) : FnOk P w K mg base CX0 1 T.f_fraction T.d_fraction ["numerator", "denominator"] spFrac := by
  refine T.F_fraction.ok sc_fraction (fun vs H Q E h => ?_) (fun cdv A outer s H vs Q E hr h => ?_)
  · obtain ⟨n, d, rfl, _⟩ := h
    rfl
  · obtain ⟨n, d, rfl, hd, hs, q⟩ := h
    refine ⟨_, (pss_cons (ps_set (i := 2) sc_fraction.nd rfl (by first | exact .inl rfl | exact .inr rfl) (pe_callBfun cr_gcd (by rfl) T.g_gcd (pa_cons (pv 0) (pa_cons (pv 1) pa_nil))))
      (pss_cons (ps_if (pt_cmpR op_lt (pv 1) pe_int (nomark _)) (pss_one (ps_set (i := 2) sc_fraction.nd rfl (by first | exact .inl rfl | exact .inr rfl) (pe_un un_neg (pv 2)))) pss_nil)
      (pss_one (ps_ret (pe_tup (pa_cons (pe_op op_fdivZ (pv 0) (pv 2)) (pa_cons (pe_op op_fdivZ (pv 1) (pv 2)) pa_nil))))))), ?_⟩
    refine ⟨_, rfl, _, rfl, n, d, rfl, ?_⟩
    refine ⟨_, rfl, _, _, rfl, rfl, _, rfl, ?_⟩
    have g0 := gs_small (n := n) hd hs
    refine ite2 (fun e => ?_) (fun e => ?_)
    · have e := of_decide_eq_true e
      have eg : gs n d = -((Nat.gcd n.natAbs d.natAbs : Nat) : Int) := by
        unfold gs
        rw [if_pos e]
      have q : NewF H Q (n.fdiv (gs n d), d.fdiv (gs n d)) := q
      rw [eg] at q g0
      refine ⟨_, rfl, _, rfl, ?_⟩
      refine ⟨_, rfl, _, rfl, _, _, rfl, rfl, g0, _, rfl, _, rfl, _, _, rfl, rfl, g0, sl2, fun p hp => ?_⟩
      exact q p _ (same_upd hp) hp upd_same
    · have e : ¬ d < 0 := fun z => e (decide_eq_true z)
      have eg : gs n d = ((Nat.gcd n.natAbs d.natAbs : Nat) : Int) := by
        unfold gs
        rw [if_neg e]
      have q : NewF H Q (n.fdiv (gs n d), d.fdiv (gs n d)) := q
      rw [eg] at q g0
      refine ⟨_, rfl, _, rfl, _, _, rfl, rfl, g0, _, rfl, _, rfl, _, _, rfl, rfl, g0, sl2, fun p hp => ?_⟩
      exact q p _ (same_upd hp) hp upd_same
/-- two fractions come in, a new one goes out -/
def spOp2 (K : PySem.W.Frag) (ok : (Int × Int) → (Int × Int) → Prop) (f : (Int × Int) → (Int × Int) → (Int × Int)) : Sp := fun vs H Q _ => ∃ (a b : Addr) (p q : Int × Int), vs = [.ref a, .ref b] ∧ Fr K H a p ∧ Fr K H b q ∧ ok p q ∧ NewF H Q (f p q)
def mid (z : Int) : Prop := z.natAbs < 2 ^ 1900
theorem mid_mul {x y : Int} (hx : mid x) (hy : mid y) : CMulW x y := wide_mul hx hy (by decide) (by decide) (by decide)
theorem mid_small {x y : Int} (hx : mid x) (hy : mid y) : small (x * y) := Nat.lt_of_lt_of_le (wide_lt hx hy) (Nat.pow_le_pow_right (by decide) (by decide))
def okA (p q : Int × Int) : Prop := mid p.1 ∧ mid p.2 ∧ mid q.1 ∧ mid q.2 ∧ p.2 ≠ 0 ∧ q.2 ≠ 0
def okD (p q : Int × Int) : Prop := mid p.1 ∧ mid p.2 ∧ mid q.1 ∧ mid q.2 ∧ p.2 ≠ 0 ∧ q.1 ≠ 0
theorem ok_add (T : Top K mg) : FnOk P w K mg base CX0 2 T.f_add T.d_add ["a", "b"] (spOp2 K okA addF) := by
  refine T.F_add.ok sc_add (fun vs H Q E h => ?_) (fun cdv A outer s H vs Q E hr h => ?_)
  · obtain ⟨a, b, p, q, rfl, _⟩ := h
    rfl
  · obtain ⟨a, b, p, q, rfl, hp, hq, ⟨m1, m2, m3, m4, n1, n2⟩, k⟩ := h
    refine ⟨_, (pss_one (ps_ret (pe_call (ok_fraction T) (hr.mono (by decide)) (by rfl) T.g_fraction T.F_fraction.kp T.b_fraction .nil pass0 (pa_cons (pe_op op_add (pe_op op_mulW (pe_ix ix_tup (pv 0) pe_int (fun _ _ => rfl)) (pe_ix ix_tup (pv 1) pe_int (fun _ _ => rfl))) (pe_op op_mulW (pe_ix ix_tup (pv 1) pe_int (fun _ _ => rfl)) (pe_ix ix_tup (pv 0) pe_int (fun _ _ => rfl)))) (pa_cons (pe_op op_mulW (pe_ix ix_tup (pv 0) pe_int (fun _ _ => rfl)) (pe_ix ix_tup (pv 1) pe_int (fun _ _ => rfl))) pa_nil))))), ?_⟩
    refine ⟨_, rfl, a, _, _, _, rfl, rfl, hp, atI_nat (j := 0) rfl, _, rfl, b, _, _, _, rfl, rfl, hq, atI_nat (j := 1) rfl, _, _, rfl, rfl, mid_mul m1 m4, ?_⟩
    refine ⟨_, rfl, b, _, _, _, rfl, rfl, hq, atI_nat (j := 0) rfl, _, rfl, a, _, _, _, rfl, rfl, hp, atI_nat (j := 1) rfl, _, _, rfl, rfl, mid_mul m3 m2, ?_⟩
    refine ⟨_, _, rfl, rfl, ?_⟩
    refine ⟨_, rfl, a, _, _, _, rfl, rfl, hp, atI_nat (j := 1) rfl, _, rfl, b, _, _, _, rfl, rfl, hq, atI_nat (j := 1) rfl, _, _, rfl, rfl, mid_mul m2 m4, ?_⟩
    exact ⟨_, _, rfl, Int.mul_ne_zero n1 n2, mid_small m2 m4, k⟩
theorem ok_subtract (T : Top K mg) : FnOk P w K mg base CX0 2 T.f_subtract T.d_subtract ["a", "b"] (spOp2 K okA subF) := by
  refine T.F_subtract.ok sc_subtract (fun vs H Q E h => ?_) (fun cdv A outer s H vs Q E hr h => ?_)
  · obtain ⟨a, b, p, q, rfl, _⟩ := h
    rfl
  · obtain ⟨a, b, p, q, rfl, hp, hq, ⟨m1, m2, m3, m4, n1, n2⟩, k⟩ := h
    refine ⟨_, (pss_one (ps_ret (pe_call (ok_fraction T) (hr.mono (by decide)) (by rfl) T.g_fraction T.F_fraction.kp T.b_fraction .nil pass0 (pa_cons (pe_op op_sub (pe_op op_mulW (pe_ix ix_tup (pv 0) pe_int (fun _ _ => rfl)) (pe_ix ix_tup (pv 1) pe_int (fun _ _ => rfl))) (pe_op op_mulW (pe_ix ix_tup (pv 1) pe_int (fun _ _ => rfl)) (pe_ix ix_tup (pv 0) pe_int (fun _ _ => rfl)))) (pa_cons (pe_op op_mulW (pe_ix ix_tup (pv 0) pe_int (fun _ _ => rfl)) (pe_ix ix_tup (pv 1) pe_int (fun _ _ => rfl))) pa_nil))))), ?_⟩
    refine ⟨_, rfl, a, _, _, _, rfl, rfl, hp, atI_nat (j := 0) rfl, _, rfl, b, _, _, _, rfl, rfl, hq, atI_nat (j := 1) rfl, _, _, rfl, rfl, mid_mul m1 m4, ?_⟩
    refine ⟨_, rfl, b, _, _, _, rfl, rfl, hq, atI_nat (j := 0) rfl, _, rfl, a, _, _, _, rfl, rfl, hp, atI_nat (j := 1) rfl, _, _, rfl, rfl, mid_mul m3 m2, ?_⟩
    refine ⟨_, _, rfl, rfl, ?_⟩
    refine ⟨_, rfl, a, _, _, _, rfl, rfl, hp, atI_nat (j := 1) rfl, _, rfl, b, _, _, _, rfl, rfl, hq, atI_nat (j := 1) rfl, _, _, rfl, rfl, mid_mul m2 m4, ?_⟩
    exact ⟨_, _, rfl, Int.mul_ne_zero n1 n2, mid_small m2 m4, k⟩
theorem ok_multiply (T : Top K mg) : FnOk P w K mg base CX0 2 T.f_multiply T.d_multiply ["a", "b"] (spOp2 K okA mulF) := by
  refine T.F_multiply.ok sc_multiply (fun vs H Q E h => ?_) (fun cdv A outer s H vs Q E hr h => ?_)
  · obtain ⟨a, b, p, q, rfl, _⟩ := h
    rfl
  · obtain ⟨a, b, p, q, rfl, hp, hq, ⟨m1, m2, m3, m4, n1, n2⟩, k⟩ := h
    refine ⟨_, (pss_one (ps_ret (pe_call (ok_fraction T) (hr.mono (by decide)) (by rfl) T.g_fraction T.F_fraction.kp T.b_fraction .nil pass0 (pa_cons (pe_op op_mulW (pe_ix ix_tup (pv 0) pe_int (fun _ _ => rfl)) (pe_ix ix_tup (pv 1) pe_int (fun _ _ => rfl))) (pa_cons (pe_op op_mulW (pe_ix ix_tup (pv 0) pe_int (fun _ _ => rfl)) (pe_ix ix_tup (pv 1) pe_int (fun _ _ => rfl))) pa_nil))))), ?_⟩
    refine ⟨_, rfl, a, _, _, _, rfl, rfl, hp, atI_nat (j := 0) rfl, _, rfl, b, _, _, _, rfl, rfl, hq, atI_nat (j := 0) rfl, _, _, rfl, rfl, mid_mul m1 m3, ?_⟩
    refine ⟨_, rfl, a, _, _, _, rfl, rfl, hp, atI_nat (j := 1) rfl, _, rfl, b, _, _, _, rfl, rfl, hq, atI_nat (j := 1) rfl, _, _, rfl, rfl, mid_mul m2 m4, ?_⟩
    exact ⟨_, _, rfl, Int.mul_ne_zero n1 n2, mid_small m2 m4, k⟩
theorem ok_divide (T : Top K mg) : FnOk P w K mg base CX0 2 T.f_divide T.d_divide ["a", "b"] (spOp2 K okD divF) := by
  refine T.F_divide.ok sc_divide (fun vs H Q E h => ?_) (fun cdv A outer s H vs Q E hr h => ?_)
  · obtain ⟨a, b, p, q, rfl, _⟩ := h
    rfl
  · obtain ⟨a, b, p, q, rfl, hp, hq, ⟨m1, m2, m3, m4, n1, n2⟩, k⟩ := h
    refine ⟨_, (pss_one (ps_ret (pe_call (ok_fraction T) (hr.mono (by decide)) (by rfl) T.g_fraction T.F_fraction.kp T.b_fraction .nil pass0 (pa_cons (pe_op op_mulW (pe_ix ix_tup (pv 0) pe_int (fun _ _ => rfl)) (pe_ix ix_tup (pv 1) pe_int (fun _ _ => rfl))) (pa_cons (pe_op op_mulW (pe_ix ix_tup (pv 0) pe_int (fun _ _ => rfl)) (pe_ix ix_tup (pv 1) pe_int (fun _ _ => rfl))) pa_nil))))), ?_⟩
    refine ⟨_, rfl, a, _, _, _, rfl, rfl, hp, atI_nat (j := 0) rfl, _, rfl, b, _, _, _, rfl, rfl, hq, atI_nat (j := 1) rfl, _, _, rfl, rfl, mid_mul m1 m4, ?_⟩
    refine ⟨_, rfl, a, _, _, _, rfl, rfl, hp, atI_nat (j := 1) rfl, _, rfl, b, _, _, _, rfl, rfl, hq, atI_nat (j := 0) rfl, _, _, rfl, rfl, mid_mul m2 m3, ?_⟩
    exact ⟨_, _, rfl, Int.mul_ne_zero n1 n2, mid_small m2 m3, k⟩
/-! ### the law's own reckoning -/
def spGcd : Sp := fun vs H Q _ => ∃ a b : Int, vs = [.int a, .int b] ∧ Q (.int ((Nat.gcd a.natAbs b.natAbs : Nat) : Int)) H
theorem ok_law_gcd (T : Top K mg) : FnOk P w K mg base CX0 1 T.f_law_gcd T.d_law_gcd ["a", "b"] spGcd := by
  refine T.F_law_gcd.ok sc_law_gcd (fun vs H Q E h => ?_) (fun cdv A outer s H vs Q E hr h => ?_)
  · obtain ⟨a, b, rfl, _⟩ := h
    rfl
  · obtain ⟨a, b, rfl, q⟩ := h
    refine ⟨_, (pss_cons (ps_while PassesOwn.never (pt_truth (pv 1) (by intro _; rfl)) (pss_one (ps_par (i := 0) (j := 1) rfl sc_law_gcd.nd rfl rfl (by decide) rfl rfl (pa_cons (pv 1) (pa_cons (pe_op op_modN (pv 0) (pv 1)) pa_nil)) (by rfl))))
      (pss_one (ps_ret (pe_callB call_abs (by rfl) T.m_abs (by decide +kernel) (pa_cons (pv 0) pa_nil))))), ?_⟩
    refine while_by (fun σ H1 => H1 = H ∧ ∃ x y : Int, σ = [some (.int x), some (.int y)] ∧ Nat.gcd x.natAbs y.natAbs = Nat.gcd a.natAbs b.natAbs) (fun σ _ => match σ with | [_, some (.int y)] => y.natAbs | _ => 0)
      ⟨rfl, a, b, rfl, rfl⟩ ?_ ?_
    · rintro σ H1 ⟨rfl, x, y, rfl, e⟩
      refine ⟨_, rfl, _, rfl, iteB (fun ey => ?_) (fun ey => ?_)⟩
      · have ey : y ≠ 0 := by simpa using ey
        refine ⟨_, rfl, _, rfl, _, rfl, _, _, rfl, rfl, ey, _, _, rfl, ⟨rfl, y, x.fmod y, rfl, ?_⟩, ?_⟩
        · rw [gcd_step]
          exact e
        · exact fmod_small ey
      · have ey : y = 0 := by simpa using ey
        subst ey
        refine ⟨_, rfl, x, rfl, ?_⟩
        have e2 : (if x < 0 then -x else x) = ((Nat.gcd a.natAbs b.natAbs : Nat) : Int) := by
          rw [← e, Int.natAbs_zero, Nat.gcd_zero_right]
          split <;> omega
        rw [e2]
        exact q
    · rintro σ H1 Q1 Q2 hq ⟨v, hv, k, hk, h⟩
      exact ⟨v, hv, k, hk, hq _ _ h⟩
theorem ok_law_frac (T : Top K mg) : FnOk P w K mg base CX0 2 T.f_law_frac T.d_law_frac ["a", "b"] spFrac := by
  refine T.F_law_frac.ok sc_law_frac (fun vs H Q E h => ?_) (fun cdv A outer s H vs Q E hr h => ?_)
  · obtain ⟨n, d, rfl, _⟩ := h
    rfl
  · obtain ⟨n, d, rfl, hd, hs, q⟩ := h
    refine ⟨_, (pss_cons (ps_set (i := 2) sc_law_frac.nd rfl (by first | exact .inl rfl | exact .inr rfl) (pe_call (ok_law_gcd T) (hr.mono (by decide)) (by rfl) T.g_law_gcd T.F_law_gcd.kp T.b_law_gcd .nil pass0 (pa_cons (pv 0) (pa_cons (pv 1) pa_nil))))
      (pss_cons (ps_if (pt_cmpR op_lt (pv 1) pe_int (nomark _)) (pss_one (ps_set (i := 2) sc_law_frac.nd rfl (by first | exact .inl rfl | exact .inr rfl) (pe_un un_neg (pv 2)))) pss_nil)
      (pss_one (ps_ret (pe_tup (pa_cons (pe_op op_fdivZ (pv 0) (pv 2)) (pa_cons (pe_op op_fdivZ (pv 1) (pv 2)) pa_nil))))))), ?_⟩
    refine ⟨_, rfl, _, rfl, n, d, rfl, ?_⟩
    refine ⟨_, rfl, _, _, rfl, rfl, _, rfl, ?_⟩
    have g0 := gs_small (n := n) hd hs
    refine ite2 (fun e => ?_) (fun e => ?_)
    · have e := of_decide_eq_true e
      have eg : gs n d = -((Nat.gcd n.natAbs d.natAbs : Nat) : Int) := by
        unfold gs
        rw [if_pos e]
      have q : NewF H Q (n.fdiv (gs n d), d.fdiv (gs n d)) := q
      rw [eg] at q g0
      refine ⟨_, rfl, _, rfl, ?_⟩
      refine ⟨_, rfl, _, rfl, _, _, rfl, rfl, g0, _, rfl, _, rfl, _, _, rfl, rfl, g0, sl2, fun p hp => ?_⟩
      exact q p _ (same_upd hp) hp upd_same
    · have e : ¬ d < 0 := fun z => e (decide_eq_true z)
      have eg : gs n d = ((Nat.gcd n.natAbs d.natAbs : Nat) : Int) := by
        unfold gs
        rw [if_neg e]
      have q : NewF H Q (n.fdiv (gs n d), d.fdiv (gs n d)) := q
      rw [eg] at q g0
      refine ⟨_, rfl, _, rfl, _, _, rfl, rfl, g0, _, rfl, _, rfl, _, _, rfl, rfl, g0, sl2, fun p hp => ?_⟩
      exact q p _ (same_upd hp) hp upd_same
theorem ok_law_mul (T : Top K mg) : FnOk P w K mg base CX0 3 T.f_law_mul T.d_law_mul ["p", "q"] (spOp2 K okA mulF) := by
  refine T.F_law_mul.ok sc_law_mul (fun vs H Q E h => ?_) (fun cdv A outer s H vs Q E hr h => ?_)
  · obtain ⟨a, b, p, q, rfl, _⟩ := h
    rfl
  · obtain ⟨a, b, p, q, rfl, hp, hq, ⟨m1, m2, m3, m4, n1, n2⟩, k⟩ := h
    refine ⟨_, (pss_one (ps_ret (pe_call (ok_law_frac T) (hr.mono (by decide)) (by rfl) T.g_law_frac T.F_law_frac.kp T.b_law_frac .nil pass0 (pa_cons (pe_op op_mulW (pe_ix ix_tup (pv 0) pe_int (fun _ _ => rfl)) (pe_ix ix_tup (pv 1) pe_int (fun _ _ => rfl))) (pa_cons (pe_op op_mulW (pe_ix ix_tup (pv 0) pe_int (fun _ _ => rfl)) (pe_ix ix_tup (pv 1) pe_int (fun _ _ => rfl))) pa_nil))))), ?_⟩
    refine ⟨_, rfl, a, _, _, _, rfl, rfl, hp, atI_nat (j := 0) rfl, _, rfl, b, _, _, _, rfl, rfl, hq, atI_nat (j := 0) rfl, _, _, rfl, rfl, mid_mul m1 m3, ?_⟩
    refine ⟨_, rfl, a, _, _, _, rfl, rfl, hp, atI_nat (j := 1) rfl, _, rfl, b, _, _, _, rfl, rfl, hq, atI_nat (j := 1) rfl, _, _, rfl, rfl, mid_mul m2 m4, ?_⟩
    exact ⟨_, _, rfl, Int.mul_ne_zero n1 n2, mid_small m2 m4, k⟩
/-! ### the law's cell of the script -/
def cellZ (ns : List Int) (k : Nat) : Int := ns.getD k 0
def spCellZ (K : PySem.W.Frag) : Sp := fun vs H Q _ => ∃ (l : Addr) (ns : List Int) (k : Nat), vs = [.ref l, .int (k : Int)] ∧ SqL K H l (ns.map V.int) ∧ Q (.int (cellZ ns k)) H
theorem ok_law_cell (T : Top K mg) : FnOk P w K mg base CX0 1 T.f_law_cell T.d_law_cell ["script", "k"] (spCellZ K) := by
  refine T.F_law_cell.ok sc_law_cell (fun vs H Q E h => ?_) (fun cdv A outer s H vs Q E hr h => ?_)
  · obtain ⟨l, ns, k, rfl, _⟩ := h
    rfl
  · obtain ⟨l, ns, k, rfl, hS, q⟩ := h
    refine ⟨_, (pss_cons (ps_if (pt_cmpR op_lt (pv 1) (pe_callB call_len_seq (by rfl) T.m_len (by decide +kernel) (pa_cons (pv 0) pa_nil)) (nomark _)) (pss_one (ps_ret (pe_callTy call_int1 (by rfl) T.m_int (by decide +kernel) (pa_cons (pe_ix ix_list (pv 0) (pv 1) (fun _ _ => rfl)) pa_nil)))) pss_nil)
      (pss_one (ps_ret pe_int))), ?_⟩
    refine ⟨_, rfl, _, rfl, l, _, rfl, .inl hS, _, _, rfl, rfl, _, rfl, ?_⟩
    refine ite2 (fun e => ?_) (fun e => ?_)
    · have hk : k < ns.length := by
        have := of_decide_eq_true e
        rw [List.length_map] at this
        omega
      refine ⟨_, rfl, _, rfl, l, _, _, .int ns[k], rfl, rfl, hS, ?_, .inl ⟨_, rfl, ?_⟩⟩
      · refine atI_nat ?_
        rw [List.getElem?_map, List.getElem?_eq_getElem hk]
        rfl
      · have : cellZ ns k = ns[k] := by
          unfold cellZ
          rw [List.getD_eq_getElem?_getD, List.getElem?_eq_getElem hk]
          rfl
        rw [← this]
        exact q
    · have hk : ¬ k < ns.length := fun z => e (by
        refine decide_eq_true ?_
        rw [List.length_map]
        omega)
      have : cellZ ns k = 0 := by
        unfold cellZ
        rw [List.getD_eq_getElem?_getD, List.getElem?_eq_none (by omega)]
        rfl
      show Q (.int 0) H
      rw [← this]
      exact q
/-! ### data that stands in the heap -/
mutual
theorem dp_same {K : PySem.W.Frag} {H H' : Hp} (s : Same H H') : ∀ {v : V} {d : PyData}, Dp K H v d → Dp K H' v d
  | _, _, .non => .non
  | _, _, .bl b => .bl b
  | _, _, .int i => .int i
  | _, _, .str x => .str x
  | _, _, .lst h t => .lst (s.seq h) (dpAll_same s t)
  | _, _, .tup h t => .tup (s.tup h) (dpAll_same s t)
theorem dpAll_same {K : PySem.W.Frag} {H H' : Hp} (s : Same H H') : ∀ {vs : List V} {ds : List PyData}, DpAll K H vs ds → DpAll K H' vs ds
  | _, _, .nil => .nil
  | _, _, .cons h t => .cons (dp_same s h) (dpAll_same s t)
end
theorem dpAll_len {K : PySem.W.Frag} {H : Hp} : ∀ {vs : List V} {ds : List PyData}, DpAll K H vs ds → vs.length = ds.length
  | _, _, .nil => rfl
  | _, _, .cons _ t => congrArg (· + 1) (dpAll_len t)
theorem dpAll_get {K : PySem.W.Frag} {H : Hp} : ∀ {vs : List V} {ds : List PyData} {i : Nat} {v : V}, DpAll K H vs ds → vs[i]? = some v → ∃ d, ds[i]? = some d ∧ d ∈ ds ∧ Dp K H v d
  | _, _, i, v, .nil, h => by simp at h
  | _, d :: ds, 0, v, .cons a t, h => by
    simp only [List.getElem?_cons_zero, Option.some.injEq] at h
    subst h
    exact ⟨d, rfl, List.mem_cons_self, a⟩
  | _, d :: ds, i + 1, v, .cons a t, h => by
    simp only [List.getElem?_cons_succ] at h
    obtain ⟨e, h1, h2, h3⟩ := dpAll_get t h
    exact ⟨e, by simpa using h1, List.mem_cons_of_mem _ h2, h3⟩
theorem dpAll_of {α : Type} {K : PySem.W.Frag} {H : Hp} {f : α → PyData} {R : V → α → Prop} (hR : ∀ v x, R v x → Dp K H v (f x)) : ∀ {vs : List V} {xs : List α}, Paired R vs xs → DpAll K H vs (xs.map f)
  | _, _, .nil => .nil
  | _, _, .cons h t => .cons (hR _ _ h) (dpAll_of hR t)
theorem sqt_ty {K : PySem.W.Frag} {H : Hp} {a : Addr} {xs : List V} (h : SqT K H a xs) : TyX K H (.ref a) (.type "tuple") := by
  rcases h with (h | ⟨o, h⟩) | ⟨o, its, n, h, hc, _⟩
  · exact .base (.tup h)
  · exact .fTuple h
  · exact .kTuple h hc
theorem sql_ty {K : PySem.W.Frag} {H : Hp} {a : Addr} {xs : List V} (h : SqL K H a xs) : TyX K H (.ref a) (.type "list") := by
  rcases h with (h | ⟨o, h⟩) | ⟨o, its, n, h, hc, _⟩
  · exact .base (.lst h)
  · exact .base (.frz h)
  · exact .kList h hc
/-- nested tuples of ints, at most n - 1 deep -/
def tupD : Nat → PyData → Prop
  | 0, _ => False
  | _ + 1, .int _ => True
  | n + 1, .tuple ds => ds.length < 1000000 ∧ ∀ x ∈ ds, tupD n x
  | _ + 1, _ => False
def spTup (K : PySem.W.Frag) (n : Nat) : Sp := fun vs H Q _ => ∃ v d, vs = [v] ∧ Dp K H v d ∧ tupD n d ∧ ∀ H', Same H H' → Q (.bl true) H'
theorem ok_law_tuples (T : Top K mg) : ∀ n, FnOk P w K mg base CX0 (n + 1) T.f_law_tuples T.d_law_tuples ["thing"] (spTup K n)
  | 0 => T.F_law_tuples.ok sc_law_tuples (fun vs H Q E h => by obtain ⟨v, d, _, _, h, _⟩ := h; exact h.elim) (fun cdv A outer s H vs Q E hr h => by obtain ⟨v, d, _, _, h, _⟩ := h; exact h.elim)
  | n + 1 => by
    have ih := ok_law_tuples T n
    refine T.F_law_tuples.ok sc_law_tuples (fun vs H Q E h => ?_) (fun cdv A outer s H vs Q E hr h => ?_)
    · obtain ⟨v, d, rfl, _⟩ := h
      rfl
    · obtain ⟨v, d, rfl, hd, ht, q⟩ := h
      refine ⟨_, (pss_cons (ps_if (pt_val (pe_callB call_isi (by rfl) T.m_isinstance (by decide +kernel) (pa_cons (pv 0) (pa_cons (pe_bltn (v := .ty "tuple") (by rfl) T.m_tuple boot_tuple rfl) pa_nil)))) (pss_one (ps_ret (pe_callB (cr_all rfl) (by rfl) T.m_all (by decide +kernel) (pa_cons (pe_lc (own := [("part", 1)]) (g := gName 1) (tt := tYes) rfl sc_law_tuples.nd (pi_tup (pv 0)) (blkOk_by (own := [("part", 1)]) (N := n_law_tuples) (sc := defScope s_law_tuples) (by decide +kernel)) (fun _ _ _ _ _ => (pg_name (i := 1) sc_law_tuples.nd rfl (by first | exact .inl rfl | exact .inr rfl))) (fun _ _ _ _ _ => pts_nil) (fun _ _ _ _ _ => (pe_call ih hr (by rfl) T.g_law_tuples T.F_law_tuples.kp T.b_law_tuples .nil pass0 (pa_cons (pv 1) pa_nil)))) pa_nil)))) pss_nil)
      (pss_one (ps_ret (pe_and (pe_callB call_isi (by rfl) T.m_isinstance (by decide +kernel) (pa_cons (pv 0) (pa_cons (pe_bltn (v := .ty "int") (by rfl) T.m_int boot_int rfl) pa_nil))) (pe_one (pe_not (pe_callB call_isi (by rfl) T.m_isinstance (by decide +kernel) (pa_cons (pv 0) (pa_cons (pe_bltn (v := .ty "bool") (by rfl) T.m_bool boot_bool rfl) pa_nil))))))))), ?_⟩
      cases d with
      | int i =>
        cases hd
        refine ⟨_, rfl, _, _, _, _, _, rfl, .ty _, .base (.int i), kit_ty (r := false) (by decide +kernel), _, rfl, iteF ?_⟩
        refine ⟨_, rfl, _, _, _, _, _, rfl, .ty _, .base (.int i), kit_ty (r := true) (by decide +kernel), _, rfl, iteT ?_⟩
        exact ⟨_, rfl, _, _, _, _, _, rfl, .ty _, .base (.int i), kit_ty (r := false) (by decide +kernel), _, rfl, q H (Same.refl H)⟩
      | tuple ds =>
        cases hd with
        | @tup a xs _ hx hds =>
        refine ⟨_, rfl, _, _, _, _, _, rfl, .ty _, sqt_ty hx, kit_ty (r := true) (by decide +kernel), _, rfl, iteT ?_⟩
        refine ⟨_, rfl, a, rfl, ⟨_, hx⟩, fun D hD => lc_tup (xs := xs) (fun i H' => Same H H' ∧ H' D = some (.lst ((List.replicate i true).map V.bl)) ∧ i ≤ xs.length) ⟨same_upd hD, upd_same, Nat.zero_le _⟩ (fun i H' _ h => h.1.tup hx) (fun i x H' hi hP => ?_) (fun H' hP => ?_)⟩
        · obtain ⟨s1, hl, hix⟩ := hP
          obtain ⟨d, _, hm, hdx⟩ := dpAll_get hds hi
          have hil : i < xs.length := (List.getElem?_eq_some_iff.mp hi).1
          have hlen := dpAll_len hds
          have hz := ht.1
          refine ⟨rfl, _, rfl, x, d, rfl, dp_same s1 hdx, ht.2 d hm, fun H2 s2 => ⟨_, s2 _ _ hl, ?_, fun b o e => ?_, ?_, hil⟩⟩
          · rw [List.length_map, List.length_replicate]
            exact sl_lt (by omega)
          · rw [upd_ne (ne_of_none e hD)]
            exact s2 _ _ (s1 _ _ e)
          · rw [upd_same, List.replicate_succ', List.map_append]
            rfl
        · obtain ⟨s1, hl, _⟩ := hP
          refine ⟨D, List.replicate xs.length true, rfl, SqL.of hl, ?_⟩
          have e : (List.replicate xs.length true).all id = true := by
            rw [List.all_eq_true]
            intro x hx
            rw [List.eq_of_mem_replicate hx]
            rfl
          rw [e]
          exact q H' s1
      | none => exact ht.elim
      | bool b => exact ht.elim
      | str x => exact ht.elim
      | list x => exact ht.elim
      | dict x => exact ht.elim
theorem pos_lit {z : Int} {n : Nat} (h : z = ((n + 1 : Nat) : Int)) : 0 < z := by omega
def spMix : Sp := fun vs H Q _ => ∃ c k : Int, vs = [.int c, .int k] ∧ ∀ m : Int, 0 ≤ m → Q (.int m) H
theorem ok_law_mix (T : Top K mg) : FnOk P w K mg base CX0 1 T.f_law_mix T.d_law_mix ["cell", "k"] spMix := by
  refine T.F_law_mix.ok sc_law_mix (fun vs H Q E h => ?_) (fun cdv A outer s H vs Q E hr h => ?_)
  · obtain ⟨c, k, rfl, _⟩ := h
    rfl
  · obtain ⟨c, k, rfl, q⟩ := h
    refine ⟨_, (pss_cons (ps_set (i := 2) sc_law_mix.nd rfl (by first | exact .inl rfl | exact .inr rfl) (pe_op op_mod (pe_callTy call_int1 (by rfl) T.m_int (by decide +kernel) (pa_cons (pe_op op_add (pe_op op_add (pe_op op_mul (pv 0) pe_int) (pe_op op_mul (pv 1) pe_int)) pe_int) pa_nil)) pe_int))
      (pss_cons (ps_set (i := 2) sc_law_mix.nd rfl (by first | exact .inl rfl | exact .inr rfl) (pe_op op_mod (pe_callTy call_int1 (by rfl) T.m_int (by decide +kernel) (pa_cons (pe_op op_add (pe_op op_add (pe_op op_mul (pv 2) pe_int) (pe_op op_mul (pv 1) pe_int)) pe_int) pa_nil)) pe_int))
      (pss_one (ps_ret (pe_op op_fdiv (pv 2) pe_int))))), ?_⟩
    refine ⟨_, rfl, _, _, rfl, rfl, .inr ⟨by decide, by decide⟩, _, rfl, _, _, rfl, rfl, .inr ⟨by decide, by decide⟩, _, _, rfl, rfl, _, _, rfl, rfl, .inl ⟨_, rfl, _, _, rfl, rfl, pos_lit rfl, ?_⟩⟩
    refine ⟨_, rfl, _, _, rfl, rfl, .inr ⟨by decide, by decide⟩, _, rfl, _, _, rfl, rfl, .inr ⟨by decide, by decide⟩, _, _, rfl, rfl, _, _, rfl, rfl, .inl ⟨_, rfl, _, _, rfl, rfl, pos_lit rfl, ?_⟩⟩
    refine ⟨_, rfl, _, _, rfl, rfl, ⟨by decide, by decide⟩, q _ ?_⟩
    refine Int.ediv_nonneg (Int.emod_nonneg _ (by decide)) (by decide)
/-- some n numbers from 0 up to below b -/
def spRow (K : PySem.W.Frag) : Sp := fun vs H Q _ => ∃ (c b : Int) (n : Nat), vs = [.int c, .int (n : Int), .int b] ∧ n ≤ 1000 ∧ 0 < b ∧ b < 1000 ∧
  ∀ l H' (rs : List Int), Ext H H' → H l = none → H' l = some (.lst (rs.map V.int)) → rs.length = n → (∀ r ∈ rs, 0 ≤ r ∧ r < b) → Q (.ref l) H'
theorem ok_law_row (T : Top K mg) : FnOk P w K mg base CX0 2 T.f_law_row T.d_law_row ["cell", "count", "bound"] (spRow K) := by
  refine T.F_law_row.ok sc_law_row (fun vs H Q E h => ?_) (fun cdv A outer s H vs Q E hr h => ?_)
  · obtain ⟨c, b, n, rfl, _⟩ := h
    rfl
  · obtain ⟨c, b, n, rfl, hn, hb, hb2, q⟩ := h
    refine ⟨_, (pss_cons (ps_set (i := 3) sc_law_row.nd rfl (by first | exact .inl rfl | exact .inr rfl) (pe_lst pa_nil))
      (pss_cons (ps_set (i := 4) sc_law_row.nd rfl (by first | exact .inl rfl | exact .inr rfl) (pe_callB call_abs (by rfl) T.m_abs (by decide +kernel) (pa_cons (pv 0) pa_nil)))
      (pss_cons (ps_for PassesOwn.never rfl (pi_range1 (by rfl) T.m_range (pa_cons (pv 1) pa_nil)) (pg_name (i := 5) sc_law_row.nd rfl (by first | exact .inl rfl | exact .inr rfl)) (pss_one (ps_if (pt_cmpR op_ge (pe_callB call_abs (by rfl) T.m_abs (by decide +kernel) (pa_cons (pv 0) pa_nil)) pe_int (nomark _)) (pss_cons (ps_expr (pe_bm PySem.F.plainAttrs_list PySem.F.slot_list_append PySem.F.type_list_append mt_append (pv 3) (pa_cons (pe_op op_mod (pe_callTy call_int1 (by rfl) T.m_int (by decide +kernel) (pa_cons (pv 4) pa_nil)) (pv 2)) pa_nil)))
      (pss_one (ps_set (i := 4) sc_law_row.nd rfl (by first | exact .inl rfl | exact .inr rfl) (pe_op op_fdivZ (pv 4) (pv 2))))) (pss_one (ps_expr (pe_bm PySem.F.plainAttrs_list PySem.F.slot_list_append PySem.F.type_list_append mt_append (pv 3) (pa_cons (pe_op op_mod (pe_callTy call_int1 (by rfl) T.m_int (by decide +kernel) (pa_cons (pe_call (ok_law_mix T) (hr.mono (by decide)) (by rfl) T.g_law_mix T.F_law_mix.kp T.b_law_mix .nil pass0 (pa_cons (pv 0) (pa_cons (pv 5) pa_nil))) pa_nil)) (pv 2)) pa_nil)))))))
      (pss_one (ps_ret (pv 3)))))), ?_⟩
    refine ⟨by rw [sizeLine_eq]; simp, fun l hl => ?_⟩
    refine ⟨_, rfl, c, rfl, ?_⟩
    refine ⟨_, rfl, _, rfl, by omega, by omega, for_range (n := n) (fun i σ H1 => (∃ (x : Int) (y : Option V) (rs : List Int), σ = [some (.int c), some (.int (n : Int)), some (.int b), some (.ref l), some (.int x), y] ∧ Ext H H1 ∧ H1 l = some (.lst (rs.map V.int)) ∧ rs.length = i ∧ ∀ r ∈ rs, 0 ≤ r ∧ r < b))
      ⟨_, _, [], rfl, ext_upd hl, upd_same, rfl, fun r m => by simp at m⟩ (fun i σ H1 hi hP => ?_) (fun σ H1 hP => ?_)⟩
    · obtain ⟨x, y, rs, rfl, s1, hl1, hlen, hrs⟩ := hP
      have step : ∀ m : Int, ∃ rs', rs' = rs ++ [m % b] ∧ rs'.length = i + 1 ∧ ∀ r ∈ rs', 0 ≤ r ∧ r < b := fun m => ⟨_, rfl, by rw [List.length_append, hlen]; rfl, fun r hr => by
        rcases List.mem_append.mp hr with hr | hr
        · exact hrs r hr
        · rw [List.mem_singleton.mp hr]
          exact ⟨Int.emod_nonneg _ (by omega), Int.emod_lt_of_pos _ hb⟩⟩
      have cnt : (rs.map V.int).length < sizeLine := sl_lt (by rw [List.length_map]; omega)
      have app : ∀ m : Int, rs.map V.int ++ [V.int (m % b)] = (rs ++ [m % b]).map V.int := fun m => by rw [List.map_append]; rfl
      refine ⟨_, rfl, c, rfl, _, _, rfl, rfl, _, rfl, iteB (fun z => ?_) (fun z => ?_)⟩
      · refine ⟨_, rfl, .inl ⟨rfl, _, SqL.of hl1⟩, _, rfl, .inl ⟨_, rfl, _, rfl, _, _, rfl, rfl, hb, l, _, _, rfl, rfl, hl1, cnt, ?_⟩⟩
        refine ⟨_, rfl, _, rfl, _, _, rfl, rfl, ⟨by omega, ?_⟩, ?_⟩
        · refine Nat.lt_of_lt_of_le (PySem.Flt.log2_lt_of (k := 10) (by decide) ?_) (by decide)
          omega
        · obtain ⟨rs', e1, e2, e3⟩ := step x
          subst e1
          exact ⟨_, _, _, rfl, s1.own hl, by rw [upd_same, app], e2, e3⟩
      · refine ⟨_, rfl, .inl ⟨rfl, _, SqL.of hl1⟩, _, rfl, _, rfl, c, _, rfl, fun m hm => .inl ⟨_, rfl, _, rfl, _, _, rfl, rfl, hb, l, _, _, rfl, rfl, hl1, cnt, ?_⟩⟩
        obtain ⟨rs', e1, e2, e3⟩ := step m
        subst e1
        exact ⟨_, _, _, rfl, s1.own hl, by rw [upd_same, app], e2, e3⟩
    · obtain ⟨x, y, rs, rfl, s1, hl1, hlen, hrs⟩ := hP
      exact ⟨_, rfl, q l H1 rs s1 hl hl1 hlen hrs⟩
/-! ### series in the heap -/
def co (rs : List Rat) : Nat → Rat := fun k => rs.getD k 0
def FrV (K : PySem.W.Frag) (H : Hp) (v : V) (r : Rat) : Prop := ∃ a, v = .ref a ∧ Fr K H a (fq r)
abbrev FrsV (K : PySem.W.Frag) (H : Hp) (vs : List V) (rs : List Rat) : Prop := Paired (FrV K H) vs rs
theorem frs_up {H H' : Hp} (s : Ext H H') {vs : List V} {rs : List Rat} (h : FrsV K H vs rs) : FrsV K H' vs rs := paired_imp (fun _ _ ⟨a, e, g⟩ => ⟨a, e, s.tup g⟩) h
theorem sqt_updL {H : Hp} {a g : Addr} {xs ys : List V} {o : HO} (hg : H g = some (.lst xs)) (h : SqT K H a ys) : SqT K (upd H g o) a ys := by
  rcases h with (h | ⟨o', h⟩) | h
  · exact .inl (.inl (by rw [upd_ne (ne_of h hg (by intro z; cases z))]; exact h))
  · exact .inl (.inr ⟨o', by rw [upd_ne (ne_of h hg (by intro z; cases z))]; exact h⟩)
  · exact .inr h
theorem frs_upd {H : Hp} {D : Addr} {o : HO} {acc ys : List V} {rs : List Rat} (hD : H D = some (.lst acc)) (h : FrsV K H ys rs) : FrsV K (upd H D o) ys rs := paired_imp (fun _ _ ⟨a, e, g⟩ => ⟨a, e, sqt_updL hD g⟩) h
theorem frs_at {H : Hp} {vs : List V} {rs : List Rat} (h : FrsV K H vs rs) {k : Nat} (hk : k < rs.length) : ∃ v, vs[k]? = some v ∧ FrV K H v (co rs k) := by
  have hl := Paired.length h
  have hv : k < vs.length := by omega
  obtain ⟨r, e, g⟩ := paired_at h (List.getElem?_eq_getElem hv)
  refine ⟨_, List.getElem?_eq_getElem hv, ?_⟩
  have : co rs k = r := by
    unfold co
    rw [List.getD_eq_getElem?_getD, e]
    rfl
  rw [this]
  exact g
def LT (K : PySem.W.Frag) (H : Hp) (a : Addr) (xs : List V) : Prop := SqL K H a xs ∨ SqT K H a xs
theorem LT.up {H H' : Hp} (s : Ext H H') {a : Addr} {xs : List V} (h : LT K H a xs) : LT K H' a xs := h.imp s.seq s.tup
theorem ix_any {H : Hp} {a : Addr} {xs : List V} {i : Int} {v : V} {Q : VK} (h : LT K H a xs) (h0 : 0 ≤ i) (hv : xs[i.toNat]? = some v) (q : Q v H) : rIx K (.ref a) (.int i) H Q := by
  have e : atI xs i = some v := by
    have := atI_nat hv
    rwa [Int.toNat_of_nonneg h0] at this
  rcases h with h | h
  · exact .inl ⟨a, xs, i, v, rfl, rfl, h, e, q⟩
  · exact .inr (.inl ⟨a, xs, i, v, rfl, rfl, h, e, q⟩)
theorem okA_of {a b : Rat} (h : Sm a) (k : Sm b) : okA (fq a) (fq b) := ⟨h.1, h.2, k.1, k.2, SM.den_ne a, SM.den_ne b⟩
theorem okD_of {a b : Rat} (h : Sm a) (k : Sm b) (n : b ≠ 0) : okD (fq a) (fq b) := ⟨h.1, h.2, k.1, k.2, SM.den_ne a, SM.num_ne n⟩
theorem sm_nat {k : Nat} (h : k ≤ 1000) : Sm (k : Rat) := SM.sm_of (SM.Iz.nat k) (by decide) (Nat.lt_of_lt_of_le (by decide : 1 < 2 ^ 10) (SM.two_le (by decide))) (Nat.lt_of_lt_of_le (show k < 2 ^ 10 by omega) (SM.two_le (by decide)))
theorem sm_zero : Sm 0 := sm_nat (k := 0) (by decide)
theorem sm_one : Sm 1 := sm_nat (k := 1) (by decide)
/-! ### the pairs of vertices -/
def rowP (n u : Nat) : List (Int × Int) := (List.range (n - (u + 1))).map fun j => ((u : Int), ((u + 1 + j : Nat) : Int))
def prs (n : Nat) : Nat → List (Int × Int)
  | 0 => []
  | i + 1 => prs n i ++ rowP n i
def ltK (x y : Int × Int) : Prop := x.1 < y.1 ∨ (x.1 = y.1 ∧ x.2 < y.2)
theorem mem_row {n u : Nat} {x : Int × Int} (h : x ∈ rowP n u) : x.1 = u ∧ (u : Int) < x.2 ∧ x.2 < n := by
  obtain ⟨j, hj, rfl⟩ := List.mem_map.mp h
  have := List.mem_range.mp hj
  exact ⟨rfl, by show (u : Int) < ((u + 1 + j : Nat) : Int); omega, by show ((u + 1 + j : Nat) : Int) < n; omega⟩
theorem mem_prs {n : Nat} {x : Int × Int} : ∀ {i : Nat}, x ∈ prs n i → 0 ≤ x.1 ∧ x.1 < i ∧ x.1 < x.2 ∧ x.2 < n
  | 0, h => by cases h
  | i + 1, h => by
    rcases List.mem_append.mp h with h | h
    · have := mem_prs h
      omega
    · have := mem_row h
      omega
theorem prs_asc (n : Nat) : ∀ i, (prs n i).Pairwise ltK
  | 0 => .nil
  | i + 1 => by
    refine List.pairwise_append.mpr ⟨prs_asc n i, ?_, fun x hx y hy => ?_⟩
    · unfold rowP
      rw [List.pairwise_map]
      refine (List.pairwise_lt_range (n := n - (i + 1))).imp fun {a b} h => ?_
      refine .inr ⟨rfl, ?_⟩
      show ((i + 1 + a : Nat) : Int) < ((i + 1 + b : Nat) : Int)
      omega
    · have h1 := mem_prs hx
      have h2 := mem_row hy
      exact .inl (by omega)
theorem prs_cnt : ∀ n, n ≤ 7 → 2 * (prs n n).length ≤ n * (n - 1) := by decide
theorem prs_len : ∀ n, n ≤ 7 → (prs n n).length ≤ 21 := by decide
/-- an edge known to be a tuple -/
def EdgeT (H : Hp) (v : V) (e : Eg) : Prop := ∃ a, v = .ref a ∧ H a = some (.tup [.int e.1, .int e.2.1, .int e.2.2])
theorem edges_at {H : Hp} {xs : List V} {es : List Eg} (h : Paired (EdgeT H) xs es) : Paired (EdgeAt K H) xs es := paired_imp (fun _ _ ⟨a, e, h⟩ => ⟨a, e, SqT.of h⟩) h
theorem _root_.EXT.Ext.edgesT {H H' : Hp} (s : Ext H H') {xs : List V} {es : List Eg} (h : Paired (EdgeT H) xs es) : Paired (EdgeT H') xs es := paired_imp (fun _ _ ⟨a, e, h⟩ => ⟨a, e, s.at h⟩) h
theorem edgesT_upd {H : Hp} {D : Addr} {o : HO} {acc : List V} {xs : List V} {es : List Eg} (hD : H D = some (.lst acc)) (h : Paired (EdgeT H) xs es) : Paired (EdgeT (upd H D o)) xs es :=
  paired_imp (fun _ _ ⟨a, e, h⟩ => ⟨a, e, by rw [upd_ne (fun z => by rw [z, hD] at h; cases h)]; exact h⟩) h
/-- pairs known to be tuples -/
def PrT (H : Hp) (v : V) (k : Int × Int) : Prop := ∃ a, v = .ref a ∧ H a = some (.tup [.int k.1, .int k.2])
theorem _root_.EXT.Ext.prs {H H' : Hp} (s : Ext H H') {xs : List V} {ks : List (Int × Int)} (h : Paired (PrT H) xs ks) : Paired (PrT H') xs ks := paired_imp (fun _ _ ⟨a, e, h⟩ => ⟨a, e, s.at h⟩) h
theorem prs_upd {H : Hp} {D : Addr} {o : HO} {acc : List V} {xs : List V} {ks : List (Int × Int)} (hD : H D = some (.lst acc)) (h : Paired (PrT H) xs ks) : Paired (PrT (upd H D o)) xs ks :=
  paired_imp (fun _ _ ⟨a, e, h⟩ => ⟨a, e, by rw [upd_ne (fun z => by rw [z, hD] at h; cases h)]; exact h⟩) h
/-- fields and edges as the law draws them -/
structure Drawn (most : Int) (fs : List Int) (es : List Eg) : Prop where
  one : 1 ≤ fs.length
  most : (fs.length : Int) ≤ most
  small : ∀ f ∈ fs, -2 ≤ f ∧ f ≤ 2
  len : es.length ≤ 21
  ok : ∀ e ∈ es, okE fs.length e
  asc : es.Pairwise ltEg
  cnt : 2 * es.length ≤ fs.length * (fs.length - 1)
theorem coup_at (r : Int) (h0 : 0 ≤ r) (h6 : r < 12) : ∃ c : Int, atI [V.int 1, .int (-1), .int 0, .int 2, .int 1, .int 0, .int (-2), .int 3, .int 0, .int 1, .int (-1), .int 0] r = some (.int c) ∧ -2 ≤ c ∧ c ≤ 3 := by
  have : r = 0 ∨ r = 1 ∨ r = 2 ∨ r = 3 ∨ r = 4 ∨ r = 5 ∨ r = 6 ∨ r = 7 ∨ r = 8 ∨ r = 9 ∨ r = 10 ∨ r = 11 := by omega
  rcases this with rfl | rfl | rfl | rfl | rfl | rfl | rfl | rfl | rfl | rfl | rfl | rfl <;> exact ⟨_, rfl, by decide, by decide⟩
def spSpins (K : PySem.W.Frag) : Sp := fun vs H Q _ => ∃ (a : Addr) (ns : List Int) (first : Nat) (most kind : Int), vs = [.ref a, .int (first : Int), .int most, .int kind] ∧ SqL K H a (ns.map V.int) ∧ 1 ≤ most ∧ most ≤ 7 ∧
  ∀ l H' fb eb fs xs es, Ext H H' → H l = none → H' l = some (.tup [.ref fb, .ref eb]) → H fb = none → H' fb = some (.lst (fs.map V.int)) → H eb = none → H' eb = some (.lst xs) → Paired (EdgeT H') xs es → Drawn most fs es → Q (.ref l) H'
theorem ok_law_spins (T : Top K mg) : FnOk P w K mg base CX0 3 T.f_law_spins T.d_law_spins ["script", "first", "most", "kind"] (spSpins K) := by
  refine T.F_law_spins.ok sc_law_spins (fun vs H Q E h => ?_) (fun cdv A outer s H vs Q E hr h => ?_)
  · obtain ⟨a, ns, first, most, kind, rfl, _⟩ := h
    rfl
  obtain ⟨a, ns, first, most, kind, rfl, hS, hm1, hm7, q⟩ := h
  refine ⟨_, (pss_cons (ps_set (i := 4) sc_law_spins.nd rfl (by first | exact .inl rfl | exact .inr rfl) (pe_op op_add pe_int (pe_op op_mod (pe_call (ok_law_cell T) (hr.mono (by decide)) (by rfl) T.g_law_cell T.F_law_cell.kp T.b_law_cell .nil pass0 (pa_cons (pv 0) (pa_cons (pv 1) pa_nil))) (pv 2))))
      (pss_cons (ps_set (i := 5) sc_law_spins.nd rfl (by first | exact .inl rfl | exact .inr rfl) (pe_op op_rep (pe_lst (pa_cons pe_int pa_nil)) (pv 4)))
      (C8.pss_cut (ps_if (pt_cmpR op_lt (pv 3) pe_int (nomark _)) (pss_one (ps_setLc (i := 5) (own := [("digit", 6)]) (g := gName 6) (tt := tYes) rfl sc_law_spins.nd rfl rfl (sw_true rfl rfl rfl (by decide +kernel)) (pi_list (pe_call (ok_law_row T) (hr.mono (by decide)) (by rfl) T.g_law_row T.F_law_row.kp T.b_law_row .nil pass0 (pa_cons (pe_call (ok_law_cell T) (hr.mono (by decide)) (by rfl) T.g_law_cell T.F_law_cell.kp T.b_law_cell .nil pass0 (pa_cons (pv 0) (pa_cons (pe_op op_add (pv 1) pe_int) pa_nil))) (pa_cons (pv 4) (pa_cons pe_int pa_nil))))) (blkOk_by (own := [("digit", 6)]) (N := n_law_spins) (sc := defScope s_law_spins) (by decide +kernel)) (fun _ _ _ _ _ => (pg_name (i := 6) sc_law_spins.nd rfl (by first | exact .inl rfl | exact .inr rfl))) (fun _ _ _ _ _ => pts_nil) (fun _ _ _ _ _ => (pe_op op_sub (pv 6) pe_int)))) pss_nil)
      (pss_cons (ps_set (i := 7) sc_law_spins.nd rfl (by first | exact .inl rfl | exact .inr rfl) (pe_lst pa_nil))
      (C8.pss_cut (ps_for PassesOwn.never rfl (pi_range1 (by rfl) T.m_range (pa_cons (pv 4) pa_nil)) (pg_name (i := 8) sc_law_spins.nd rfl (by first | exact .inl rfl | exact .inr rfl)) (pss_one (ps_aug (i := 7) sc_law_spins.nd rfl (by first | exact .inl rfl | exact .inr rfl) (pe_lc (own := [("v", 9)]) (g := gName 9) (tt := tYes) rfl sc_law_spins.nd (pi_range2 (by rfl) T.m_range (pa_cons (pe_op op_add (pv 8) pe_int) (pa_cons (pv 4) pa_nil))) (blkOk_by (own := [("v", 9)]) (N := n_law_spins) (sc := defScope s_law_spins) (by decide +kernel)) (fun _ _ _ _ _ => (pg_name (i := 9) sc_law_spins.nd rfl (by first | exact .inl rfl | exact .inr rfl))) (fun _ _ _ _ _ => pts_nil) (fun _ _ _ _ _ => (pe_tup (pa_cons (pv 8) (pa_cons (pv 9) pa_nil))))) iop_ext)))
      (pss_cons (ps_set (i := 10) sc_law_spins.nd rfl (by first | exact .inl rfl | exact .inr rfl) (pe_lst pa_nil))
      (pss_cons (ps_set (i := 11) sc_law_spins.nd rfl (by first | exact .inl rfl | exact .inr rfl) (pe_call (ok_law_row T) (hr.mono (by decide)) (by rfl) T.g_law_row T.F_law_row.kp T.b_law_row .nil pass0 (pa_cons (pe_call (ok_law_cell T) (hr.mono (by decide)) (by rfl) T.g_law_cell T.F_law_cell.kp T.b_law_cell .nil pass0 (pa_cons (pv 0) (pa_cons (pe_op op_add (pv 1) pe_int) pa_nil))) (pa_cons (pe_callB call_len_seq (by rfl) T.m_len (by decide +kernel) (pa_cons (pv 7) pa_nil)) (pa_cons pe_int pa_nil)))))
      (pss_cons (ps_for PassesOwn.never rfl (pi_range1 (by rfl) T.m_range (pa_cons (pe_callB call_len_seq (by rfl) T.m_len (by decide +kernel) (pa_cons (pv 7) pa_nil)) pa_nil)) (pg_name (i := 12) sc_law_spins.nd rfl (by first | exact .inl rfl | exact .inr rfl)) (pss_cons (ps_set (i := 13) sc_law_spins.nd rfl (by first | exact .inl rfl | exact .inr rfl) (pe_ix ix_tup (pe_tup (pa_cons pe_int (pa_cons (pe_un un_neg pe_int) (pa_cons pe_int (pa_cons pe_int (pa_cons pe_int (pa_cons pe_int (pa_cons (pe_un un_neg pe_int) (pa_cons pe_int (pa_cons pe_int (pa_cons pe_int (pa_cons (pe_un un_neg pe_int) (pa_cons pe_int pa_nil))))))))))))) (pe_ix ix_list (pv 11) (pv 12) (fun _ _ => rfl)) (fun _ _ => rfl)))
      (pss_one (ps_if (pt_cmpR op_ne (pv 13) pe_int (nomark _)) (pss_one (ps_expr (pe_bm PySem.F.plainAttrs_list PySem.F.slot_list_append PySem.F.type_list_append mt_append (pv 10) (pa_cons (pe_tup (pa_cons (pe_ix ix_tup (pe_ix ix_list (pv 7) (pv 12) (fun _ _ => rfl)) pe_int (fun _ _ => rfl)) (pa_cons (pe_ix ix_tup (pe_ix ix_list (pv 7) (pv 12) (fun _ _ => rfl)) pe_int (fun _ _ => rfl)) (pa_cons (pe_ifExp (pt_cmpR op_in_seq (pv 3) (pe_tup (pa_cons pe_int (pa_cons pe_int pa_nil))) (by rfl)) (pe_callB call_abs (by rfl) T.m_abs (by decide +kernel) (pa_cons (pv 13) pa_nil)) (pv 13)) pa_nil)))) pa_nil)))) pss_nil))))
      (pss_one (ps_ret (pe_tup (pa_cons (pv 5) (pa_cons (pv 10) pa_nil))))))))))))), ?_⟩
  -- count
  refine ⟨_, rfl, _, rfl, a, ns, first, rfl, hS, _, rfl, _, _, rfl, rfl, (show 0 < most by omega), _, _, rfl, rfl, ?_⟩
  obtain ⟨n, hn, hn7⟩ : ∃ n : Nat, 1 + cellZ ns first % most = ((n + 1 : Nat) : Int) ∧ ((n + 1 : Nat) : Int) ≤ most := by
    have h1 := Int.emod_nonneg (cellZ ns first) (show most ≠ 0 by omega)
    have h2 := Int.emod_lt_of_pos (cellZ ns first) (show 0 < most by omega)
    exact ⟨(cellZ ns first % most).toNat, by omega, by omega⟩
  have hn8 : n ≤ 6 := by omega
  have ec : V.int (1 + cellZ ns first % most) = V.int ((n + 1 : Nat) : Int) := by rw [hn]
  refine ⟨by rw [sizeLine_eq]; simp, fun l0 hl0 => ⟨_, rfl, l0, _, [V.int 0], rfl, rfl, upd_same, by omega, by omega, ?_, fun f0 hf0 => ?_⟩⟩
  · rw [hn, sizeLine_eq]
    show 1 * (((n + 1 : Nat) : Int)).toNat ≤ _
    omega
  have s0 : Ext H (upd (upd H l0 (.lst [V.int 0])) f0 (.lst (List.replicate (1 + cellZ ns first % most).toNat [V.int 0]).flatten)) := (ext_upd hl0).new hf0
  have nf0 : H f0 = none := (ext_upd hl0).free hf0
  have hfl : upd (upd H l0 (.lst [V.int 0])) f0 (.lst (List.replicate (1 + cellZ ns first % most).toNat [V.int 0]).flatten) f0 = some (.lst ((List.replicate (n + 1) (0 : Int)).map V.int)) := by
    rw [upd_same, hn]
    have : ((n + 1 : Nat) : Int).toNat = n + 1 := by omega
    rw [this, List.map_replicate]
    have e : ∀ k, (List.replicate k [V.int 0]).flatten = List.replicate k (V.int 0) := fun k => by
      induction k with
      | zero => rfl
      | succ k ih => rw [List.replicate_succ, List.flatten_cons, ih, List.replicate_succ]; rfl
    rw [e]
  generalize upd (upd H l0 (.lst [V.int 0])) f0 (.lst (List.replicate (1 + cellZ ns first % most).toNat [V.int 0]).flatten) = H1 at *
  refine ⟨fun σ H2 => ∃ (fb : Addr) (fs : List Int), σ = [some (.ref a), some (.int (first : Int)), some (.int most), some (.int kind), some (.int ((n + 1 : Nat) : Int)), some (.ref fb), none, none, none, none, none, none, none, none] ∧ Ext H H2 ∧ H fb = none ∧ H2 fb = some (.lst (fs.map V.int)) ∧ fs.length = n + 1 ∧ ∀ f ∈ fs, -2 ≤ f ∧ f ≤ 2, ?_, ?_⟩
  · refine ⟨_, rfl, _, _, rfl, rfl, _, rfl, ite2 (fun _ => ?_) (fun _ => ?_)⟩
    · refine ⟨_, rfl, _, rfl, _, _, rfl, rfl, a, ns, first + 1, rfl, s0.seq hS, _, rfl, cellZ ns (first + 1), 5, n + 1, by rw [← ec]; rfl, by omega, by decide, by decide, fun l H2 rs s2 nl hl lrs hrs => ?_⟩
      have s02 := s0.trans s2
      refine ⟨l, rfl, ⟨_, SqL.of hl⟩, fun D hD => lc_list (xs := rs.map V.int) (fun i H3 => Ext H2 H3 ∧ H3 D = some (.lst (((rs.take i).map fun r => r - 2).map V.int))) ⟨ext_upd hD, upd_same⟩ (fun i H3 _ h => SqL.of (h.1.lst hl)) (fun i x H3 hi hP => ?_) (fun H3 hP => ?_)⟩
      · obtain ⟨s3, hz⟩ := hP
        rw [List.getElem?_map] at hi
        cases hr2 : rs[i]? with
        | none => rw [hr2] at hi; cases hi
        | some r =>
          rw [hr2] at hi
          cases hi
          refine ⟨rfl, _, rfl, _, _, rfl, rfl, _, hz, ?_, s3.own hD, ?_⟩
          · rw [List.length_map, List.length_map, List.length_take]
            exact sl_lt (by omega)
          · rw [upd_same, take_snoc hr2, List.map_append, List.map_append]
            rfl
      · obtain ⟨s3, hz⟩ := hP
        rw [List.length_map, List.take_length] at hz
        refine ⟨D, rs.map fun r => r - 2, ?_, s02.trans s3, s02.free hD, hz, by rw [List.length_map]; exact lrs, fun f m => ?_⟩
        · rw [← ec]
          rfl
        · obtain ⟨r, hr3, rfl⟩ := List.mem_map.mp m
          have := hrs r hr3
          omega
    · refine ⟨f0, List.replicate (n + 1) 0, ?_, s0, nf0, hfl, List.length_replicate, fun f m => ?_⟩
      · rw [← ec]
        rfl
      · rw [List.eq_of_mem_replicate m]
        decide
  rintro σ H2 ⟨fb, fs, rfl, s2, nfb, hfb, lfs, sfs⟩
  -- pairs
  refine ⟨by rw [sizeLine_eq]; simp, fun pl hpl => ?_⟩
  have npl : H pl = none := s2.free hpl
  refine ⟨fun σ H3 => ∃ (u : Option V) (xs : List V), σ = [some (.ref a), some (.int (first : Int)), some (.int most), some (.int kind), some (.int ((n + 1 : Nat) : Int)), some (.ref fb), none, some (.ref pl), u, none, none, none, none, none] ∧ Ext H2 H3 ∧ H3 pl = some (.lst xs) ∧ Paired (PrT H3) xs (prs (n + 1) (n + 1)), ?_, ?_⟩
  · refine ⟨_, rfl, _, rfl, by omega, by omega, for_range (n := n + 1) (fun i σ H3 => ∃ (u : Option V) (xs : List V), σ = [some (.ref a), some (.int (first : Int)), some (.int most), some (.int kind), some (.int ((n + 1 : Nat) : Int)), some (.ref fb), none, some (.ref pl), u, none, none, none, none, none] ∧ Ext H2 H3 ∧ H3 pl = some (.lst xs) ∧ Paired (PrT H3) xs (prs (n + 1) i) ∧ xs.length ≤ 7 * i)
      ⟨_, [], rfl, ext_upd hpl, upd_same, .nil, Nat.zero_le _⟩ (fun i σ H3 hi hP => ?_) (fun σ H3 hP => ?_)⟩
    · obtain ⟨u, xs, rfl, s3, hxs, hpr, lxs⟩ := hP
      have rl : (rowP (n + 1) i).length ≤ 6 := by
        unfold rowP
        rw [List.length_map, List.length_range]
        omega
      refine ⟨_, rfl, _, rfl, _, _, rfl, rfl, _, rfl, _, _, rfl, ⟨by omega, by omega, by omega, by omega⟩, fun D hD => lc_range (lo := 0 + (i : Int) + 1) (n := (((n + 1 : Nat) : Int) - (0 + (i : Int) + 1)).toNat) (fun j H4 => Ext H3 H4 ∧ ∃ ys, H4 D = some (.lst ys) ∧ Paired (PrT H4) ys ((rowP (n + 1) i).take j)) ⟨ext_upd hD, [], upd_same, .nil⟩ (fun j H4 hj hP => ?_) (fun H4 hP => ?_)⟩
      · obtain ⟨s4, ys, hys, hp4⟩ := hP
        have hj : j < n + 1 - (i + 1) := by omega
        have hg : (rowP (n + 1) i)[j]? = some (0 + (i : Int), 0 + (i : Int) + 1 + (j : Int)) := by
          unfold rowP
          rw [List.getElem?_map, List.getElem?_range hj]
          show some ((i : Int), ((i + 1 + j : Nat) : Int)) = _
          congr 1
          refine Prod.ext ?_ ?_
          · show (i : Int) = 0 + i
            omega
          · show ((i + 1 + j : Nat) : Int) = 0 + (i : Int) + 1 + j
            omega
        refine ⟨rfl, _, rfl, _, rfl, sl2, fun p hp => ?_⟩
        have hys2 := (ext_upd (o := .tup [V.int (0 + (i : Int)), .int (0 + (i : Int) + 1 + (j : Int))]) hp).lst hys
        refine ⟨ys, hys2, ?_, (s4.new hp).own hD, ys ++ [.ref p], upd_same, ?_⟩
        · have l4 := hp4.length
          rw [List.length_take] at l4
          exact sl_lt (by omega)
        · rw [take_snoc hg]
          exact prs_upd hys2 (paired_snoc ((ext_upd hp).prs hp4) ⟨p, rfl, upd_same⟩)
      · obtain ⟨s4, ys, hys, hp4⟩ := hP
        have el : (((n + 1 : Nat) : Int) - (0 + (i : Int) + 1)).toNat = (rowP (n + 1) i).length := by
          unfold rowP
          rw [List.length_map, List.length_range]
          omega
        rw [el, List.take_length] at hp4
        have hx4 := s4.lst hxs
        have npl2 : H2 pl = none := hpl
        refine ⟨pl, D, xs, ys, rfl, rfl, hx4, hys, ?_, ?_⟩
        · have := hp4.length
          exact sl_of (by omega)
        · refine ⟨_, _, rfl, (s3.trans s4).own npl2, upd_same, ?_, ?_⟩
          · exact prs_upd hx4 (paired_app (s4.prs hpr) hp4)
          · have := hp4.length
            rw [List.length_append]
            omega
    · obtain ⟨u, xs, rfl, s3, hxs, hpr, _⟩ := hP
      exact ⟨u, xs, rfl, s3, hxs, hpr⟩
  rintro σ H3 ⟨u, ps, rfl, s3, hps, hpr⟩
  -- edges, digits
  have lp := hpr.length
  have lp21 : (prs (n + 1) (n + 1)).length ≤ 21 := prs_len (n + 1) (by omega)
  have s03 := s2.trans s3
  have nfb3 : H3 fb = some (.lst (fs.map V.int)) := s3.lst hfb
  refine ⟨by rw [sizeLine_eq]; simp, fun e0 he0 => ?_⟩
  have ne0 : H e0 = none := s03.free he0
  have x4 : Ext H3 (upd H3 e0 (.lst [])) := ext_upd he0
  have he1 : upd H3 e0 (.lst []) e0 = some (.lst []) := upd_same
  generalize upd H3 e0 (.lst []) = H4 at *
  have s04 := s03.trans x4
  refine ⟨_, rfl, _, rfl, _, _, rfl, rfl, a, ns, first + 2, rfl, s04.seq hS, _, rfl, pl, _, rfl, .inl (SqL.of (x4.lst hps)), cellZ ns (first + 2), 12, ps.length, rfl, by omega, by decide, by decide, fun dl H5 rs s5 nd hd ld hrs => ?_⟩
  have s05 := s04.trans s5
  have x5 := x4.trans s5
  have n1 : fb ≠ e0 := ne_of_none nfb3 he0
  have n2 : pl ≠ e0 := ne_of_none hps he0
  have n3 : dl ≠ e0 := (ne_of_none he1 nd).symm
  refine ⟨_, rfl, pl, _, rfl, .inl (SqL.of (x5.lst hps)), _, rfl, by omega, by omega, for_range (n := ps.length) (fun k σ H6 => ∃ (w1 w2 : Option V) (xs : List V) (es : List Eg), σ = [some (.ref a), some (.int (first : Int)), some (.int most), some (.int kind), some (.int ((n + 1 : Nat) : Int)), some (.ref fb), none, some (.ref pl), u, none, some (.ref e0), some (.ref dl), w1, w2] ∧ Ext H H6 ∧
      H6 fb = some (.lst (fs.map V.int)) ∧ H6 pl = some (.lst ps) ∧ Paired (PrT H6) ps (prs (n + 1) (n + 1)) ∧ H6 dl = some (.lst (rs.map V.int)) ∧ H6 e0 = some (.lst xs) ∧ Paired (EdgeT H6) xs es ∧ (es.map fun e => (e.1, e.2.1)).Sublist ((prs (n + 1) (n + 1)).take k) ∧ ∀ e ∈ es, e.2.2 ≠ 0 ∧ -9 ≤ e.2.2 ∧ e.2.2 ≤ 9)
    ⟨_, _, [], [], rfl, s05, x5.lst nfb3, x5.lst hps, x5.prs hpr, hd, s5.lst he1, .nil, List.nil_sublist _, fun e m => by simp at m⟩ (fun k σ H6 hk hP => ?_) (fun σ H6 hP => ?_)⟩
  · obtain ⟨w1, w2, xs, es, rfl, s6, f6, p6, pr6, d6, e6, ee6, sub, good⟩ := hP
    have hkp : k < ps.length := by
      have : (k : Int) < ps.length := by omega
      omega
    obtain ⟨pk, hpk⟩ : ∃ v, ps[k]? = some v := ⟨_, List.getElem?_eq_getElem hkp⟩
    obtain ⟨⟨pu, pw⟩, hprk, pa, rfl, hpa⟩ := paired_at pr6 hpk
    obtain ⟨r, hrk⟩ : ∃ r, rs[k]? = some r := ⟨_, List.getElem?_eq_getElem (by omega)⟩
    have hr12 := hrs r (List.mem_of_getElem? hrk)
    obtain ⟨c, hc, hc3⟩ := coup_at r hr12.1 hr12.2
    have lxs : xs.length ≤ 21 := by
      have h1 := ee6.length
      have h2 := sub.length_le
      rw [List.length_map, List.length_take] at h2
      omega
    have atk : ∀ {α : Type} {zs : List α} {z : α}, zs[k]? = some z → atI zs (0 + (k : Int)) = some z := fun h => by
      rw [Int.zero_add]
      exact atI_nat h
    refine ⟨_, rfl, _, rfl, _, rfl, by rw [sizeLine_eq]; simp, fun tp htp => ?_⟩
    have y1 := ext_upd (o := .tup [V.int 1, .int (-1), .int 0, .int 2, .int 1, .int 0, .int (-2), .int 3, .int 0, .int 1, .int (-1), .int 0]) htp
    refine ⟨_, rfl, _, rfl, dl, rs.map V.int, _, .int r, rfl, rfl, SqL.of (y1.lst d6), atk (by rw [List.getElem?_map, hrk]; rfl), tp, _, r, .int c, rfl, rfl, SqT.of upd_same, hc, ?_⟩
    generalize upd H6 tp (.tup [V.int 1, .int (-1), .int 0, .int 2, .int 1, .int 0, .int (-2), .int 3, .int 0, .int 1, .int (-1), .int 0]) = H7 at *
    have subk : (es.map fun e => (e.1, e.2.1)).Sublist ((prs (n + 1) (n + 1)).take (k + 1)) := by
      rw [take_snoc hprk]
      exact sub.trans (List.sublist_append_left _ _)
    refine ⟨_, rfl, rfl, _, rfl, iteB (fun z => ?_) (fun z => ?_)⟩
    · have cz : c ≠ 0 := fun w => by
        rw [w] at z
        cases z
      refine ⟨_, rfl, .inl ⟨rfl, _, SqL.of (y1.lst e6)⟩, _, rfl, _, rfl, pl, ps, _, _, rfl, rfl, SqL.of (y1.lst p6), atk hpk, pa, _, 0, _, rfl, rfl, SqT.of (y1.at hpa), atI_nat (j := 0) rfl,
        _, rfl, _, rfl, pl, ps, _, _, rfl, rfl, SqL.of (y1.lst p6), atk hpk, pa, _, 1, _, rfl, rfl, SqT.of (y1.at hpa), atI_nat (j := 1) rfl, _, rfl, sl2, fun q1 hq1 => ?_⟩
      have y2 := y1.trans (ext_upd (o := .tup [V.int 1, .int 3]) hq1)
      refine ⟨q1, _, rfl, .inr (SqT.of upd_same), rfl, rfl, _, rfl, ?_⟩
      generalize upd H7 q1 (.tup [V.int 1, .int 3]) = H8 at *
      have key : ∀ c' : Int, c' ≠ 0 → -9 ≤ c' → c' ≤ 9 → ∀ p3, H8 p3 = none → Ext H6 (upd H8 p3 (.tup [.int pu, .int pw, .int c'])) ∧ (∀ e ∈ es ++ [(pu, pw, c')], e.2.2 ≠ 0 ∧ -9 ≤ e.2.2 ∧ e.2.2 ≤ 9) ∧ ((es ++ [(pu, pw, c')]).map fun e => (e.1, e.2.1)).Sublist ((prs (n + 1) (n + 1)).take (k + 1)) := fun c' h1 h2 h3 p3 hp3 => by
        refine ⟨y2.new hp3, fun e m => ?_, ?_⟩
        · rcases List.mem_append.mp m with m | m
          · exact good e m
          · rw [List.mem_singleton.mp m]
            exact ⟨h1, h2, h3⟩
        · rw [take_snoc hprk, List.map_append]
          exact sub.append (List.Sublist.refl _)
      refine iteB (fun _ => ?_) (fun _ => ?_)
      · refine ⟨_, rfl, c, rfl, by rw [sizeLine_eq]; simp, fun p3 hp3 => ?_⟩
        obtain ⟨y3, g3, sb3⟩ := key (if c < 0 then -c else c) (by split <;> omega) (by split <;> omega) (by split <;> omega) p3 hp3
        have ee := y3.lst e6
        refine ⟨e0, xs, .ref p3, rfl, rfl, ee, sl_lt (by omega), _, _, xs ++ [.ref p3], _, rfl, (s6.trans y3).own ne0, ?_, ?_, ?_, ?_, upd_same, edgesT_upd ee (paired_snoc (y3.edgesT ee6) ⟨p3, rfl, upd_same⟩), sb3, g3⟩
        · rw [upd_ne n1]
          exact y3.lst f6
        · rw [upd_ne n2]
          exact y3.lst p6
        · exact prs_upd ee (y3.prs pr6)
        · rw [upd_ne n3]
          exact y3.lst d6
      · refine ⟨_, rfl, by rw [sizeLine_eq]; simp, fun p3 hp3 => ?_⟩
        obtain ⟨y3, g3, sb3⟩ := key c cz (by omega) (by omega) p3 hp3
        have ee := y3.lst e6
        refine ⟨e0, xs, .ref p3, rfl, rfl, ee, sl_lt (by omega), _, _, xs ++ [.ref p3], _, rfl, (s6.trans y3).own ne0, ?_, ?_, ?_, ?_, upd_same, edgesT_upd ee (paired_snoc (y3.edgesT ee6) ⟨p3, rfl, upd_same⟩), sb3, g3⟩
        · rw [upd_ne n1]
          exact y3.lst f6
        · rw [upd_ne n2]
          exact y3.lst p6
        · exact prs_upd ee (y3.prs pr6)
        · rw [upd_ne n3]
          exact y3.lst d6
    · exact ⟨_, _, xs, es, rfl, s6.trans y1, y1.lst f6, y1.lst p6, y1.prs pr6, y1.lst d6, y1.lst e6, y1.edgesT ee6, subk, good⟩
  · obtain ⟨w1, w2, xs, es, rfl, s6, f6, p6, pr6, d6, e6, ee6, sub, good⟩ := hP
    rw [lp, List.take_length] at sub
    refine ⟨_, rfl, _, rfl, sl2, fun l hl => ?_⟩
    have y1 := ext_upd (o := .tup [V.ref fb, .ref e0]) hl
    refine q l _ fb e0 fs xs es (s6.new hl) (s6.free hl) upd_same nfb (y1.lst f6) ne0 (y1.lst e6) (y1.edgesT ee6) ⟨by omega, by rw [lfs]; exact hn7, sfs, ?_, fun e m => ?_, ?_, ?_⟩
    · have h2 := sub.length_le
      rw [List.length_map] at h2
      omega
    · have h1 := mem_prs (sub.subset (List.mem_map.mpr ⟨e, m, rfl⟩))
      obtain ⟨g1, g2, g3⟩ := good e m
      rw [lfs]
      exact ⟨h1.1, h1.2.2.1, h1.2.2.2, g1, g2, g3⟩
    · have h1 := (prs_asc (n + 1) (n + 1)).sublist sub
      rw [List.pairwise_map] at h1
      exact h1
    · have h2 := sub.length_le
      rw [List.length_map] at h2
      rw [lfs]
      exact Nat.le_trans (Nat.mul_le_mul_left 2 h2) (prs_cnt (n + 1) (by omega))
/-! states, costs, sums: the mathematics -/
def states : Nat → List (List Int)
  | 0 => [[]]
  | n + 1 => (states n).flatMap fun s => [s ++ [0], s ++ [1]]
def bits (st : List Int) : Prop := ∀ b ∈ st, b = 0 ∨ b = 1
theorem states_ok : ∀ (n : Nat), ∀ st ∈ states n, st.length = n ∧ bits st
  | 0, st, m => by
    rw [List.mem_singleton.mp m]
    exact ⟨rfl, fun b z => by cases z⟩
  | n + 1, st, m => by
    obtain ⟨s, hs, m⟩ := List.mem_flatMap.mp m
    obtain ⟨h1, h2⟩ := states_ok n s hs
    have key : ∀ x : Int, (x = 0 ∨ x = 1) → (s ++ [x]).length = n + 1 ∧ bits (s ++ [x]) := fun x hx => ⟨by rw [List.length_append, h1]; rfl, fun b z => by
      rcases List.mem_append.mp z with z | z
      · exact h2 b z
      · rw [List.mem_singleton.mp z]
        exact hx⟩
    simp only [List.mem_cons, List.not_mem_nil, or_false] at m
    rcases m with rfl | rfl
    · exact key 0 (.inl rfl)
    · exact key 1 (.inr rfl)
theorem length_states : ∀ n, (states n).length = 2 ^ n
  | 0 => rfl
  | n + 1 => by
    have : ∀ l : List (List Int), (l.flatMap fun s => [s ++ [0], s ++ [1]]).length = 2 * l.length := fun l => by
      induction l with
      | nil => rfl
      | cons s l ih =>
        rw [List.flatMap_cons, List.length_append, ih]
        simp only [List.length_cons, List.length_nil]
        omega
    rw [states, this, length_states n, Nat.pow_succ]
    omega
theorem states_add (n : Nat) : ∀ m, states (n + m) = (states n).flatMap fun s => (states m).map fun t => s ++ t
  | 0 => by
    have : ∀ l : List (List Int), (l.flatMap fun s => [s ++ []]) = l := fun l => by
      induction l with
      | nil => rfl
      | cons s l ih => rw [List.flatMap_cons, ih, List.append_nil]; rfl
    exact (this _).symm
  | m + 1 => by
    show (states (n + m)).flatMap _ = _
    rw [states_add n m, List.flatMap_assoc]
    congr 1
    funext s
    show _ = ((states m).flatMap fun t => [t ++ [0], t ++ [1]]).map _
    rw [List.map_flatMap, List.flatMap_map]
    congr 1
    funext t
    simp only [List.map_cons, List.map_nil, List.append_assoc]
def atS (st : List Int) (i : Int) : Int := st.getD i.toNat 0
def edgeC (es : List Eg) (st : List Int) : Int := ((es.filter fun e => decide (atS st e.1 ≠ atS st e.2.1)).map fun e => e.2.2).sum
def fieldC (fs st : List Int) : Int := (((fs.zip st).filter fun p => decide (p.2 = 1)).map fun p => p.1).sum
def costZ (fs : List Int) (es : List Eg) (st : List Int) : Int := edgeC es st + fieldC fs st
def termS (fs : List Int) (es : List Eg) (st : List Int) : Trm := ((costZ fs es st, st.sum), 1)
def zraw (fs : List Int) (es : List Eg) : List Trm := (states fs.length).map (termS fs es)
def shiftE (n : Int) (es : List Eg) : List Eg := es.map fun e => (e.1 + n, e.2.1 + n, e.2.2)
theorem atS_left {s t : List Int} {i : Int} (h0 : 0 ≤ i) (h1 : i < s.length) : atS (s ++ t) i = atS s i := by
  unfold atS
  rw [List.getD_eq_getElem?_getD, List.getD_eq_getElem?_getD, List.getElem?_append_left (by omega)]
theorem atS_right {s t : List Int} {i : Int} (h0 : 0 ≤ i) : atS (s ++ t) (i + s.length) = atS t i := by
  unfold atS
  rw [List.getD_eq_getElem?_getD, List.getD_eq_getElem?_getD, List.getElem?_append_right (by omega)]
  congr 2
  omega
theorem edgeC_left {es : List Eg} {s t : List Int} (h : ∀ e ∈ es, okE s.length e) : edgeC es (s ++ t) = edgeC es s := by
  unfold edgeC
  congr 2
  refine List.filter_congr fun e m => ?_
  obtain ⟨h1, h2, h3, _⟩ := h e m
  rw [atS_left h1 (by omega), atS_left (by omega) h3]
theorem edgeC_right {es : List Eg} {s t : List Int} {n : Int} (h : ∀ e ∈ es, okE n e) : edgeC (shiftE s.length es) (s ++ t) = edgeC es t := by
  unfold edgeC shiftE
  rw [List.filter_map, List.map_map]
  congr 1
  have : es.filter ((fun e : Eg => decide (atS (s ++ t) e.1 ≠ atS (s ++ t) e.2.1)) ∘ fun e => (e.1 + s.length, e.2.1 + s.length, e.2.2)) = es.filter fun e => decide (atS t e.1 ≠ atS t e.2.1) := by
    refine List.filter_congr fun e m => ?_
    obtain ⟨h1, h2, h3, _⟩ := h e m
    show decide (atS (s ++ t) (e.1 + s.length) ≠ atS (s ++ t) (e.2.1 + s.length)) = _
    rw [atS_right h1, atS_right (by omega)]
  rw [this]
  rfl
theorem costZ_app {fs ms s t : List Int} {es ls : List Eg} {n : Int} (hs : s.length = fs.length) (he : ∀ e ∈ es, okE fs.length e) (hl : ∀ e ∈ ls, okE n e) :
    costZ (fs ++ ms) (es ++ shiftE fs.length ls) (s ++ t) = costZ fs es s + costZ ms ls t := by
  have h1 : edgeC (es ++ shiftE fs.length ls) (s ++ t) = edgeC es s + edgeC ls t := by
    rw [← edgeC_left (es := es) (s := s) (t := t) (fun e m => by rw [hs]; exact he e m), ← edgeC_right (es := ls) (s := s) (t := t) hl, hs]
    unfold edgeC
    rw [List.filter_append, List.map_append, List.sum_append]
  have h2 : fieldC (fs ++ ms) (s ++ t) = fieldC fs s + fieldC ms t := by
    unfold fieldC
    rw [List.zip_append hs.symm, List.filter_append, List.map_append, List.sum_append]
  unfold costZ
  omega
theorem fm_congr {α β : Type} {f g : α → List β} : ∀ {l : List α}, (∀ x ∈ l, f x = g x) → l.flatMap f = l.flatMap g
  | [], _ => rfl
  | x :: l, h => by rw [List.flatMap_cons, List.flatMap_cons, h x List.mem_cons_self, fm_congr fun y m => h y (List.mem_cons_of_mem _ m)]
theorem zraw_app {fs ms : List Int} {es ls : List Eg} (he : ∀ e ∈ es, okE fs.length e) (hl : ∀ e ∈ ls, okE ms.length e) :
    zraw (fs ++ ms) (es ++ shiftE fs.length ls) = mulT (zraw fs es) (zraw ms ls) := by
  unfold zraw mulT
  rw [List.length_append, states_add, List.map_flatMap, List.flatMap_map]
  refine fm_congr fun s hs => ?_
  rw [List.map_map, List.map_map]
  refine List.map_congr_left fun t ht => ?_
  show termS _ _ (s ++ t) = (addE _ _, 1 * 1)
  unfold termS addE
  rw [costZ_app ((states_ok _ s hs).1) he hl, List.sum_append]
  rfl
theorem z_mul {fs ms : List Int} {es ls : List Eg} (he : ∀ e ∈ es, okE fs.length e) (hl : ∀ e ∈ ls, okE ms.length e) :
    canon (zraw (fs ++ ms) (es ++ shiftE fs.length ls)) = canon (mulT (canon (zraw fs es)) (canon (zraw ms ls))) := by
  rw [zraw_app he hl]
  exact PM.canon_congr (PM.Eqv.mul (PM.eqv_canon _).symm (PM.eqv_canon _).symm)
theorem length_zraw (fs : List Int) (es : List Eg) : (zraw fs es).length = 2 ^ fs.length := by
  unfold zraw
  rw [List.length_map, length_states]
/-- fields times spins -/
def dotC : List Int → List Int → Int
  | f :: fs, s :: st => f * s + dotC fs st
  | _, _ => 0
theorem dot_field : ∀ {fs st : List Int}, bits st → dotC fs st = fieldC fs st
  | [], st, _ => by unfold dotC fieldC; rfl
  | f :: fs, [], _ => by unfold dotC fieldC; rfl
  | f :: fs, s :: st, h => by
    have ih := dot_field (fs := fs) (st := st) fun b m => h b (List.mem_cons_of_mem _ m)
    have hs := h s List.mem_cons_self
    unfold fieldC at *
    rw [dotC, ih, List.zip_cons_cons, List.filter_cons]
    rcases hs with rfl | rfl
    · simp
    · simp
theorem dot_snoc {fs st : List Int} {f s : Int} : ∀ {k : Nat}, fs[k]? = some f → st[k]? = some s → dotC (fs.take (k + 1)) (st.take (k + 1)) = dotC (fs.take k) (st.take k) + f * s := by
  intro k
  induction k generalizing fs st with
  | zero =>
    intro h1 h2
    cases fs with
    | nil => simp at h1
    | cons a fs =>
      cases st with
      | nil => simp at h2
      | cons b st =>
        simp only [List.getElem?_cons_zero, Option.some.injEq] at h1 h2
        subst h1
        subst h2
        simp [dotC]
  | succ k ih =>
    intro h1 h2
    cases fs with
    | nil => simp at h1
    | cons a fs =>
      cases st with
      | nil => simp at h2
      | cons b st =>
        simp only [List.getElem?_cons_succ] at h1 h2
        have := ih h1 h2
        simp only [List.take_succ_cons, dotC, this]
        omega
theorem sum_bound {c : Int} : ∀ {l : List Int}, (∀ x ∈ l, -c ≤ x ∧ x ≤ c) → -(c * l.length) ≤ l.sum ∧ l.sum ≤ c * l.length
  | [], _ => by simp
  | x :: l, h => by
    obtain ⟨h1, h2⟩ := sum_bound (l := l) fun y m => h y (List.mem_cons_of_mem _ m)
    obtain ⟨h3, h4⟩ := h x List.mem_cons_self
    rw [List.sum_cons, List.length_cons]
    have : c * ((l.length + 1 : Nat) : Int) = c * l.length + c := by
      rw [Int.natCast_add, Int.mul_add]
      simp
    omega
theorem sumV_ints : ∀ l : List Int, sumV (l.map V.int) = l.sum
  | [] => rfl
  | x :: l => by
    rw [List.map_cons, List.sum_cons, ← sumV_ints l]
    rfl
/-- spins at p -/
structure SpAt (T : Top K mg) (H : Hp) (p : Addr) (fs : List Int) (es : List Eg) : Prop where
  gf : goodF fs
  ge : goodE fs.length es
  ex : ∃ dx fb eb ys, H p = some (.ins T.C_Spins dx [("fields", .ref fb), ("edges", .ref eb)]) ∧ SqT K H fb (fs.map V.int) ∧ SqT K H eb ys ∧ Paired (EdgeAt K H) ys es
theorem SpAt.up {T : Top K mg} {H H' : Hp} {p : Addr} {fs : List Int} {es : List Eg} (h : SpAt T H p fs es) (s : Ext H H') : SpAt T H' p fs es := by
  obtain ⟨g1, g2, dx, fb, eb, ys, h1, h2, h3, h4⟩ := h
  exact ⟨g1, g2, dx, fb, eb, ys, s.keep p _ h1 (fun _ z => by cases z), s.tup h2, s.tup h3, s.edges h4⟩
/-- a state -/
def StAt (K : PySem.W.Frag) (H : Hp) (v : V) (st : List Int) : Prop := ∃ a, v = .ref a ∧ SqT K H a (st.map V.int)
theorem _root_.EXT.Ext.sts {H H' : Hp} (s : Ext H H') {xs : List V} {l : List (List Int)} (h : Paired (StAt K H) xs l) : Paired (StAt K H') xs l := paired_imp (fun _ _ ⟨a, e, h⟩ => ⟨a, e, s.tup h⟩) h
theorem sqt_lst {H : Hp} {p a : Addr} {acc xs : List V} {o : HO} (hp : H p = some (.lst acc)) (h : SqT K H a xs) : SqT K (upd H p o) a xs := by
  rcases h with (h | ⟨o', h⟩) | h
  · exact .inl (.inl (by rw [upd_ne (fun z => by rw [z, hp] at h; cases h)]; exact h))
  · exact .inl (.inr ⟨o', by rw [upd_ne (fun z => by rw [z, hp] at h; cases h)]; exact h⟩)
  · exact .inr h
theorem sts_lst {H : Hp} {p : Addr} {acc xs : List V} {l : List (List Int)} {o : HO} (hp : H p = some (.lst acc)) (h : Paired (StAt K H) xs l) : Paired (StAt K (upd H p o)) xs l := paired_imp (fun _ _ ⟨a, e, h⟩ => ⟨a, e, sqt_lst hp h⟩) h
def two (s : List Int) : List (List Int) := [s ++ [0], s ++ [1]]
theorem pow8 {n : Nat} (h : n ≤ 8) : 2 ^ n ≤ 256 := Nat.le_trans (Nat.pow_le_pow_right (by decide) h) (by decide)
/-- s + (b,) as a state -/
theorem st_cat {H : Hp} {Q : VK} {a b : Addr} {s : List Int} {z : Int} (h1 : SqT K H a (s.map V.int)) (h2 : H b = some (.tup [V.int z])) (hl : s.length ≤ 100)
    (q : ∀ v H', Ext H H' → (∀ D acc, H D = some (.lst acc) → H' D = some (.lst acc)) → StAt K H' v (s ++ [z]) → Q v H') : rCatA K (.ref a) (.ref b) H Q := by
  refine ⟨a, b, s.map V.int, [V.int z], rfl, rfl, h1, SqT.of h2, sl_of (by rw [List.length_map]; simp only [List.length_cons, List.length_nil]; omega), fun e => ?_, fun _ e => (nomatch e), fun _ _ p hp => ?_⟩
  · have e0 : s = [] := List.map_eq_nil_iff.mp e
    subst e0
    exact q _ _ (Ext.refl H) (fun D acc h => h) ⟨b, rfl, SqT.of h2⟩
  · refine q _ _ (ext_upd hp) (fun D acc h => (ext_upd hp).lst h) ⟨p, rfl, ?_⟩
    rw [List.map_append]
    exact SqT.of upd_same
def spStates (T : Top K mg) : Sp := fun vs H Q _ => ∃ (p : Addr) (fs : List Int) (es : List Eg), vs = [.ref p] ∧ SpAt T H p fs es ∧ fs.length ≤ 8 ∧
  ∀ l H' xs, Ext H H' → H l = none → H' l = some (.lst xs) → Paired (StAt K H') xs (states fs.length) → Q (.ref l) H'
theorem ok_all_states (T : Top K mg) : FnOk P w K mg base CX0 1 T.f_all_states T.d_all_states ["spins"] (spStates T) := by
  refine T.F_all_states.ok sc_all_states (fun vs H Q E h => ?_) (fun cdv A outer s H vs Q E hr h => ?_)
  · obtain ⟨p, fs, es, rfl, _⟩ := h
    rfl
  obtain ⟨p, fs, es, rfl, hp, l8, q⟩ := h
  refine ⟨_, (pss_cons (ps_set (i := 1) sc_all_states.nd rfl (by first | exact .inl rfl | exact .inr rfl) (pe_lst (pa_cons (pe_tup pa_nil) pa_nil)))
      (pss_cons (ps_for PassesOwn.never rfl (pi_tup (pe_fld (pv 0) rfl)) (pg_name (i := 2) sc_all_states.nd rfl (by first | exact .inl rfl | exact .inr rfl)) (pss_one (ps_setLc2 (i := 1) (own := [("state", 3), ("spin", 4)]) (vs1 := [4]) (g := gName 3) (g1 := gName 4) (wi1 := iTup K _) (tt := tYes) (tt1 := tYes) rfl sc_all_states.nd rfl rfl (sw_true rfl rfl rfl (by decide +kernel)) (pi_list (pv 1)) (blkOk_by (own := [("state", 3), ("spin", 4)]) (N := n_all_states) (sc := defScope s_all_states) (by decide +kernel)) (by decide) (fun _ _ _ _ _ => (pg_name (i := 3) sc_all_states.nd rfl (by first | exact .inl rfl | exact .inr rfl))) (fun _ _ _ _ _ => pts_nil) (fun _ _ _ _ _ => (pi_tup (pe_tup (pa_cons pe_int (pa_cons pe_int pa_nil))))) (fun _ _ _ _ _ => (pg_name (i := 4) sc_all_states.nd rfl (by first | exact .inl rfl | exact .inr rfl))) (fun _ _ _ _ _ => pts_nil) (fun _ _ _ _ _ => (pe_op (r := rCatA K) op_catA (pv 3) (pe_tup (pa_cons (pv 4) pa_nil)))))))
      (pss_one (ps_ret (pv 1))))), ?_⟩
  have hpl := hp
  obtain ⟨gf, ge, dx, fb, eb, ys, h1, h2, h3, h4⟩ := hp
  refine ⟨by rw [sizeLine_eq]; simp, fun e0 he0 => ⟨by rw [sizeLine_eq]; simp, fun l0 hl0 => ?_⟩⟩
  have x0 : Ext H (upd (upd H e0 (.tup [])) l0 (.lst [V.ref e0])) := (ext_upd he0).new hl0
  refine ⟨_, rfl, p, T.C_Spins, dx, _, .ref fb, rfl, x0.keep p _ h1 (fun _ z => by cases z), T.cl_Spins, T.na_Spins_fields, rfl, fb, rfl, ⟨_, x0.tup h2⟩, for_tup (xs := fs.map V.int)
    (fun i σ H1 => ∃ l x xs, σ = [some (.ref p), some (.ref l), x, none, none] ∧ Ext H H1 ∧ H l = none ∧ H1 l = some (.lst xs) ∧ Paired (StAt K H1) xs (states i))
    ⟨l0, none, [.ref e0], rfl, x0, (ext_upd he0).free hl0, upd_same, .cons ⟨e0, rfl, SqT.of ((ext_upd hl0).at upd_same)⟩ .nil⟩ (fun i σ H1 _ ⟨l, x, xs, h⟩ => h.2.1.tup h2) (fun i x σ H1 hi hP => ?_) (fun σ H1 hP => ?_)⟩
  · obtain ⟨l, x1, xs, rfl, s1, nl, hl, hst⟩ := hP
    have i8 : i < 8 := by
      have := (List.getElem?_eq_some_iff.mp hi).1
      rw [List.length_map] at this
      omega
    have lst := hst.length
    rw [length_states] at lst
    have c256 : xs.length ≤ 256 := by rw [lst]; exact pow8 (by omega)
    refine ⟨_, rfl, l, rfl, ⟨_, SqL.of hl⟩, fun D hD => w_list (xs := xs) (fun j H2 => Ext H1 H2 ∧ ∃ zs, H2 D = some (.lst zs) ∧ Paired (StAt K H2) zs (((states i).take j).flatMap two) ∧ zs.length = 2 * j)
      ⟨ext_upd hD, [], upd_same, .nil, rfl⟩ (fun j H2 _ h => SqL.of (h.1.lst hl)) (fun j v H2 hj hP => ?_) (fun H2 hP => ?_)⟩
    · obtain ⟨s2, zs, hz, hp2, lz⟩ := hP
      have hjl := (List.getElem?_eq_some_iff.mp hj).1
      obtain ⟨st, hsj, a, rfl, ha⟩ := paired_at hst hj
      have tk : ((states i).take (j + 1)).flatMap two = ((states i).take j).flatMap two ++ two st := by
        rw [take_snoc hsj, List.flatMap_append]
        simp
      have lst1 := (states_ok i st (List.mem_of_getElem? hsj)).1
      refine ⟨rfl, sl2, fun t ht => ⟨t, rfl, ⟨_, SqT.of upd_same⟩, w_tup (xs := [V.int 0, .int 1]) (fun k H3 => Ext H1 H3 ∧ H3 t = some (.tup [V.int 0, .int 1]) ∧ ∃ zs, H3 D = some (.lst zs) ∧ Paired (StAt K H3) zs (((states i).take j).flatMap two ++ (two st).take k) ∧ zs.length = 2 * j + k)
        ⟨s2.new ht, upd_same, zs, (ext_upd ht).lst hz, by rw [List.take_zero, List.append_nil]; exact (ext_upd ht).sts hp2, lz⟩ (fun k H3 _ h => SqT.of h.2.1) (fun k y H3 hk hP => ?_) (fun H3 hP => ?_)⟩⟩
      · obtain ⟨s3, ht3, zs, hz, hp3, lz⟩ := hP
        obtain ⟨b, hb, rfl, k2⟩ : ∃ b : Int, (two st)[k]? = some (st ++ [b]) ∧ y = .int b ∧ k < 2 := by
          match k, hk with
          | 0, hk => exact ⟨0, rfl, by simpa using hk.symm, by decide⟩
          | 1, hk => exact ⟨1, rfl, by simpa using hk.symm, by decide⟩
          | k + 2, hk => simp at hk
        refine ⟨rfl, _, rfl, _, rfl, by rw [sizeLine_eq]; simp, fun c hc => ?_⟩
        have x3 := ext_upd (o := .tup [V.int b]) hc
        refine st_cat (s := st) (z := b) (x3.tup (s3.tup ha)) upd_same (by omega) (fun v H4 s4 keepL hv => ?_)
        have hD4 := keepL D zs (x3.lst hz)
        have t4 : H4 t = some (.tup [V.int 0, .int 1]) := (x3.trans s4).at ht3
        refine ⟨zs, hD4, sl_lt (by omega), ((s3.trans x3).trans s4).own hD, ?_, zs ++ [v], upd_same, ?_, by rw [List.length_append, List.length_singleton]; omega⟩
        · rw [upd_ne (fun z => by rw [z, hD4] at t4; cases t4)]
          exact t4
        · rw [take_snoc hb, ← List.append_assoc]
          obtain ⟨a', rfl, ha'⟩ := hv
          exact paired_snoc (sts_lst hD4 ((x3.trans s4).sts hp3)) ⟨a', rfl, sqt_lst hD4 ha'⟩
      · obtain ⟨s3, _, zs, hz, hp3, lz⟩ := hP
        exact ⟨s3, zs, hz, by rw [tk]; exact hp3, by rw [lz]; simp only [List.length_cons, List.length_nil]; omega⟩
    · obtain ⟨s2, zs, hz, hp2, lz⟩ := hP
      rw [lst, ← length_states, List.take_length] at hp2
      exact ⟨D, some x, zs, rfl, s1.trans s2, s1.free hD, hz, hp2⟩
  · obtain ⟨l, x, xs, rfl, s1, nl, hl, hst⟩ := hP
    rw [List.length_map] at hst
    exact ⟨_, rfl, q l H1 xs s1 nl hl hst⟩
theorem atI_st {st : List Int} {i : Int} (h0 : 0 ≤ i) (h1 : i < st.length) : atI (st.map V.int) i = some (.int (atS st i)) := by
  obtain ⟨k, rfl⟩ := Int.eq_ofNat_of_zero_le h0
  have hk : k < st.length := by omega
  refine atI_nat (j := k) ?_
  unfold atS
  rw [List.getElem?_map, Int.toNat_natCast, List.getD_eq_getElem?_getD, List.getElem?_eq_getElem hk]
  rfl
theorem inlong {z : Int} (h : -1000 ≤ z ∧ z ≤ 1000) : InLong z := by
  unfold InLong
  omega
def spCost (T : Top K mg) : Sp := fun vs H Q _ => ∃ (p a : Addr) (fs : List Int) (es : List Eg) (st : List Int), vs = [.ref p, .ref a] ∧ SpAt T H p fs es ∧ SqT K H a (st.map V.int) ∧ st.length = fs.length ∧ bits st ∧ Tg T H ∧
  ∀ H', Ext H H' → Q (.int (costZ fs es st)) H'
theorem edgeC_bound {es : List Eg} {st : List Int} {n : Int} (h : es.length ≤ 24) (g : ∀ e ∈ es, okE n e) (i : Nat) : -216 ≤ edgeC (es.take i) st ∧ edgeC (es.take i) st ≤ 216 := by
  have hb := sum_bound (c := 9) (l := ((es.take i).filter fun e => decide (atS st e.1 ≠ atS st e.2.1)).map fun e => e.2.2) fun x m => by
    obtain ⟨e, me, rfl⟩ := List.mem_map.mp m
    obtain ⟨_, _, _, _, h1, h2⟩ := g e (List.mem_of_mem_take (List.mem_filter.mp me).1)
    exact ⟨h1, h2⟩
  have hl : (((es.take i).filter fun e => decide (atS st e.1 ≠ atS st e.2.1)).map fun e => e.2.2).length ≤ 24 := by
    rw [List.length_map]
    refine Nat.le_trans (List.length_filter_le _ _) ?_
    rw [List.length_take]
    omega
  unfold edgeC
  omega
theorem fieldC_bound {fs st : List Int} (h : goodF fs) (i : Nat) : -108 ≤ fieldC (fs.take i) (st.take i) ∧ fieldC (fs.take i) (st.take i) ≤ 108 := by
  have hb := sum_bound (c := 9) (l := (((fs.take i).zip (st.take i)).filter fun p => decide (p.2 = 1)).map fun p => p.1) fun x m => by
    obtain ⟨e, me, rfl⟩ := List.mem_map.mp m
    have := List.of_mem_zip (List.mem_filter.mp me).1
    exact h.2.2 _ (List.mem_of_mem_take this.1)
  have hl : ((((fs.take i).zip (st.take i)).filter fun p => decide (p.2 = 1)).map fun p => p.1).length ≤ 12 := by
    rw [List.length_map]
    refine Nat.le_trans (List.length_filter_le _ _) ?_
    rw [List.length_zip, List.length_take]
    have := h.2.1
    omega
  unfold fieldC
  omega
theorem ok_cost (T : Top K mg) (B : Tb T base) : FnOk P w K mg base CX0 2 T.f_cost T.d_cost ["spins", "state"] (spCost T) := by
  refine T.F_cost.ok sc_cost (fun vs H Q E h => ?_) (fun A outer s H vs Q E hr h => ?_)
  · obtain ⟨p, a, fs, es, st, rfl, _⟩ := h
    rfl
  obtain ⟨p, a, fs, es, st, rfl, hp, ha, hls, hb, G, q⟩ := h
  refine ⟨_, (pss_cons (ps_set (i := 2) sc_cost.nd rfl (by first | exact .inl rfl | exact .inr rfl) (GXP.pe_sumGx (own := [("u", 3), ("v", 4), ("j", 5)]) (g := gTup K 3 (gCons (gName 3) (gCons (gName 4) (gCons (gName 5) gNil)))) (k := 0) (c := T.c_cost) (P := T.P_cost) (by rfl) T.m_sum ⟨hr.mono (by decide), rfl, B.t_cost, rfl, rfl, blkOk_by (own := [("u", 3), ("v", 4), ("j", 5)]) (N := n_cost) (sc := defScope s_cost) (by decide +kernel), sc_cost.nd, by decide +kernel, rfl, (pi_tup (pe_fld (pv 0) rfl)), fun A s H C cl code bi fp hrA => (pg_tup rfl (pgs_cons (pg_name (i := 3) sc_cost.nd rfl (by first | exact .inl rfl | exact .inr rfl)) (pgs_cons (pg_name (i := 4) sc_cost.nd rfl (by first | exact .inl rfl | exact .inr rfl)) (pgs_cons (pg_name (i := 5) sc_cost.nd rfl (by first | exact .inl rfl | exact .inr rfl)) pgs_nil)))), fun A s H C cl code bi fp hrA => (pts_one (pt_cmpR op_ne (pe_ix (r := rIxT K) ix_tup (pv 1) (pv 3) (fun _ _ => rfl)) (pe_ix (r := rIxT K) ix_tup (pv 1) (pv 4) (fun _ _ => rfl)) (nomark _))), fun A s H C cl code bi fp hrA => (pv 5), fun _ => rfl⟩))
      (pss_one (ps_ret (pe_op op_add (pv 2) (GXP.pe_sumGx (own := [("field", 6), ("spin", 7)]) (g := gTup K 2 (gCons (gName 6) (gCons (gName 7) gNil))) (k := 0) (c := T.c_cost) (P := T.P_cost) (by rfl) T.m_sum ⟨hr.mono (by decide), rfl, B.t_cost, rfl, rfl, blkOk_by (own := [("field", 6), ("spin", 7)]) (N := n_cost) (sc := defScope s_cost) (by decide +kernel), sc_cost.nd, by decide +kernel, rfl, (RZ.pi_zipA (by rfl) T.m_zip (pa_cons (pe_fld (pv 0) rfl) (pa_cons (pv 1) pa_nil))), fun A s H C cl code bi fp hrA => (pg_tup rfl (pgs_cons (pg_name (i := 6) sc_cost.nd rfl (by first | exact .inl rfl | exact .inr rfl)) (pgs_cons (pg_name (i := 7) sc_cost.nd rfl (by first | exact .inl rfl | exact .inr rfl)) pgs_nil))), fun A s H C cl code bi fp hrA => (pts_one (pt_cmpR op_eq (pv 7) pe_int (nomark _))), fun A s H C cl code bi fp hrA => (pv 6), fun _ => rfl⟩))))), ?_⟩
  have hpl := hp
  obtain ⟨gf, ge, dx, fb, eb, ys, h1, h2, h3, h4⟩ := hp
  have hl4 := h4.length
  refine ⟨_, rfl, p, T.C_Spins, dx, _, .ref eb, rfl, h1, T.cl_Spins, T.na_Spins_edges, rfl, eb, rfl, ⟨_, h3⟩, G.t_cost, fun H2 t2 => ?_⟩
  have x2 : Ext H H2 := ext_tabbed G.t_cost t2
  refine gx_tup (xs := ys) (fun i zs H3 => Ext H2 H3 ∧ zs = (((es.take i).filter fun e => decide (atS st e.1 ≠ atS st e.2.1)).map fun e => e.2.2).map V.int) ⟨Ext.refl _, rfl⟩ (fun i zs H3 _ h => (x2.trans h.1).tup h3) (fun i x zs H3 hi hP => ?_) (fun zs H3 hP => ?_)
  · obtain ⟨s3, rfl⟩ := hP
    obtain ⟨⟨u, v, j⟩, hei, a1, rfl, g1⟩ := paired_at h4 hi
    have hm := List.mem_of_getElem? hei
    obtain ⟨k1, k2, k3, k4, k5, k6⟩ := ge.2.1 _ hm
    have k1 : 0 ≤ u := k1
    have k2 : u < v := k2
    have k3 : v < fs.length := k3
    have k5 : -9 ≤ j := k5
    have k6 : j ≤ 9 := k6
    have s03 := x2.trans s3
    have hbd := edgeC_bound (st := st) ge.1 ge.2.1 i
    unfold edgeC at hbd
    refine ⟨a1, _, rfl, s03.tup g1, rfl, _, _, rfl, _, _, rfl, _, _, rfl, rfl, ?_⟩
    refine ⟨rfl, _, rfl, _, rfl, a, _, u, _, rfl, rfl, s03.tup ha, atI_st k1 (by rw [hls]; omega), _, rfl, _, rfl, a, _, v, _, rfl, rfl, s03.tup ha, atI_st (by omega) (by rw [hls]; exact k3), rfl, _, rfl, iteB (fun z => ?_) (fun z => ?_)⟩
    · have hne : atS st u ≠ atS st v := fun e => by
        rw [e] at z
        simp at z
      refine ⟨_, rfl, j, rfl, inlong (by omega), inlong (by rw [sumV_ints]; omega), s3, ?_⟩
      rw [take_snoc hei, List.filter_append, List.filter_cons_of_pos (by simpa using hne), List.filter_nil, List.map_append, List.map_append]
      rfl
    · have hne : ¬ atS st u ≠ atS st v := fun e => by
        rw [decide_eq_false (fun w => e (V.int.inj w))] at z
        cases z
      refine ⟨s3, ?_⟩
      rw [take_snoc hei, List.filter_append, List.filter_cons_of_neg (by simpa using hne), List.filter_nil, List.append_nil]
  · obtain ⟨s3, rfl⟩ := hP
    rw [hl4, List.take_length]
    have s03 := x2.trans s3
    have G3 := G.ext s03
    refine ⟨_, rfl, _, rfl, p, T.C_Spins, dx, _, .ref fb, rfl, s03.keep p _ h1 (fun _ z => by cases z), T.cl_Spins, T.na_Spins_fields, rfl, _, rfl, fb, a, _, _, rfl, .inr ⟨s03.tup h2, s03.tup ha, G3.t_cost, fun H4 t4 => ?_⟩⟩
    have x4 : Ext H3 H4 := ext_tabbed G3.t_cost t4
    have s04 := s03.trans x4
    refine gx_zipT (by rw [List.length_map, List.length_map, hls]) (fun i zs H5 => Ext H4 H5 ∧ zs = ((((fs.take i).zip (st.take i)).filter fun p => decide (p.2 = 1)).map fun p => p.1).map V.int) ⟨Ext.refl _, rfl⟩ (fun i zs H5 h => ⟨(s04.trans h.1).tup h2, (s04.trans h.1).tup ha⟩) (fun i x y T' zs H5 hx hy hP hT => ?_) (fun zs H5 hP => ?_)
    · obtain ⟨s5, rfl⟩ := hP
      rw [List.getElem?_map] at hx hy
      cases hf : fs[i]? with
      | none => rw [hf] at hx; cases hx
      | some f =>
        cases hs : st[i]? with
        | none => rw [hs] at hy; cases hy
        | some b =>
          rw [hf] at hx
          rw [hs] at hy
          cases hx
          cases hy
          have hbd := fieldC_bound (st := st) gf i
          unfold fieldC at hbd
          have gf1 := gf.2.2 f (List.mem_of_getElem? hf)
          have zz : (fs.take (i + 1)).zip (st.take (i + 1)) = (fs.take i).zip (st.take i) ++ [(f, b)] := by
            rw [take_snoc hf, take_snoc hs, List.zip_append (by rw [List.length_take, List.length_take, hls])]
            rfl
          refine ⟨T', _, rfl, SqT.of upd_same, rfl, _, _, rfl, _, _, rfl, rfl, ?_⟩
          refine ⟨rfl, _, rfl, rfl, _, rfl, iteB (fun z => ?_) (fun z => ?_)⟩
          · have hb1 : b = 1 := V.int.inj (of_decide_eq_true z)
            refine ⟨_, rfl, f, rfl, inlong (by omega), inlong (by rw [sumV_ints]; omega), s5.new hT, ?_⟩
            rw [zz, List.filter_append, List.filter_cons_of_pos (by simpa using hb1), List.filter_nil, List.map_append, List.map_append]
            rfl
          · have hb1 : ¬ b = 1 := fun e => by
              rw [e] at z
              simp at z
            refine ⟨s5.new hT, ?_⟩
            rw [zz, List.filter_append, List.filter_cons_of_neg (by simpa using hb1), List.filter_nil, List.append_nil]
    · obtain ⟨s5, rfl⟩ := hP
      refine ⟨_, _, rfl, rfl, ?_⟩
      rw [sumV_ints, sumV_ints, List.length_map, List.take_length, hls, List.take_length]
      exact q H5 (s04.trans s5)
def spUps (K : PySem.W.Frag) : Sp := fun vs H Q _ => ∃ (a : Addr) (st : List Int), vs = [.ref a] ∧ SqT K H a (st.map V.int) ∧ Q (.int st.sum) H
theorem ok_ups (T : Top K mg) : FnOk P w K mg base CX0 1 T.f_ups T.d_ups ["state"] (spUps K) := by
  refine T.F_ups.ok sc_ups (fun vs H Q E h => ?_) (fun cdv A outer s H vs Q E hr h => ?_)
  · obtain ⟨a, st, rfl, _⟩ := h
    rfl
  obtain ⟨a, st, rfl, ha, q⟩ := h
  exact ⟨_, (pss_one (ps_ret (pe_callB (cr_sumT rfl) (by rfl) T.m_sum (by decide +kernel) (pa_cons (pv 0) pa_nil)))), _, rfl, a, st, rfl, ha, q⟩
def spLStates (K : PySem.W.Frag) : Sp := fun vs H Q _ => ∃ n : Nat, vs = [.int (n : Int)] ∧ n ≤ 8 ∧ ∀ l H' xs, Ext H H' → H l = none → H' l = some (.lst xs) → Paired (StAt K H') xs (states n) → Q (.ref l) H'
theorem ok_law_states (T : Top K mg) : FnOk P w K mg base CX0 1 T.f_law_states T.d_law_states ["count"] (spLStates K) := by
  refine T.F_law_states.ok sc_law_states (fun vs H Q E h => ?_) (fun cdv A outer s H vs Q E hr h => ?_)
  · obtain ⟨n, rfl, _⟩ := h
    rfl
  obtain ⟨n, rfl, l8, q⟩ := h
  refine ⟨_, (pss_cons (ps_set (i := 1) sc_law_states.nd rfl (by first | exact .inl rfl | exact .inr rfl) (pe_lst (pa_cons (pe_tup pa_nil) pa_nil)))
      (pss_cons (ps_for PassesOwn.never rfl (pi_range1 (by rfl) T.m_range (pa_cons (pv 0) pa_nil)) (pg_name (i := 2) sc_law_states.nd rfl (by first | exact .inl rfl | exact .inr rfl)) (pss_cons (ps_set (i := 3) sc_law_states.nd rfl (by first | exact .inl rfl | exact .inr rfl) (pe_lst pa_nil))
      (pss_cons (ps_for PassesOwn.never rfl (pi_list (pv 1)) (pg_name (i := 4) sc_law_states.nd rfl (by first | exact .inl rfl | exact .inr rfl)) (pss_one (ps_aug (i := 3) sc_law_states.nd rfl (by first | exact .inl rfl | exact .inr rfl) (pe_lst (pa_cons (pe_op op_catA (pv 4) (pe_tup (pa_cons pe_int pa_nil))) (pa_cons (pe_op op_catA (pv 4) (pe_tup (pa_cons pe_int pa_nil))) pa_nil))) iop_ext)))
      (pss_one (ps_set (i := 1) sc_law_states.nd rfl (by first | exact .inl rfl | exact .inr rfl) (pv 3))))))
      (pss_one (ps_ret (pv 1))))), ?_⟩
  refine ⟨by rw [sizeLine_eq]; simp, fun e0 he0 => ⟨by rw [sizeLine_eq]; simp, fun l0 hl0 => ?_⟩⟩
  have x0 : Ext H (upd (upd H e0 (.tup [])) l0 (.lst [V.ref e0])) := (ext_upd he0).new hl0
  refine ⟨_, rfl, _, rfl, by omega, by omega, for_range (n := n) (fun i σ H1 => ∃ l x y z xs, σ = [some (.int (n : Int)), some (.ref l), x, y, z] ∧ Ext H H1 ∧ H l = none ∧ H1 l = some (.lst xs) ∧ Paired (StAt K H1) xs (states i))
    ⟨l0, none, none, none, [.ref e0], rfl, x0, (ext_upd he0).free hl0, upd_same, .cons ⟨e0, rfl, SqT.of ((ext_upd hl0).at upd_same)⟩ .nil⟩ (fun i σ H1 hi hP => ?_) (fun σ H1 hP => ?_)⟩
  · obtain ⟨l, x1, y1, z1, xs, rfl, s1, nl, hl, hst⟩ := hP
    have lst := hst.length
    rw [length_states] at lst
    have c256 : xs.length ≤ 256 := by rw [lst]; exact pow8 (by omega)
    refine ⟨by rw [sizeLine_eq]; simp, fun D hD => ?_⟩
    refine ⟨_, rfl, l, rfl, ⟨_, SqL.of ((ext_upd hD).lst hl)⟩, for_list (xs := xs) (fun j σ H2 => ∃ z zs, σ = [some (.int (n : Int)), some (.ref l), some (.int (0 + (i : Int))), some (.ref D), z] ∧ Ext H1 H2 ∧ H2 D = some (.lst zs) ∧ Paired (StAt K H2) zs (((states i).take j).flatMap two) ∧ zs.length = 2 * j)
      ⟨z1, [], rfl, ext_upd hD, upd_same, .nil, rfl⟩ (fun j σ H2 _ ⟨z, zs, h⟩ => SqL.of (h.2.1.lst hl)) (fun j v σ H2 hj hP => ?_) (fun σ H2 hP => ?_)⟩
    · obtain ⟨z2, zs, rfl, s2, hz, hp2, lz⟩ := hP
      have hjl := (List.getElem?_eq_some_iff.mp hj).1
      obtain ⟨st, hsj, a, rfl, ha⟩ := paired_at hst hj
      have tk : ((states i).take (j + 1)).flatMap two = ((states i).take j).flatMap two ++ two st := by
        rw [take_snoc hsj, List.flatMap_append]
        simp
      have lst1 := (states_ok i st (List.mem_of_getElem? hsj)).1
      refine ⟨_, rfl, _, rfl, by rw [sizeLine_eq]; simp, fun c hc => ?_⟩
      have x3 := ext_upd (o := .tup [V.int 0]) hc
      refine st_cat (s := st) (z := 0) (x3.tup (s2.tup ha)) upd_same (by omega) (fun v3 H3 s3 keep3 hv3 => ?_)
      have s23 := x3.trans s3
      refine ⟨_, rfl, by rw [sizeLine_eq]; simp, fun c2 hc2 => ?_⟩
      have x4 := ext_upd (o := .tup [V.int 1]) hc2
      refine st_cat (s := st) (z := 1) (x4.tup (s23.tup (s2.tup ha))) upd_same (by omega) (fun v4 H4 s4 keep4 hv4 => ?_)
      have s24 := s23.trans (x4.trans s4)
      refine ⟨by rw [sizeLine_eq]; simp, fun e he => ?_⟩
      have x5 := ext_upd (o := .lst [v3, v4]) he
      have hD5 := x5.lst (s24.lst hz)
      obtain ⟨a3, rfl, h3⟩ := hv3
      obtain ⟨a4, rfl, h4⟩ := hv4
      refine ⟨D, e, zs, [.ref a3, .ref a4], rfl, rfl, hD5, upd_same, sl_of (by simp only [List.length_append, List.length_cons, List.length_nil]; omega), ?_⟩
      refine ⟨_, _, rfl, ((s2.trans s24).trans x5).own hD, upd_same, ?_, ?_⟩
      · rw [tk]
        refine sts_lst hD5 (paired_app ((s24.trans x5).sts hp2) (.cons ⟨a3, rfl, ?_⟩ (.cons ⟨a4, rfl, ?_⟩ .nil)))
        · exact x5.tup ((x4.trans s4).tup h3)
        · exact x5.tup h4
      · simp only [List.length_append, List.length_cons, List.length_nil]
        omega
    · obtain ⟨z2, zs, rfl, s2, hz, hp2, lz⟩ := hP
      rw [lst, ← length_states, List.take_length] at hp2
      exact ⟨_, rfl, D, _, _, _, zs, rfl, s1.trans s2, s1.free hD, hz, hp2⟩
  · obtain ⟨l, x1, y1, z1, xs, rfl, s1, nl, hl, hst⟩ := hP
    exact ⟨_, rfl, q l H1 xs s1 nl hl hst⟩
def spLCost (K : PySem.W.Frag) : Sp := fun vs H Q _ => ∃ (fa ea a : Addr) (fs : List Int) (xs : List V) (es : List Eg) (st : List Int), vs = [.ref fa, .ref ea, .ref a] ∧ SqL K H fa (fs.map V.int) ∧ SqL K H ea xs ∧ Paired (EdgeAt K H) xs es ∧ SqT K H a (st.map V.int) ∧ st.length = fs.length ∧ bits st ∧ goodF fs ∧ goodE fs.length es ∧
  Q (.int (costZ fs es st)) H
theorem ok_law_cost (T : Top K mg) : FnOk P w K mg base CX0 1 T.f_law_cost T.d_law_cost ["fields", "edges", "state"] (spLCost K) := by
  refine T.F_law_cost.ok sc_law_cost (fun vs H Q E h => ?_) (fun cdv A outer s H vs Q E hr h => ?_)
  · obtain ⟨fa, ea, a, fs, xs, es, st, rfl, _⟩ := h
    rfl
  obtain ⟨fa, ea, a, fs, xs, es, st, rfl, hf, he, hes, ha, hls, hb, gf, ge, q⟩ := h
  have f12 := gf.2.1
  refine ⟨_, (pss_cons (ps_set (i := 3) sc_law_cost.nd rfl (by first | exact .inl rfl | exact .inr rfl) pe_int)
      (pss_cons (ps_for PassesOwn.never rfl (pi_range1 (by rfl) T.m_range (pa_cons (pe_callB call_len_seq (by rfl) T.m_len (by decide +kernel) (pa_cons (pv 0) pa_nil)) pa_nil)) (pg_name (i := 4) sc_law_cost.nd rfl (by first | exact .inl rfl | exact .inr rfl)) (pss_one (ps_aug (i := 3) sc_law_cost.nd rfl (by first | exact .inl rfl | exact .inr rfl) (pe_op op_mul (pe_ix ix_list (pv 0) (pv 4) (fun _ _ => rfl)) (pe_ix ix_tup (pv 2) (pv 4) (fun _ _ => rfl))) ip_add)))
      (pss_cons (ps_for PassesOwn.never rfl (pi_list (pv 1)) (pg_tup rfl (pgs_cons (pg_name (i := 5) sc_law_cost.nd rfl (by first | exact .inl rfl | exact .inr rfl)) (pgs_cons (pg_name (i := 6) sc_law_cost.nd rfl (by first | exact .inl rfl | exact .inr rfl)) (pgs_cons (pg_name (i := 7) sc_law_cost.nd rfl (by first | exact .inl rfl | exact .inr rfl)) pgs_nil)))) (pss_one (ps_if (pt_cmpR op_ne (pe_ix ix_tup (pv 2) (pv 5) (fun _ _ => rfl)) (pe_ix ix_tup (pv 2) (pv 6) (fun _ _ => rfl)) (nomark _)) (pss_one (ps_aug (i := 3) sc_law_cost.nd rfl (by first | exact .inl rfl | exact .inr rfl) (pv 7) ip_add)) pss_nil)))
      (pss_one (ps_ret (pv 3)))))), ?_⟩
  have hl4 := hes.length
  refine ⟨_, rfl, fa, _, rfl, .inl hf, _, rfl, by rw [List.length_map]; omega, by rw [List.length_map]; omega, for_range (n := (fs.map V.int).length) (fun i σ H1 => H1 = H ∧ ∃ x, σ = [some (.ref fa), some (.ref ea), some (.ref a), some (.int (dotC (fs.take i) (st.take i))), x, none, none, none])
    ⟨rfl, none, rfl⟩ (fun i σ H1 hi hP => ?_) (fun σ H1 hP => ?_)⟩
  · obtain ⟨rfl, x, rfl⟩ := hP
    rw [List.length_map] at hi
    have i0 : (0 : Int) + (i : Int) = (i : Int) := Int.zero_add _
    refine ⟨_, rfl, _, rfl, _, rfl, fa, _, _, _, rfl, rfl, hf, (by rw [i0]; exact atI_nat (j := i) (by rw [List.getElem?_map, List.getElem?_eq_getElem hi]; rfl)), _, rfl, _, rfl, a, _, _, _, rfl, rfl, ha, (by rw [i0]; exact atI_nat (j := i) (by rw [List.getElem?_map, List.getElem?_eq_getElem (show i < st.length by omega)]; rfl)), ?_⟩
    have m1 := gf.2.2 _ (List.getElem_mem hi)
    refine ⟨_, _, rfl, rfl, .inl ⟨by omega, by omega⟩, _, _, rfl, rfl, rfl, some (.int (0 + (i : Int))), ?_⟩
    rw [dot_snoc (List.getElem?_eq_getElem hi) (List.getElem?_eq_getElem (show i < st.length by omega))]
    rfl
  · obtain ⟨rfl, x, rfl⟩ := hP
    rw [List.length_map, List.take_length, ← hls, List.take_length, dot_field hb]
    refine ⟨_, rfl, ea, rfl, ⟨_, he⟩, for_list (xs := xs) (fun i σ H2 => H2 = H1 ∧ ∃ y u v j, σ = [some (.ref fa), some (.ref ea), some (.ref a), some (.int (fieldC fs st + edgeC (es.take i) st)), y, u, v, j])
      ⟨rfl, x, none, none, none, ?_⟩ (fun i σ H2 _ h => by rw [h.1]; exact he) (fun i x' σ H2 hi hP => ?_) (fun σ H2 hP => ?_)⟩
    · rw [List.take_zero, show edgeC [] st = 0 from rfl, Int.add_zero]
    · obtain ⟨rfl, y, u1, v1, j1, rfl⟩ := hP
      obtain ⟨⟨u, v, j⟩, hei, a1, rfl, g1⟩ := paired_at hes hi
      have hm := List.mem_of_getElem? hei
      obtain ⟨k1, k2, k3, k4, k5, k6⟩ := ge.2.1 _ hm
      have k1 : 0 ≤ u := k1
      have k2 : u < v := k2
      have k3 : v < fs.length := k3
      refine ⟨a1, _, rfl, g1, rfl, _, _, rfl, _, _, rfl, _, _, rfl, rfl, ?_⟩
      refine ⟨_, rfl, _, rfl, a, _, u, _, rfl, rfl, ha, atI_st k1 (by rw [hls]; omega), _, rfl, _, rfl, a, _, v, _, rfl, rfl, ha, atI_st (by omega) (by rw [hls]; exact k3), rfl, _, rfl, iteB (fun z => ?_) (fun z => ?_)⟩
      · have hne : atS st u ≠ atS st v := fun e => by
          rw [e] at z
          simp at z
        refine ⟨_, rfl, _, rfl, _, _, rfl, rfl, rfl, y, some (.int u), some (.int v), some (.int j), ?_⟩
        have : edgeC (es.take (i + 1)) st = edgeC (es.take i) st + j := by
          unfold edgeC
          rw [take_snoc hei, List.filter_append, List.filter_cons_of_pos (by simpa using hne), List.filter_nil, List.map_append, List.sum_append]
          simp
        rw [this, ← Int.add_assoc]
        rfl
      · have hne : ¬ atS st u ≠ atS st v := fun e => by
          rw [decide_eq_false (fun w => e (V.int.inj w))] at z
          cases z
        refine ⟨rfl, y, some (.int u), some (.int v), some (.int j), ?_⟩
        have : edgeC (es.take (i + 1)) st = edgeC (es.take i) st := by
          unfold edgeC
          rw [take_snoc hei, List.filter_append, List.filter_cons_of_neg (by simpa using hne), List.filter_nil, List.append_nil]
        rw [this]
        rfl
    · obtain ⟨rfl, y, u1, v1, j1, rfl⟩ := hP
      rw [hl4, List.take_length]
      have : fieldC fs st + edgeC es st = costZ fs es st := Int.add_comm _ _
      rw [this]
      exact ⟨_, rfl, q⟩
open K04
def spCmp (K : PySem.W.Frag) : Sp := fun vs H Q _ => ∃ (a b : Addr) (p q : Int × Int), vs = [.ref a, .ref b] ∧ Fr K H a p ∧ Fr K H b q ∧ mid p.1 ∧ mid p.2 ∧ mid q.1 ∧ mid q.2 ∧
  Q (.int (if p.1 * q.2 < q.1 * p.2 then -1 else if q.1 * p.2 < p.1 * q.2 then 1 else 0)) H
theorem ok_compare (T : Top K mg) : FnOk P w K mg base CX0 1 T.f_compare T.d_compare ["a", "b"] (spCmp K) := by
  refine T.F_compare.ok sc_compare (fun vs H Q E h => ?_) (fun cdv A outer s H vs Q E hr h => ?_)
  · obtain ⟨a, b, p, q, rfl, _⟩ := h
    rfl
  · obtain ⟨a, b, p, q, rfl, hp, hq, m1, m2, m3, m4, k⟩ := h
    refine ⟨_, (pss_cons (ps_set (i := 2) sc_compare.nd rfl (by first | exact .inl rfl | exact .inr rfl) (pe_op op_mulW (pe_ix ix_tup (pv 0) pe_int (fun _ _ => rfl)) (pe_ix ix_tup (pv 1) pe_int (fun _ _ => rfl))))
      (pss_cons (ps_set (i := 3) sc_compare.nd rfl (by first | exact .inl rfl | exact .inr rfl) (pe_op op_mulW (pe_ix ix_tup (pv 1) pe_int (fun _ _ => rfl)) (pe_ix ix_tup (pv 0) pe_int (fun _ _ => rfl))))
      (pss_cons (ps_if (pt_cmpR op_lt (pv 2) (pv 3) (nomark _)) (pss_one (ps_ret (pe_un un_neg pe_int))) pss_nil)
      (pss_cons (ps_if (pt_cmpR op_gt (pv 2) (pv 3) (nomark _)) (pss_one (ps_ret pe_int)) pss_nil)
      (pss_one (ps_ret pe_int)))))), ?_⟩
    refine ⟨_, rfl, a, _, _, _, rfl, rfl, hp, atI_nat (j := 0) rfl, _, rfl, b, _, _, _, rfl, rfl, hq, atI_nat (j := 1) rfl, _, _, rfl, rfl, mid_mul m1 m4, ?_⟩
    refine ⟨_, rfl, b, _, _, _, rfl, rfl, hq, atI_nat (j := 0) rfl, _, rfl, a, _, _, _, rfl, rfl, hp, atI_nat (j := 1) rfl, _, _, rfl, rfl, mid_mul m3 m2, ?_⟩
    refine ⟨_, rfl, _, rfl, _, _, rfl, rfl, _, rfl, ite2 (fun e => ?_) (fun e => ?_)⟩
    · rw [if_pos (of_decide_eq_true e)] at k
      exact ⟨_, rfl, k⟩
    · rw [if_neg (fun z => e (decide_eq_true z))] at k
      refine ⟨_, rfl, _, rfl, _, _, rfl, rfl, _, rfl, ite2 (fun e => ?_) (fun e => ?_)⟩
      · rw [if_pos (of_decide_eq_true e)] at k
        exact k
      · rw [if_neg (fun z => e (decide_eq_true z))] at k
        exact k
/-- the power of (n / d) by an exponent that is not negative -/
def spRep (K : PySem.W.Frag) (fM : Addr) : Sp := fun vs H Q _ => ∃ (a o : Addr) (n d : Int) (k : Nat), vs = [.ref a, .int (k : Int), .ref o, .ref fM] ∧ d ≠ 0 ∧ n.natAbs < 2 ^ 12 ∧ d.natAbs < 2 ^ 12 ∧ k ≤ 64 ∧ Fr K H a (F n d) ∧ Fr K H o (1, 1) ∧
  ∀ p H', Same H H' → Fr K H' p (pwF n d k) → Q (.ref p) H'
theorem pw_mid {n d : Int} (h : d ≠ 0) (hn : n.natAbs < 2 ^ 12) (hd : d.natAbs < 2 ^ 12) {k : Nat} (hk : k ≤ 64) : mid (pwF n d k).1 ∧ mid (pwF n d k).2 ∧ (pwF n d k).2 ≠ 0 := by
  have e : 12 * k + 1 ≤ 1900 := by omega
  exact ⟨Nat.lt_of_lt_of_le (pwF_lt1 h hn k) (Nat.pow_le_pow_right (by decide) e), Nat.lt_of_lt_of_le (pwF_lt2 h hd k) (Nat.pow_le_pow_right (by decide) e), Int.ne_of_gt (F_pos _ (pow_ne h k))⟩
theorem bit1 (k : Nat) : Builtin.bitAnd (k : Int) 1 = ((k % 2 : Nat) : Int) := by
  have h := PySem.W.kbt_mask (k : Int) 1
  have e : (2 : Int) ^ 1 - 1 = 1 := by decide
  rw [e] at h
  rw [h]
  have e2 : (2 : Int) ^ 1 = 2 := by decide
  rw [e2]
  omega
theorem ok_repeated (T : Top K mg) : FnOk P w K mg base CX0 3 T.f_repeated T.d_repeated ["base", "exponent", "one", "combine"] (spRep K T.f_multiply) := by
  refine T.F_repeated.ok sc_repeated (fun vs H Q E h => ?_) (fun cdv A outer s H vs Q E hr h => ?_)
  · obtain ⟨a, o, n, d, k, rfl, _⟩ := h
    rfl
  · obtain ⟨a, o, n, d, k, rfl, hd, n60, d60, hk, ha, ho, q⟩ := h
    refine ⟨_, (pss_cons (ps_set (i := 4) sc_repeated.nd rfl (by first | exact .inl rfl | exact .inr rfl) (pv 2))
      (pss_cons (ps_set (i := 5) sc_repeated.nd rfl (by first | exact .inl rfl | exact .inr rfl) (pv 0))
      (pss_cons (ps_set (i := 6) sc_repeated.nd rfl (by first | exact .inl rfl | exact .inr rfl) (pv 1))
      (pss_cons (ps_while PassesOwn.never (pt_cmpR op_gt (pv 6) pe_int (nomark _)) (C8.pss_cut (ps_if (pt_truth (pe_op op_and (pv 6) pe_int) (by intro _; rfl)) (pss_one (ps_set (i := 4) sc_repeated.nd rfl (by first | exact .inl rfl | exact .inr rfl) (pe_callL (i := 3) (ok_multiply T) (hr.mono (by decide)) rfl (Or.inl rfl) T.F_multiply.kp T.b_multiply .nil pass0 (pa_cons (pv 4) (pa_cons (pv 5) pa_nil))))) pss_nil)
      (pss_cons (ps_aug (i := 6) sc_repeated.nd rfl (by first | exact .inl rfl | exact .inr rfl) pe_int iop_shr)
      (pss_one (ps_if (pt_cmpR op_gt (pv 6) pe_int (nomark _)) (pss_one (ps_set (i := 5) sc_repeated.nd rfl (by first | exact .inl rfl | exact .inr rfl) (pe_callL (i := 3) (ok_multiply T) (hr.mono (by decide)) rfl (Or.inl rfl) T.F_multiply.kp T.b_multiply .nil pass0 (pa_cons (pv 5) (pa_cons (pv 5) pa_nil))))) pss_nil)))))
      (pss_one (ps_ret (pv 4))))))), ?_⟩
    refine ⟨_, rfl, _, rfl, _, rfl, ?_⟩
    -- while left > 0
    refine while_by (fun σ H1 => ∃ (r u : Addr) (i j l : Nat), σ = [some (.ref a), some (.int (k : Int)), some (.ref o), some (.ref T.f_multiply), some (.ref r), some (.ref u), some (.int (l : Int))] ∧ Same H H1 ∧
        Fr K H1 r (pwF n d i) ∧ Fr K H1 u (pwF n d j) ∧ i + j * l = k) (fun σ _ => match σ with | [_, _, _, _, _, _, some (.int l)] => l.toNat | _ => 0)
      ⟨o, a, 0, 1, k, rfl, Same.refl H, by rw [pwF_zero]; exact ho, by rw [pwF_one]; exact ha, by omega⟩ ?_ ?_
    · rintro σ H1 ⟨r, u, i, j, l, rfl, s1, hr1, hu1, e⟩
      refine ⟨_, rfl, _, _, rfl, rfl, _, rfl, ite2 (fun el => ?_) (fun el => ?_)⟩
      · have el : 0 < l := by
          have := of_decide_eq_true el
          omega
        have hi : i ≤ 64 := by omega
        have hj : j ≤ 64 := by
          have : j * 1 ≤ j * l := Nat.mul_le_mul_left j el
          omega
        obtain ⟨m1, m2, m3⟩ := pw_mid hd n60 d60 hi
        obtain ⟨m4, m5, m6⟩ := pw_mid hd n60 d60 hj
        have hmod : l = l % 2 + 2 * (l / 2) := by omega
        have e2 : i + j * (l % 2) + j * (2 * (l / 2)) = k := by
          rw [Nat.add_assoc, ← Nat.mul_add, ← hmod]
          exact e
        -- if left & 1
        refine ⟨fun σ' H' => ∃ (r' : Addr), σ' = [some (.ref a), some (.int (k : Int)), some (.ref o), some (.ref T.f_multiply), some (.ref r'), some (.ref u), some (.int (l : Int))] ∧ Same H H' ∧ Fr K H' r' (pwF n d (i + j * (l % 2))) ∧ Fr K H' u (pwF n d j), ?_, ?_⟩
        · refine ⟨_, rfl, _, _, rfl, rfl, _, rfl, ?_⟩
          rw [bit1]
          refine iteB (fun eb => ?_) (fun eb => ?_)
          · have hb : l % 2 = 1 := by
              have : ¬ ((l % 2 : Nat) : Int) = 0 := by simpa using eb
              omega
            refine ⟨rfl, _, rfl, _, rfl, r, u, _, _, rfl, hr1, hu1, ⟨m1, m2, m4, m5, m3, m6⟩, fun p H' sp np hp => ?_⟩
            refine ⟨p, rfl, s1.trans sp, ?_, sp.fr hu1⟩
            rw [pwF_mul hd] at hp
            rw [hb, Nat.mul_one]
            exact SqT.of hp
          · have hb : l % 2 = 0 := by
              have : ((l % 2 : Nat) : Int) = 0 := by simpa using eb
              omega
            refine ⟨r, rfl, s1, ?_, hu1⟩
            rw [hb, Nat.mul_zero, Nat.add_zero]
            exact hr1
        · rintro σ' H' ⟨r', rfl, s2, hr2, hu2⟩
          -- left >>= 1
          refine ⟨_, rfl, _, _, rfl, rfl, (by show (0 : Int) ≤ 1; decide), ?_⟩
          have esh : (l : Int) / 2 ^ (1 : Int).toNat = ((l / 2 : Nat) : Int) := by
            show (l : Int) / 2 = _
            omega
          refine ⟨_, rfl, _, _, rfl, rfl, _, rfl, ite2 (fun e3 => ?_) (fun e3 => ?_)⟩
          · have e3 : 0 < l / 2 := by
              have := of_decide_eq_true e3
              rw [esh] at this
              omega
            have hjj : j + j ≤ 64 := by
              have : j * (2 * 1) ≤ j * (2 * (l / 2)) := Nat.mul_le_mul_left j (by omega)
              omega
            refine ⟨rfl, _, rfl, _, rfl, u, u, _, _, rfl, hu2, hu2, ⟨m4, m5, m4, m5, m6, m6⟩, fun p H' sp np hp => ?_⟩
            rw [pwF_mul hd] at hp
            refine ⟨⟨r', p, i + j * (l % 2), j + j, l / 2, ?_, s2.trans sp, sp.fr hr2, SqT.of hp, ?_⟩, ?_⟩
            · rw [← esh]
              rfl
            · rw [← e2, Nat.add_mul, Nat.mul_left_comm, Nat.two_mul]
            · show ((l : Int) / 2 ^ (1 : Int).toNat).toNat < (l : Int).toNat
              rw [esh]
              omega
          · have e3 : l / 2 = 0 := by
              have : ¬ (0 : Int) < (l : Int) / 2 ^ (1 : Int).toNat := fun z => e3 (decide_eq_true z)
              rw [esh] at this
              omega
            refine ⟨⟨r', u, i + j * (l % 2), j, l / 2, ?_, s2, hr2, hu2, ?_⟩, ?_⟩
            · rw [← esh]
              rfl
            · rw [← e2, e3]
            · show ((l : Int) / 2 ^ (1 : Int).toNat).toNat < (l : Int).toNat
              rw [esh]
              omega
      · have el : l = 0 := by
          have : ¬ (0 : Int) < (l : Int) := fun z => el (decide_eq_true z)
          omega
        subst el
        have : i = k := by omega
        subst this
        exact ⟨_, rfl, q r H1 s1 hr1⟩
    · rintro σ H1 Q1 Q2 hq ⟨v, hv, i, j, hi, hj, b, hb, h⟩
      exact ⟨v, hv, i, j, hi, hj, b, hb, hq _ _ h⟩
def spRaised (K : PySem.W.Frag) : Sp := fun vs H Q _ => ∃ (a : Addr) (n d : Int) (x : Int), vs = [.ref a, .int x] ∧ 0 < d ∧ n.natAbs < 2 ^ 12 ∧ d.natAbs < 2 ^ 12 ∧ x.natAbs ≤ 64 ∧ (x < 0 → n ≠ 0) ∧ Fr K H a (F n d) ∧
  ∀ p H', Same H H' → Fr K H' p (if 0 ≤ x then pwF n d x.natAbs else pwF d n x.natAbs) → Q (.ref p) H'
theorem divF_one {n d : Int} (hn : n ≠ 0) (hd : d ≠ 0) : divF (1, 1) (F n d) = F d n := by
  have h := divF_F (a := 1) (b := 1) (c := n) (d := d) (by decide) hd hn
  rw [F_one] at h
  rw [h, Int.one_mul, Int.one_mul]
theorem ok_raised (T : Top K mg) : FnOk P w K mg base CX0 4 T.f_raised T.d_raised ["a", "exponent"] (spRaised K) := by
  refine T.F_raised.ok sc_raised (fun vs H Q E h => ?_) (fun cdv A outer s H vs Q E hr h => ?_)
  · obtain ⟨a, n, d, x, rfl, _⟩ := h
    rfl
  · obtain ⟨a, n, d, x, rfl, hd, n60, d60, hx, hn, ha, q⟩ := h
    have hd0 : d ≠ 0 := Int.ne_of_gt hd
    have n1 : mid (F n d).1 := by
      have := (pw_mid hd0 n60 d60 (k := 1) (by decide)).1
      rw [pwF_one] at this
      exact this
    have n2 : mid (F n d).2 := by
      have := (pw_mid hd0 n60 d60 (k := 1) (by decide)).2.1
      rw [pwF_one] at this
      exact this
    have mone : mid 1 := Nat.lt_of_lt_of_le (show (1 : Nat) < 2 ^ 1 by decide) (Nat.pow_le_pow_right (by decide) (by decide))
    refine ⟨_, (pss_cons (ps_if (pt_cmpR op_lt (pv 1) pe_int (nomark _)) (pss_one (ps_ret (pe_call (ok_repeated T) (hr.mono (by decide)) (by rfl) T.g_repeated T.F_repeated.kp T.b_repeated .nil pass0 (pa_cons (pe_call (ok_divide T) (hr.mono (by decide)) (by rfl) T.g_divide T.F_divide.kp T.b_divide .nil pass0 (pa_cons (pe_tup (pa_cons pe_int (pa_cons pe_int pa_nil))) (pa_cons (pv 0) pa_nil))) (pa_cons (pe_un un_neg (pv 1)) (pa_cons (pe_tup (pa_cons pe_int (pa_cons pe_int pa_nil))) (pa_cons (pe_glob (v := .ref T.f_multiply) (by rfl) T.g_multiply rfl) pa_nil))))))) pss_nil)
      (pss_one (ps_ret (pe_call (ok_repeated T) (hr.mono (by decide)) (by rfl) T.g_repeated T.F_repeated.kp T.b_repeated .nil pass0 (pa_cons (pv 0) (pa_cons (pv 1) (pa_cons (pe_tup (pa_cons pe_int (pa_cons pe_int pa_nil))) (pa_cons (pe_glob (v := .ref T.f_multiply) (by rfl) T.g_multiply rfl) pa_nil)))))))), ?_⟩
    refine ⟨_, rfl, _, _, rfl, rfl, _, rfl, ite2 (fun e => ?_) (fun e => ?_)⟩
    · have e := of_decide_eq_true e
      rw [if_neg (by omega)] at q
      have hn0 := hn e
      refine ⟨sl2, fun o1 no1 => ?_⟩
      have s1 := same_upd (o := .tup [.int 1, .int 1]) no1
      refine ⟨_, rfl, o1, a, (1, 1), F n d, rfl, SqT.of upd_same, s1.fr ha, ⟨mone, mone, n1, n2, by decide, fun z => hn0 ((F_zero n hd0).mp z)⟩, fun b H2 s2 nb hb => ?_⟩
      rw [divF_one hn0 hd0] at hb
      refine ⟨_, rfl, _, rfl, sl2, fun o2 no2 => ?_⟩
      have s3 := same_upd (o := .tup [.int 1, .int 1]) no2
      refine ⟨b, o2, d, n, x.natAbs, ?_, hn0, d60, n60, hx, s3.fr (SqT.of hb), SqT.of upd_same, fun p H' s4 hp => q p H' (((s1.trans s2).trans s3).trans s4) hp⟩
      show [V.ref b, V.int (-x), V.ref o2, V.ref T.f_multiply] = _
      rw [show -x = ((x.natAbs : Nat) : Int) by omega]
    · have e : ¬ x < 0 := fun z => e (decide_eq_true z)
      rw [if_pos (by omega)] at q
      refine ⟨_, rfl, _, rfl, sl2, fun o2 no2 => ?_⟩
      have s3 := same_upd (o := .tup [.int 1, .int 1]) no2
      refine ⟨a, o2, n, d, x.natAbs, ?_, hd0, n60, d60, hx, s3.fr ha, SqT.of upd_same, fun p H' s4 hp => q p H' (s3.trans s4) hp⟩
      show [V.ref a, V.int x, V.ref o2, V.ref T.f_multiply] = _
      rw [show x = ((x.natAbs : Nat) : Int) by omega]
      rfl
theorem ok_law_pow (T : Top K mg) : FnOk P w K mg base CX0 4 T.f_law_pow T.d_law_pow ["p", "n"] (spRaised K) := by
  refine T.F_law_pow.ok sc_law_pow (fun vs H Q E h => ?_) (fun cdv A outer s H vs Q E hr h => ?_)
  · obtain ⟨a, n, d, x, rfl, _⟩ := h
    rfl
  · obtain ⟨a, n, d, x, rfl, hd, n60, d60, hx, hn, ha, q⟩ := h
    have hd0 : d ≠ 0 := Int.ne_of_gt hd
    obtain ⟨f1, f2, f3⟩ := pw_mid hd0 n60 d60 (k := 1) (by decide)
    rw [pwF_one] at f1 f2 f3
    refine ⟨_, (pss_cons (ps_set (i := 2) sc_law_pow.nd rfl (by first | exact .inl rfl | exact .inr rfl) (pe_tup (pa_cons pe_int (pa_cons pe_int pa_nil))))
      (pss_cons (ps_for PassesOwn.never rfl (pi_range1 (by rfl) T.m_range (pa_cons (pe_callB call_abs (by rfl) T.m_abs (by decide +kernel) (pa_cons (pv 1) pa_nil)) pa_nil)) (pg_name (i := 3) sc_law_pow.nd rfl (by first | exact .inl rfl | exact .inr rfl)) (pss_one (ps_set (i := 2) sc_law_pow.nd rfl (by first | exact .inl rfl | exact .inr rfl) (pe_call (ok_law_mul T) (hr.mono (by decide)) (by rfl) T.g_law_mul T.F_law_mul.kp T.b_law_mul .nil pass0 (pa_cons (pv 2) (pa_cons (pv 0) pa_nil))))))
      (pss_one (ps_ret (pe_ifExp (pt_cmpR op_ge (pv 1) pe_int (nomark _)) (pv 2) (pe_call (ok_law_frac T) (hr.mono (by decide)) (by rfl) T.g_law_frac T.F_law_frac.kp T.b_law_frac .nil pass0 (pa_cons (pe_ix ix_tup (pv 2) pe_int (fun _ _ => rfl)) (pa_cons (pe_ix ix_tup (pv 2) pe_int (fun _ _ => rfl)) pa_nil)))))))), ?_⟩
    refine ⟨sl2, fun o no => ?_⟩
    have s0 := same_upd (o := .tup [.int 1, .int 1]) no
    refine ⟨_, rfl, x, rfl, _, rfl, by split <;> omega, by split <;> omega, ?_⟩
    rw [show (if x < 0 then -x else x).toNat = x.natAbs by split <;> omega]
    refine for_range (fun i σ H1 => ∃ (r : Addr) (y : Option V), σ = [some (.ref a), some (.int x), some (.ref r), y] ∧ Same H H1 ∧ Fr K H1 r (pwF n d i)) ⟨o, none, rfl, s0, by rw [pwF_zero]; exact SqT.of upd_same⟩ ?_ ?_
    · rintro i σ H1 hi ⟨r, y, rfl, s1, hr1⟩
      obtain ⟨m1, m2, m3⟩ := pw_mid hd0 n60 d60 (k := i) (by omega)
      refine ⟨_, rfl, _, rfl, r, a, _, _, rfl, hr1, s1.fr ha, ⟨m1, m2, f1, f2, m3, f3⟩, fun p H' sp np hp => ?_⟩
      refine ⟨p, _, rfl, s1.trans sp, ?_⟩
      rw [← pwF_one, pwF_mul hd0] at hp
      exact SqT.of hp
    · rintro σ H1 ⟨r, y, rfl, s1, hr1⟩
      obtain ⟨m1, m2, m3⟩ := pw_mid hd0 n60 d60 hx
      refine ⟨_, rfl, _, _, rfl, rfl, _, rfl, ite2 (fun e => ?_) (fun e => ?_)⟩
      · have e := of_decide_eq_true e
        rw [if_pos e] at q
        exact ⟨_, rfl, q r H1 s1 hr1⟩
      · have e : ¬ 0 ≤ x := fun z => e (decide_eq_true z)
        rw [if_neg e] at q
        have hn0 : n ≠ 0 := hn (by omega)
        have hnp : n ^ x.natAbs ≠ 0 := Int.pow_ne_zero hn0
        have h1 : (pwF n d x.natAbs).1 ≠ 0 := fun z => hnp ((F_zero _ (pow_ne hd0 _)).mp z)
        have m1' : small (pwF n d x.natAbs).1 := Nat.lt_of_lt_of_le m1 (Nat.pow_le_pow_right (by decide) (by decide))
        refine ⟨_, rfl, r, _, _, _, rfl, rfl, hr1, atI_nat (j := 1) rfl, _, rfl, r, _, _, _, rfl, rfl, hr1, atI_nat (j := 0) rfl, _, _, rfl, h1, m1', fun p H' sp np hp => ?_⟩
        refine q p H' (s1.trans sp) (SqT.of ?_)
        have ef : F (pwF n d x.natAbs).2 (pwF n d x.natAbs).1 = pwF d n x.natAbs := F_flip hnp (pow_ne hd0 _)
        rw [ef] at hp
        exact hp
open K04
/-! ### powers as rational numbers -/
def rp (r : Rat) (x : Int) : Rat := if 0 ≤ x then r ^ x.natAbs else r⁻¹ ^ x.natAbs
theorem pwF_fq {n d : Int} (hd : d ≠ 0) : ∀ k : Nat, pwF n d k = fq ((Rat.divInt n d) ^ k)
  | 0 => by
    rw [pwF_zero, Rat.pow_zero]
    rfl
  | k + 1 => by
    rw [← pwF_mul hd k 1, pwF_fq hd k, pwF_one, SM.F_fq n hd, SM.mulF_fq, Rat.pow_succ]
theorem inv_divInt (r : Rat) : Rat.divInt (r.den : Int) r.num = r⁻¹ := by
  have h := Rat.inv_divInt r.num (r.den : Int)
  rw [← h]
  congr 1
  exact Rat.num_divInt_den r
/-- small fractions -/
def sm12 (r : Rat) : Prop := r.num.natAbs < 2 ^ 12 ∧ r.den < 2 ^ 12
def spRp (K : PySem.W.Frag) : Sp := fun vs H Q _ => ∃ (a : Addr) (r : Rat) (x : Int), vs = [.ref a, .int x] ∧ sm12 r ∧ x.natAbs ≤ 64 ∧ (x < 0 → r ≠ 0) ∧ Fr K H a (fq r) ∧ ∀ p H', Same H H' → Fr K H' p (fq (rp r x)) → Q (.ref p) H'
theorem rp_of (K : PySem.W.Frag) : ∀ {vs H Q E}, spRp K vs H Q E → spRaised K vs H Q E := fun {vs H Q E} ⟨a, r, x, e, ⟨h1, h2⟩, hx, hn, ha, q⟩ => by
  have hd : (0 : Int) < (r.den : Int) := by
    have := r.den_pos
    omega
  refine ⟨a, r.num, (r.den : Int), x, e, hd, h1, by rw [Int.natAbs_natCast]; exact h2, hx, fun z => SM.num_ne (hn z), by rw [SM.F_red]; exact ha, fun p H' s hp => q p H' s ?_⟩
  unfold rp
  split at hp
  · rename_i h
    rw [if_pos h]
    rw [pwF_fq (Int.ne_of_gt hd), Rat.num_divInt_den] at hp
    exact hp
  · rename_i h
    rw [if_neg h]
    rw [pwF_fq (SM.num_ne (hn (by omega))), inv_divInt] at hp
    exact hp
theorem ok_rp (T : Top K mg) : FnOk P w K mg base CX0 4 T.f_raised T.d_raised ["a", "exponent"] (spRp K) := (ok_raised T).imp fun _ _ _ _ h => rp_of K h
theorem ok_law_rp (T : Top K mg) : FnOk P w K mg base CX0 4 T.f_law_pow T.d_law_pow ["p", "n"] (spRp K) := (ok_law_pow T).imp fun _ _ _ _ h => rp_of K h
/-- compare, as rational numbers -/
def spCm (K : PySem.W.Frag) : Sp := fun vs H Q _ => ∃ (a b : Addr) (r s : Rat), vs = [.ref a, .ref b] ∧ Fr K H a (fq r) ∧ Fr K H b (fq s) ∧ Sm r ∧ Sm s ∧ Q (.int (if r < s then -1 else if s < r then 1 else 0)) H
theorem lt_fq (r s : Rat) : (fq r).1 * (fq s).2 < (fq s).1 * (fq r).2 ↔ r < s := (Rat.lt_iff r s).symm
theorem ok_cm (T : Top K mg) : FnOk P w K mg base CX0 1 T.f_compare T.d_compare ["a", "b"] (spCm K) := (ok_compare T).imp fun vs H Q E ⟨a, b, r, s, e, ha, hb, h1, h2, q⟩ => by
  refine ⟨a, b, fq r, fq s, e, ha, hb, h1.1, h1.2, h2.1, h2.2, ?_⟩
  have e1 := lt_fq r s
  have e2 := lt_fq s r
  by_cases z : r < s
  · rw [if_pos z] at q
    rw [if_pos (e1.mpr z)]
    exact q
  · rw [if_neg z] at q
    rw [if_neg (fun y => z (e1.mp y))]
    by_cases z2 : s < r
    · rw [if_pos z2] at q
      rw [if_pos (e2.mpr z2)]
      exact q
    · rw [if_neg z2] at q
      rw [if_neg (fun y => z2 (e2.mp y))]
      exact q
theorem sm_rp {r : Rat} (h : sm12 r) (n : r ≠ 0) {x : Int} (hx : x.natAbs ≤ 64) : Sm (rp r x) := by
  have hd : (r.den : Int) ≠ 0 := SM.den_ne r
  unfold rp
  split
  · have e := pwF_fq (n := r.num) hd x.natAbs
    rw [Rat.num_divInt_den] at e
    obtain ⟨m1, m2, _⟩ := pw_mid hd h.1 (by rw [Int.natAbs_natCast]; exact h.2) hx
    rw [e] at m1 m2
    exact ⟨m1, m2⟩
  · have e := pwF_fq (n := (r.den : Int)) (SM.num_ne n) x.natAbs
    rw [inv_divInt] at e
    obtain ⟨m1, m2, _⟩ := pw_mid (SM.num_ne n) (by rw [Int.natAbs_natCast]; exact h.2) h.1 hx
    rw [e] at m1 m2
    exact ⟨m1, m2⟩
/-! ### sizes of fractions, in bits -/
/-- both parts below 2 ^ b -/
def Bz (b : Nat) (r : Rat) : Prop := (fq r).1.natAbs < 2 ^ b ∧ (fq r).2.natAbs < 2 ^ b
theorem Bz.le {a b : Nat} {r : Rat} (h : Bz a r) (k : a ≤ b) : Bz b r := ⟨Nat.lt_of_lt_of_le h.1 (Nat.pow_le_pow_right (by decide) k), Nat.lt_of_lt_of_le h.2 (Nat.pow_le_pow_right (by decide) k)⟩
theorem Bz.sm {b : Nat} {r : Rat} (h : Bz b r) (k : b ≤ 1900) : Sm r := ⟨(h.le k).1, (h.le k).2⟩
theorem mul_lt2 {x y : Int} {a b : Nat} (hx : x.natAbs < 2 ^ a) (hy : y.natAbs < 2 ^ b) : (x * y).natAbs < 2 ^ (a + b) := by
  rw [Int.natAbs_mul, Nat.pow_add]
  exact Nat.mul_lt_mul'' hx hy
theorem add_lt2 {x y : Int} {a : Nat} (hx : x.natAbs < 2 ^ a) (hy : y.natAbs < 2 ^ a) : (x + y).natAbs < 2 ^ (a + 1) := by
  have := Int.natAbs_add_le x y
  rw [Nat.pow_succ]
  omega
theorem Bz.mul {a b : Nat} {r s : Rat} (h : Bz a r) (k : Bz b s) : Bz (a + b) (r * s) := by
  unfold Bz
  rw [← SM.mulF_fq]
  have hd := Int.mul_ne_zero (SM.den_ne r) (SM.den_ne s)
  exact ⟨Nat.lt_of_le_of_lt (F_le1 _ hd) (mul_lt2 h.1 k.1), Nat.lt_of_le_of_lt (F_le2 _ hd) (mul_lt2 h.2 k.2)⟩
theorem Bz.add {a b : Nat} {r s : Rat} (h : Bz a r) (k : Bz b s) : Bz (a + b + 1) (r + s) := by
  unfold Bz
  rw [← SM.addF_fq]
  have hd := Int.mul_ne_zero (SM.den_ne r) (SM.den_ne s)
  have e : b + a = a + b := Nat.add_comm _ _
  exact ⟨Nat.lt_of_le_of_lt (F_le1 _ hd) (add_lt2 (mul_lt2 h.1 k.2) (e ▸ mul_lt2 k.1 h.2)), Nat.lt_of_le_of_lt (F_le2 _ hd) (Nat.lt_of_lt_of_le (mul_lt2 h.2 k.2) (Nat.pow_le_pow_right (by decide) (Nat.le_succ _)))⟩
theorem Bz.sub {a b : Nat} {r s : Rat} (h : Bz a r) (k : Bz b s) : Bz (a + b + 1) (r - s) := by
  unfold Bz
  rw [← SM.subF_fq]
  have hd := Int.mul_ne_zero (SM.den_ne r) (SM.den_ne s)
  have e : b + a = a + b := Nat.add_comm _ _
  have hn : (-((fq s).1 * (fq r).2)).natAbs < 2 ^ (a + b) := by
    rw [Int.natAbs_neg]
    exact e ▸ mul_lt2 k.1 h.2
  refine ⟨Nat.lt_of_le_of_lt (F_le1 _ hd) ?_, Nat.lt_of_le_of_lt (F_le2 _ hd) (Nat.lt_of_lt_of_le (mul_lt2 h.2 k.2) (Nat.pow_le_pow_right (by decide) (Nat.le_succ _)))⟩
  rw [Int.sub_eq_add_neg]
  exact add_lt2 (mul_lt2 h.1 k.2) hn
theorem Bz.div {a b : Nat} {r s : Rat} (h : Bz a r) (k : Bz b s) (n : s ≠ 0) : Bz (a + b) (r / s) := by
  unfold Bz
  rw [← SM.divF_fq r n]
  have hd := Int.mul_ne_zero (SM.den_ne r) (SM.num_ne n)
  exact ⟨Nat.lt_of_le_of_lt (F_le1 _ hd) (mul_lt2 h.1 k.2), Nat.lt_of_le_of_lt (F_le2 _ hd) (mul_lt2 h.2 k.1)⟩
/-- a power: b bits, exponent up to e -/
theorem Bz.rp {b e : Nat} {r : Rat} (h : Bz b r) (n : r ≠ 0) {x : Int} (hx : x.natAbs ≤ e) : Bz (b * e + 1) (rp r x) := by
  have hd : (r.den : Int) ≠ 0 := SM.den_ne r
  have le : b * x.natAbs + 1 ≤ b * e + 1 := Nat.succ_le_succ (Nat.mul_le_mul_left b hx)
  have up : ∀ {z : Nat}, z < 2 ^ (b * x.natAbs + 1) → z < 2 ^ (b * e + 1) := fun hz => Nat.lt_of_lt_of_le hz (Nat.pow_le_pow_right (by decide) le)
  have h1 : r.num.natAbs < 2 ^ b := h.1
  have h2 : (r.den : Int).natAbs < 2 ^ b := h.2
  unfold KP.rp
  split
  · have e1 := pwF_fq (n := r.num) hd x.natAbs
    rw [Rat.num_divInt_den] at e1
    unfold Bz
    rw [← e1]
    exact ⟨up (pwF_lt1 hd h1 _), up (pwF_lt2 hd h2 _)⟩
  · have e1 := pwF_fq (n := (r.den : Int)) (SM.num_ne n) x.natAbs
    rw [inv_divInt] at e1
    unfold Bz
    rw [← e1]
    exact ⟨up (pwF_lt1 (SM.num_ne n) h2 _), up (pwF_lt2 (SM.num_ne n) h1 _)⟩
def spAbove (T : Top K mg) : Sp := fun vs H Q E => ∃ (a b : Addr) (x y : Rat), vs = [.ref a, .ref b] ∧ Fr K H a (fq x) ∧ Fr K H b (fq y) ∧ Sm x ∧ Sm y ∧
  (0 < x → 0 < y → ∀ H', Ext H H' → Q .non H') ∧ (¬ (0 < x ∧ 0 < y) → ∀ H', Ext H H' → E (.ref T.f_InvalidWeight) none H')
theorem ok_check_above_zero (T : Top K mg) : FnOk P w K mg base (L2.CX P w) 2 T.f_check_above_zero T.d_check_above_zero ["x", "y"] (spAbove T) := by
  refine T.F_check_above_zero.okX sc_check_above_zero (fun vs H Q E h => ?_) (fun cdv A outer s H vs Q E hr h => ?_)
  · obtain ⟨a, b, x, y, rfl, _⟩ := h
    rfl
  obtain ⟨a, b, x, y, rfl, ha, hb, sx, sy, q1, q2⟩ := h
  refine ⟨_, (pss_one (ps_if (PW.pt (pw_or (pt_cmpR op_le (pe_call (ok_cm T) (hr.mono (by decide)) (by rfl) T.g_compare T.F_compare.kp T.b_compare .nil pass0 (pa_cons (pv 0) (pa_cons (pe_tup (pa_cons pe_int (pa_cons pe_int pa_nil))) pa_nil))) pe_int (nomark _)) (pw_or1 (pt_cmpR op_le (pe_call (ok_cm T) (hr.mono (by decide)) (by rfl) T.g_compare T.F_compare.kp T.b_compare .nil pass0 (pa_cons (pv 1) (pa_cons (pe_tup (pa_cons pe_int (pa_cons pe_int pa_nil))) pa_nil))) pe_int (nomark _))))) (pss_one (ps_raise rfl (takes_of rfl rfl rfl rfl) (pmk_own PySem.F.excBase_ValueError T.q_InvalidWeight T.g_InvalidWeight T.k_InvalidWeight (raises_own T.b_InvalidWeight T.y_InvalidWeight) (by rfl)))) pss_nil)), ?_⟩
  refine ⟨_, rfl, sl2, fun t1 h1 => ⟨a, t1, x, 0, rfl, (ext_upd h1).tup ha, SqT.of upd_same, sx, sm_zero, ?_⟩⟩
  have x1 := ext_upd (o := .tup [.int 0, .int 1]) h1
  have le0 : ∀ r : Rat, (if r < 0 then (-1 : Int) else if 0 < r then 1 else 0) ≤ 0 ↔ ¬ 0 < r := fun r => by
    split
    · rename_i h
      exact ⟨fun _ z => absurd (Std.lt_trans h z) (Rat.lt_irrefl), fun _ => by decide⟩
    · split
      · rename_i h
        exact ⟨fun z => absurd z (by decide), fun z => absurd h z⟩
      · rename_i h
        exact ⟨fun _ => h, fun _ => by decide⟩
  refine ⟨_, _, rfl, rfl, _, rfl, iteB (fun z => iteT (q2 (fun h => (le0 x).mp (of_decide_eq_true z) h.1) _ x1)) (fun z => ?_)⟩
  have px : 0 < x := Decidable.byContradiction fun h => of_decide_eq_false z ((le0 x).mpr h)
  refine ⟨_, rfl, sl2, fun t2 h2 => ⟨b, t2, y, 0, rfl, (x1.trans (ext_upd h2)).tup hb, SqT.of upd_same, sy, sm_zero, ?_⟩⟩
  have x2 := ext_upd (o := .tup [.int 0, .int 1]) h2
  refine ⟨_, _, rfl, rfl, _, rfl, iteB (fun z => q2 (fun h => (le0 y).mp (of_decide_eq_true z) h.2) _ (x1.trans x2)) (fun z => ?_)⟩
  have py : 0 < y := Decidable.byContradiction fun h => of_decide_eq_false z ((le0 y).mpr h)
  exact q1 px py _ (x1.trans x2)
def spSmall (T : Top K mg) : Sp := fun vs H Q E => ∃ (p a b : Addr) (fs : List Int) (es : List Eg) (x y : Rat), vs = [.ref p, .ref a, .ref b] ∧ SpAt T H p fs es ∧ Fr K H a (fq x) ∧ Fr K H b (fq y) ∧ Sm x ∧ Sm y ∧
  (0 < x → 0 < y → fs.length ≤ 6 → ∀ H', Ext H H' → Q .non H') ∧ (¬ (0 < x ∧ 0 < y) → ∀ H', Ext H H' → E (.ref T.f_InvalidWeight) none H') ∧ (0 < x → 0 < y → 6 < fs.length → ∀ H', Ext H H' → E (.ref T.f_TooLarge) none H')
theorem ok_check_small (T : Top K mg) : FnOk P w K mg base (L2.CX P w) 3 T.f_check_small T.d_check_small ["spins", "x", "y"] (spSmall T) := by
  refine T.F_check_small.okX sc_check_small (fun vs H Q E h => ?_) (fun cdv A outer s H vs Q E hr h => ?_)
  · obtain ⟨p, a, b, fs, es, x, y, rfl, _⟩ := h
    rfl
  obtain ⟨p, a, b, fs, es, x, y, rfl, hp, ha, hb, sx, sy, q1, q2, q3⟩ := h
  refine ⟨_, (pss_cons (ps_expr (pe_call (ok_check_above_zero T) (hr.mono (by decide)) (by rfl) T.g_check_above_zero T.F_check_above_zero.kp T.b_check_above_zero .nil (passes_call (takes_of rfl rfl rfl rfl) (fun _ _ _ _ h => h)) (pa_cons (pv 1) (pa_cons (pv 2) pa_nil))))
      (pss_one (ps_if (pt_cmpR op_gt (pe_callB call_len_seq (by rfl) T.m_len (by decide +kernel) (pa_cons (pe_fld (pv 0) rfl) pa_nil)) (pe_glob (v := .int 6) (by rfl) T.g_MOST_VERTICES_distributions ⟨_, rfl⟩) (nomark _)) (pss_one (ps_raise rfl (takes_of rfl rfl rfl rfl) (pmk_own PySem.F.excBase_ValueError T.q_TooLarge T.g_TooLarge T.k_TooLarge (raises_own T.b_TooLarge T.y_TooLarge) (by rfl)))) pss_nil))), ?_⟩
  refine ⟨_, rfl, _, rfl, a, b, x, y, rfl, ha, hb, sx, sy, fun px py H1 s1 => ?_, fun h H1 s1 => q2 h H1 s1⟩
  have hp1 := hp.up s1
  obtain ⟨gf, ge, dx, fb, eb, ys, h1, h2, h3, h4⟩ := hp1
  refine ⟨_, rfl, p, T.C_Spins, dx, _, .ref fb, rfl, h1, T.cl_Spins, T.na_Spins_fields, rfl, fb, _, rfl, .inr h2, _, _, rfl, rfl, _, rfl, iteB (fun z => ?_) (fun z => ?_)⟩
  · have z : (6 : Int) < (((fs.map V.int).length : Nat) : Int) := of_decide_eq_true z
    rw [List.length_map] at z
    exact q3 px py (by omega) H1 s1
  · have z : ¬ (6 : Int) < (((fs.map V.int).length : Nat) : Int) := of_decide_eq_false z
    rw [List.length_map] at z
    exact q1 px py (by omega) H1 s1
def wtR (fs : List Int) (es : List Eg) (x y : Rat) (st : List Int) : Rat := rp x (costZ fs es st) * rp y st.sum
/-! ### dicts from keys to fractions -/
section
variable {β : Type} [DecidableEq β]
def keysG (l : List (β × Rat)) : List β := l.map (·.1)
def getG (l : List (β × Rat)) (k : β) : Rat := ((l.find? fun e => decide (e.1 = k)).map (·.2)).getD 0
def putG (l : List (β × Rat)) (k : β) (x : Rat) : List (β × Rat) := if (l.any fun e => decide (e.1 = k)) = true then l.map (fun e => if e.1 = k then (e.1, x) else e) else l ++ [(k, x)]
def addG (l : List (β × Rat)) (k : β) (y : Rat) : List (β × Rat) := putG l k (getG l k + y)
def dotG (F : β → Rat) : List (β × Rat) → Rat
  | [] => 0
  | e :: l => e.2 * F e.1 + dotG F l
theorem getG_cons (e : β × Rat) (l : List (β × Rat)) (k : β) : getG (e :: l) k = if e.1 = k then e.2 else getG l k := by
  unfold getG
  rw [List.find?_cons]
  by_cases h : e.1 = k
  · rw [if_pos h, decide_eq_true h]
    rfl
  · rw [if_neg h, decide_eq_false h]
theorem getG_none {l : List (β × Rat)} {k : β} (h : k ∉ keysG l) : getG l k = 0 := by
  unfold getG
  have : l.find? (fun e => decide (e.1 = k)) = none := List.find?_eq_none.mpr fun e m z => h (List.mem_map.mpr ⟨e, m, of_decide_eq_true z⟩)
  rw [this]
  rfl
theorem any_keys {l : List (β × Rat)} {k : β} : (l.any fun e => decide (e.1 = k)) = true ↔ k ∈ keysG l := by
  rw [List.any_eq_true]
  exact ⟨fun ⟨e, m, h⟩ => List.mem_map.mpr ⟨e, m, of_decide_eq_true h⟩, fun h => by
    obtain ⟨e, m, rfl⟩ := List.mem_map.mp h
    exact ⟨e, m, decide_eq_true rfl⟩⟩
theorem keys_put (l : List (β × Rat)) (k : β) (x : Rat) : keysG (putG l k x) = if k ∈ keysG l then keysG l else keysG l ++ [k] := by
  unfold putG
  by_cases h : k ∈ keysG l
  · rw [if_pos (any_keys.mpr h), if_pos h]
    unfold keysG
    rw [List.map_map]
    refine List.map_congr_left fun e _ => ?_
    show (if e.1 = k then (e.1, x) else e).1 = e.1
    split <;> rfl
  · rw [if_neg (fun z => h (any_keys.mp z)), if_neg h]
    unfold keysG
    rw [List.map_append]
    rfl
theorem nodup_put {l : List (β × Rat)} (h : (keysG l).Nodup) (k : β) (x : Rat) : (keysG (putG l k x)).Nodup := by
  rw [keys_put]
  split
  · exact h
  · rename_i n
    exact List.nodup_append.mpr ⟨h, by simp, fun a ha b hb z => n (by rw [← List.mem_singleton.mp hb, ← z]; exact ha)⟩
theorem length_put (l : List (β × Rat)) (k : β) (x : Rat) : (putG l k x).length ≤ l.length + 1 := by
  unfold putG
  split
  · rw [List.length_map]
    omega
  · rw [List.length_append]
    exact Nat.le_refl _
theorem put_all {P : Rat → Prop} {l : List (β × Rat)} (h : ∀ e ∈ l, P e.2) {k : β} {x : Rat} (hx : P x) : ∀ e ∈ putG l k x, P e.2 := fun e m => by
  unfold putG at m
  split at m
  · obtain ⟨e', m', rfl⟩ := List.mem_map.mp m
    split
    · exact hx
    · exact h _ m'
  · rcases List.mem_append.mp m with m | m
    · exact h _ m
    · rw [List.mem_singleton.mp m]
      exact hx
theorem get_all {P : Rat → Prop} (h0 : P 0) : ∀ {l : List (β × Rat)}, (∀ e ∈ l, P e.2) → ∀ k : β, P (getG l k)
  | [], _, k => h0
  | e :: l, h, k => by
    rw [getG_cons]
    split
    · exact h _ List.mem_cons_self
    · exact get_all h0 (fun e' m => h e' (List.mem_cons_of_mem _ m)) k
theorem dotG_app (F : β → Rat) : ∀ l r : List (β × Rat), dotG F (l ++ r) = dotG F l + dotG F r
  | [], r => (Rat.zero_add _).symm
  | e :: l, r => by
    rw [List.cons_append, dotG, dotG, dotG_app F l r]
    grind
theorem dotG_put (F : β → Rat) (k : β) (x : Rat) : ∀ {l : List (β × Rat)}, (keysG l).Nodup → dotG F (putG l k x) = dotG F l + (x - getG l k) * F k
  | [], _ => by
    show x * F k + 0 = 0 + (x - 0) * F k
    grind
  | e :: l, h => by
    obtain ⟨h1, h2⟩ := List.nodup_cons.mp (show (e.1 :: keysG l).Nodup from h)
    have ih := dotG_put F k x h2
    rw [getG_cons]
    unfold putG at ih ⊢
    rw [List.any_cons]
    by_cases q : e.1 = k
    · subst q
      have ng : (l.map fun e' => if e'.1 = e.1 then (e'.1, x) else e') = l := by
        refine (List.map_congr_left fun e' m => ?_).trans (List.map_id l)
        rw [if_neg fun z => h1 (List.mem_map.mpr ⟨e', m, z⟩)]
        rfl
      rw [decide_eq_true rfl, Bool.true_or, if_pos rfl, if_pos rfl, List.map_cons, if_pos rfl, ng, dotG, dotG]
      grind
    · rw [decide_eq_false q, Bool.false_or, if_neg q]
      by_cases z : (l.any fun e => decide (e.1 = k)) = true
      · rw [if_pos z] at ih ⊢
        rw [List.map_cons, if_neg q, dotG, ih, dotG]
        grind
      · rw [if_neg z] at ih ⊢
        rw [List.cons_append, dotG, ih, dotG]
        grind
theorem dotG_add (F : β → Rat) {l : List (β × Rat)} (h : (keysG l).Nodup) (k : β) (y : Rat) : dotG F (addG l k y) = dotG F l + y * F k := by
  unfold addG
  rw [dotG_put F k _ h]
  grind
theorem dotG_at (k : β) : ∀ {l : List (β × Rat)}, (keysG l).Nodup → dotG (fun j => if j = k then 1 else 0) l = getG l k
  | [], _ => rfl
  | e :: l, h => by
    obtain ⟨h1, h2⟩ := List.nodup_cons.mp (show (e.1 :: keysG l).Nodup from h)
    rw [dotG, getG_cons, dotG_at k h2]
    by_cases q : e.1 = k
    · rw [if_pos q, if_pos q, getG_none (by rw [← q]; exact h1)]
      grind
    · rw [if_neg q, if_neg q]
      grind
theorem dotG_congr {F G : β → Rat} : ∀ {l : List (β × Rat)}, (∀ e ∈ l, F e.1 = G e.1) → dotG F l = dotG G l
  | [], _ => rfl
  | e :: l, h => by
    rw [dotG, dotG, h e List.mem_cons_self, dotG_congr fun e' m => h e' (List.mem_cons_of_mem _ m)]
/-- all of a list of pairs added -/
def addAll (l : List (β × Rat)) (es : List (β × Rat)) : List (β × Rat) := es.foldl (fun l e => addG l e.1 e.2) l
theorem addAll_snoc (l es : List (β × Rat)) (e : β × Rat) : addAll l (es ++ [e]) = addG (addAll l es) e.1 e.2 := by
  unfold addAll
  rw [List.foldl_append]
  rfl
theorem addAll_nodup {l : List (β × Rat)} (h : (keysG l).Nodup) : ∀ es : List (β × Rat), (keysG (addAll l es)).Nodup := fun es => by
  induction es generalizing l with
  | nil => exact h
  | cons e es ih => exact ih (nodup_put h _ _)
theorem addAll_length : ∀ (es l : List (β × Rat)), (addAll l es).length ≤ l.length + es.length
  | [], l => Nat.le_refl _
  | e :: es, l => by
    have h1 := addAll_length es (addG l e.1 e.2)
    have h2 := length_put l e.1 (getG l e.1 + e.2)
    have h2 : (addG l e.1 e.2).length ≤ l.length + 1 := h2
    rw [List.length_cons]
    show (addAll (addG l e.1 e.2) es).length ≤ _
    omega
theorem addAll_dot (F : β → Rat) : ∀ (es : List (β × Rat)) {l : List (β × Rat)}, (keysG l).Nodup → dotG F (addAll l es) = dotG F l + dotG F es
  | [], l, _ => (Rat.add_zero _).symm
  | e :: es, l, h => by
    show dotG F (addAll (addG l e.1 e.2) es) = _
    rw [addAll_dot F es (l := addG l e.1 e.2) (nodup_put h _ _), dotG_add F h, dotG]
    grind
theorem addAll_iz {D X Y : Nat} : ∀ (es : List (β × Rat)) {l : List (β × Rat)} {c : Nat}, (∀ e ∈ l, Iz D (c * Y) e.2) → (∀ e ∈ es, Iz D Y e.2) → ∀ e ∈ addAll l es, Iz D ((c + es.length) * Y) e.2
  | [], l, c, h, _ => h
  | e :: es, l, c, h, hy => by
    have h1 : ∀ e' ∈ addG l e.1 e.2, Iz D ((c + 1) * Y) e'.2 := by
      refine put_all (fun e' m => (h e' m).le (Nat.mul_le_mul_right _ (Nat.le_succ _))) ?_
      rw [Nat.succ_mul]
      exact (get_all (P := Iz D (c * Y)) (Iz.zero.le (Nat.zero_le _)) h e.1).add (hy e List.mem_cons_self)
    have h2 := addAll_iz (X := X) es h1 fun e' m => hy e' (List.mem_cons_of_mem _ m)
    have e3 : c + (e :: es).length = c + 1 + es.length := by rw [List.length_cons]; omega
    rw [e3]
    exact h2
end
/-! ### such dicts in the heap -/
structure KRep (K : PySem.W.Frag) (β κ : Type) [DecidableEq β] [DecidableEq κ] : Type where
  enc : β → κ
  inj : ∀ a b, enc a = enc b → a = b
  DO : List (κ × V) → HO
  nt : ∀ kvs ps, DO kvs ≠ .tbl ps
  Rp : Hp → V → β → Prop
  isD : ∀ {H : Hp} {d : Addr} {kvs : List (κ × V)}, H d = some (DO kvs) → IsD H d
  get : ∀ {H : Hp} {d : Addr} {kvs : List (κ × V)} {u : V} {k : β}, H d = some (DO kvs) → Rp H u k → DGet H d u (valV kvs (enc k))
  put : ∀ {H : Hp} {d : Addr} {kvs : List (κ × V)} {u v : V} {k : β}, H d = some (DO kvs) → Rp H u k → kvs.length < sizeLine → DPut H d u v (upd H d (DO (putK kvs (enc k) v)))
  up : ∀ {H H' : Hp} {u : V} {k : β}, Ext H H' → Rp H u k → Rp H' u k
  upd : ∀ {H : Hp} {d : Addr} {kvs : List (κ × V)} {o : HO} {u : V} {k : β}, H d = some (DO kvs) → Rp H u k → Rp (upd H d o) u k
  sq : ∀ {H : Hp} {d : Addr} {kvs : List (κ × V)} {o : HO} {a : Addr} {xs : List V}, H d = some (DO kvs) → SqT K H a xs → SqT K (L2.upd H d o) a xs
  sl : ∀ {H : Hp} {d : Addr} {kvs : List (κ × V)} {o : HO} {a : Addr} {xs : List V}, H d = some (DO kvs) → SqL K H a xs → SqL K (L2.upd H d o) a xs
section
variable {β κ : Type} [DecidableEq β] [DecidableEq κ]
def KvsG (R : KRep K β κ) (H : Hp) (kvs : List (κ × V)) (l : List (β × Rat)) : Prop := Paired (fun (kv : κ × V) (e : β × Rat) => kv.1 = R.enc e.1 ∧ FrV K H kv.2 e.2) kvs l
theorem kvsg_up {R : KRep K β κ} {H H' : Hp} (s : Ext H H') {kvs : List (κ × V)} {l : List (β × Rat)} (h : KvsG R H kvs l) : KvsG R H' kvs l := paired_imp (fun _ _ ⟨a, b, e, g⟩ => ⟨a, b, e, s.tup g⟩) h
theorem kvsg_upd {R : KRep K β κ} {H : Hp} {d : Addr} {kvs0 : List (κ × V)} {o : HO} (hd : H d = some (R.DO kvs0)) {kvs : List (κ × V)} {l : List (β × Rat)} (h : KvsG R H kvs l) : KvsG R (upd H d o) kvs l := paired_imp (fun _ _ ⟨a, b, e, g⟩ => ⟨a, b, e, R.sq hd g⟩) h
theorem kvsg_get {R : KRep K β κ} {H : Hp} {zv : V} (hz : FrV K H zv 0) (k : β) : ∀ {kvs : List (κ × V)} {l : List (β × Rat)}, KvsG R H kvs l → FrV K H ((valV kvs (R.enc k)).getD zv) (getG l k)
  | _, _, .nil => hz
  | kv :: _, e :: _, .cons ⟨h1, h3⟩ t => by
    rw [getG_cons]
    by_cases z : e.1 = k
    · rw [if_pos z, valV_pos (by rw [h1, z])]
      exact h3
    · rw [if_neg z, valV_neg (fun q => z (R.inj _ _ (h1.symm.trans q)))]
      exact kvsg_get hz k t
theorem kvsg_any {R : KRep K β κ} {H : Hp} (k : β) : ∀ {kvs : List (κ × V)} {l : List (β × Rat)}, KvsG R H kvs l → (kvs.any fun kv => decide (kv.1 = R.enc k)) = l.any fun e => decide (e.1 = k)
  | _, _, .nil => rfl
  | kv :: _, e :: _, .cons ⟨h1, h3⟩ t => by
    rw [List.any_cons, List.any_cons, kvsg_any k t]
    congr 1
    refine decide_eq_decide.mpr ?_
    rw [h1]
    exact ⟨fun z => R.inj _ _ z, fun z => by rw [z]⟩
theorem kvsg_map {R : KRep K β κ} {H : Hp} (k : β) {v : V} {x : Rat} (hv : FrV K H v x) : ∀ {kvs : List (κ × V)} {l : List (β × Rat)}, KvsG R H kvs l → KvsG R H (kvs.map fun kv => if kv.1 = R.enc k then (kv.1, v) else kv) (l.map fun e => if e.1 = k then (e.1, x) else e)
  | _, _, .nil => .nil
  | kv :: _, e :: _, .cons ⟨h1, h3⟩ t => by
    refine .cons ?_ (kvsg_map k hv t)
    dsimp only
    by_cases z : e.1 = k
    · rw [if_pos z, if_pos (by rw [h1, z])]
      exact ⟨h1, hv⟩
    · rw [if_neg z, if_neg (fun q => z (R.inj _ _ (h1.symm.trans q)))]
      exact ⟨h1, h3⟩
theorem kvsg_put {R : KRep K β κ} {H : Hp} (k : β) {v : V} {x : Rat} (hv : FrV K H v x) {kvs : List (κ × V)} {l : List (β × Rat)} (h : KvsG R H kvs l) : KvsG R H (putK kvs (R.enc k) v) (putG l k x) := by
  unfold putK putG
  rw [kvsg_any k h]
  by_cases z : (l.any fun e => decide (e.1 = k)) = true
  · rw [if_pos z, if_pos z]
    exact kvsg_map k hv h
  · rw [if_neg z, if_neg z]
    exact paired_snoc h ⟨rfl, hv⟩
end
/-- ints for keys -/
def intR (K : PySem.W.Frag) : KRep K Nat Key where
  enc k := Sum.inl ((k : Nat) : Int)
  inj a b h := Int.ofNat.inj (Sum.inl.inj h)
  DO kvs := .dK kvs
  nt _ _ h := nomatch h
  Rp _ u k := u = .int ((k : Nat) : Int)
  isD h := .inl ⟨_, .inl h⟩
  get hd e := by
    subst e
    exact DGet.k (k := Sum.inl _) hd
  put hd e hl := by
    subst e
    exact DPut.k (k := Sum.inl _) hd hl
  up _ h := h
  upd _ h := h
  sq hd h := by
    rcases h with (h | ⟨o', h⟩) | h
    · exact .inl (.inl (by rw [upd_ne (ne_of h hd (by intro z; cases z))]; exact h))
    · exact .inl (.inr ⟨o', by rw [upd_ne (ne_of h hd (by intro z; cases z))]; exact h⟩)
    · exact .inr h
  sl hd h := by
    rcases h with (h | ⟨o', h⟩) | h
    · exact .inl (.inl (by rw [upd_ne (ne_of h hd (by intro z; cases z))]; exact h))
    · exact .inl (.inr ⟨o', by rw [upd_ne (ne_of h hd (by intro z; cases z))]; exact h⟩)
    · exact .inr h
def encT (m : List Nat) : List Key := m.map fun k => Sum.inl ((k : Nat) : Int)
theorem encT_inj : ∀ {a b : List Nat}, encT a = encT b → a = b
  | [], [], _ => rfl
  | [], _ :: _, h => nomatch h
  | _ :: _, [], h => nomatch h
  | x :: a, y :: b, h => by
    obtain ⟨h1, h2⟩ := List.cons.inj (show Sum.inl ((x : Nat) : Int) :: encT a = (Sum.inl ((y : Nat) : Int) : Key) :: encT b from h)
    rw [encT_inj h2, Int.ofNat.inj (Sum.inl.inj h1)]
def natV (m : List Nat) : List V := m.map fun k => V.int ((k : Nat) : Int)
theorem encT_kV (m : List Nat) : (encT m).map kV = natV m := by
  unfold encT natV
  rw [List.map_map]
  rfl
theorem kvsg_at {β κ : Type} [DecidableEq β] [DecidableEq κ] {R : KRep K β κ} {H : Hp} : ∀ {kvs : List (κ × V)} {l : List (β × Rat)} {t : Nat} {k : κ} {v : V}, KvsG R H kvs l → (keysG l).Nodup → kvs[t]? = some (k, v) → valV kvs k = some v
  | _, _, _, _, _, .nil, _, h => by simp at h
  | kv :: _, e :: _, 0, k, v, .cons ⟨h1, h3⟩ t, nd, h => by
    simp only [List.getElem?_cons_zero, Option.some.injEq] at h
    subst h
    exact valV_pos rfl
  | kv :: _, e :: _, j + 1, k, v, .cons ⟨h1, h3⟩ t, nd, h => by
    simp only [List.getElem?_cons_succ] at h
    obtain ⟨n1, n2⟩ := List.nodup_cons.mp (show (e.1 :: keysG _).Nodup from nd)
    rw [valV_neg (fun z => ?_)]
    · exact kvsg_at t n2 h
    · obtain ⟨f, hf, hk, hf2⟩ := paired_at t h
      have : e.1 = f.1 := R.inj _ _ (h1.symm.trans (z.trans hk))
      exact n1 (by rw [this]; exact List.mem_map.mpr ⟨f, List.mem_of_getElem? hf, rfl⟩)
theorem nat_at {m : List Nat} {u : Int} (h0 : 0 ≤ u) (h1 : u < m.length) : atI (natV m) u = some (.int ((m.getD u.toNat 0 : Nat) : Int)) := by
  obtain ⟨k, rfl⟩ := Int.eq_ofNat_of_zero_le h0
  have hk : k < m.length := by omega
  refine atI_nat (j := k) ?_
  unfold natV
  rw [List.getElem?_map, List.getElem?_eq_getElem hk, Int.toNat_natCast, List.getD_eq_getElem?_getD, List.getElem?_eq_getElem hk]
  rfl
open K04 ITT
/-! ### classes of vertices, as the law names them and as masks -/
def lwJ (p : List Nat) (u v : Nat) : List Nat := p.map fun a => if a = p.getD v 0 then p.getD u 0 else a
structure PMr (n : Nat) (p m : List Nat) : Prop where
  lp : p.length = n
  lm : m.length = n
  bit : ∀ i k, i < n → k < n → (m.getD i 0).testBit (n - 1 - k) = decide (p.getD k 0 = p.getD i 0)
  lt : ∀ i, i < n → m.getD i 0 < 2 ^ n
theorem getD_map {f : Nat → Nat} {l : List Nat} {i : Nat} (h : i < l.length) : (l.map f).getD i 0 = f (l.getD i 0) := by
  rw [List.getD_eq_getElem?_getD, List.getD_eq_getElem?_getD, List.getElem?_map, List.getElem?_eq_getElem h]
  rfl
/-! ### sums over sets of edges -/
def sumN (f : Nat → Rat) : Nat → Rat
  | 0 => 0
  | k + 1 => sumN f k + f k
theorem sumN_congr {f g : Nat → Rat} : ∀ {n : Nat}, (∀ k < n, f k = g k) → sumN f n = sumN g n
  | 0, _ => rfl
  | n + 1, h => by rw [sumN, sumN, sumN_congr fun k hk => h k (by omega), h n (by omega)]
theorem sumN_split (f : Nat → Rat) (a : Nat) : ∀ b, sumN f (a + b) = sumN f a + sumN (fun m => f (a + m)) b
  | 0 => (Rat.add_zero _).symm
  | b + 1 => by
    rw [← Nat.add_assoc, sumN, sumN_split f a b, sumN]
    grind
theorem sumN_add (f g : Nat → Rat) : ∀ n, sumN (fun k => f k + g k) n = sumN f n + sumN g n
  | 0 => (Rat.add_zero _).symm
  | n + 1 => by
    rw [sumN, sumN, sumN, sumN_add f g n]
    grind
theorem sumN_mul (a : Rat) (f : Nat → Rat) : ∀ n, sumN (fun k => a * f k) n = a * sumN f n
  | 0 => (Rat.mul_zero _).symm
  | n + 1 => by
    rw [sumN, sumN, sumN_mul a f n]
    grind
def sameE (st : List Int) (e : Eg) : Prop := atS st e.1 = atS st e.2.1
instance (st : List Int) (e : Eg) : Decidable (sameE st e) := inferInstanceAs (Decidable (_ = _))
def facL (x : Rat) (st : List Int) (e : Eg) (b : Bool) : Rat := if b = true then (if sameE st e then 1 - rp x e.2.2 else 0) else (if sameE st e then rp x e.2.2 else 1)
def egA (es : List Eg) (k : Nat) : Eg := es.getD k (0, 0, 0)
def keptK (x : Rat) (st : List Int) (es : List Eg) : Nat → Nat → Rat
  | 0, _ => 1
  | k + 1, mask => keptK x st es k mask * facL x st (egA es k) (mask.testBit k)
def partsK (n : Nat) (es : List Eg) : Nat → Nat → List Nat
  | 0, _ => List.range n
  | k + 1, mask => if mask.testBit k = true then lwJ (partsK n es k mask) (egA es k).1.toNat (egA es k).2.1.toNat else partsK n es k mask
theorem kept_low (x : Rat) (st : List Int) (es : List Eg) : ∀ k m m', (∀ j < k, m.testBit j = m'.testBit j) → keptK x st es k m = keptK x st es k m'
  | 0, _, _, _ => rfl
  | k + 1, m, m', h => by rw [keptK, keptK, kept_low x st es k m m' fun j hj => h j (by omega), h k (by omega)]
theorem parts_low (n : Nat) (es : List Eg) : ∀ k m m', (∀ j < k, m.testBit j = m'.testBit j) → partsK n es k m = partsK n es k m'
  | 0, _, _, _ => rfl
  | k + 1, m, m', h => by rw [partsK, partsK, parts_low n es k m m' fun j hj => h j (by omega), h k (by omega)]
def lawS (n : Nat) (x : Rat) (st : List Int) (es : List Eg) (k : Nat) (g : List Nat → Rat) : Rat := sumN (fun mask => keptK x st es k mask * g (partsK n es k mask)) (2 ^ k)
theorem lawS_step (n : Nat) (x : Rat) (st : List Int) (es : List Eg) (k : Nat) (g : List Nat → Rat) : lawS n x st es (k + 1) g = lawS n x st es k fun p => facL x st (egA es k) false * g p + facL x st (egA es k) true * g (lwJ p (egA es k).1.toNat (egA es k).2.1.toNat) := by
  unfold lawS
  rw [Nat.pow_succ, Nat.mul_two, sumN_split, ← sumN_add]
  refine sumN_congr fun m hm => ?_
  have b1 : m.testBit k = false := Nat.testBit_lt_two_pow hm
  have b2 : (2 ^ k + m).testBit k = true := by
    rw [Nat.testBit_two_pow_add_eq, b1]
    rfl
  have low : ∀ j < k, (2 ^ k + m).testBit j = m.testBit j := fun j hj => Nat.testBit_two_pow_add_gt hj m
  rw [keptK, partsK, b1, if_neg (by decide), keptK, partsK, b2, if_pos rfl, kept_low x st es k _ m low, parts_low n es k _ m low]
  grind
/-! ### states as numbers -/
def bin (b : Nat → Bool) : Nat → Nat
  | 0 => 0
  | k + 1 => 2 * bin b k + (b k).toNat
theorem bin_lt (b : Nat → Bool) : ∀ n, bin b n < 2 ^ n
  | 0 => Nat.one_pos
  | n + 1 => by
    have := bin_lt b n
    have h := Bool.toNat_le (b n)
    rw [bin, Nat.pow_succ]
    omega
theorem bin_bit (b : Nat → Bool) : ∀ {n k : Nat}, k < n → (bin b n).testBit (n - 1 - k) = b k
  | 0, k, h => absurd h (Nat.not_lt_zero k)
  | n + 1, k, h => by
    rw [bin]
    by_cases e : k = n
    · subst e
      rw [show k + 1 - 1 - k = 0 by omega, Nat.testBit_zero]
      cases b k <;> simp [Bool.toNat] <;> omega
    · have e2 : n + 1 - 1 - k = (n - 1 - k) + 1 := by omega
      have h3 : (2 * bin b n + (b n).toNat) / 2 = bin b n := by
        have := Bool.toNat_le (b n)
        omega
      rw [e2, Nat.testBit_add_one, h3]
      exact bin_bit b (by omega)
theorem flat_two_get : ∀ (l : List (List Int)) (j : Nat), (l.flatMap two)[j]? = (l[j / 2]?).map fun s => s ++ [((j % 2 : Nat) : Int)]
  | [], j => by simp
  | s :: l, j => by
    have e : (s :: l).flatMap two = (s ++ [0]) :: (s ++ [1]) :: l.flatMap two := by
      rw [List.flatMap_cons]
      rfl
    rw [e]
    match j with
    | 0 => rfl
    | 1 => rfl
    | j + 2 =>
      rw [List.getElem?_cons_succ, List.getElem?_cons_succ, flat_two_get l j, show (j + 2) / 2 = j / 2 + 1 by omega, List.getElem?_cons_succ, show (j + 2) % 2 = j % 2 by omega]
theorem states_bit : ∀ {n i : Nat} {st : List Int}, (states n)[i]? = some st → ∀ k : Nat, k < n → atS st ((k : Nat) : Int) = if i.testBit (n - 1 - k) = true then 1 else 0
  | 0, i, st, h, k, hk => absurd hk (Nat.not_lt_zero k)
  | n + 1, i, st, h, k, hk => by
    have h : ((states n).flatMap two)[i]? = some st := h
    rw [flat_two_get] at h
    obtain ⟨s, hs, rfl⟩ := Option.map_eq_some_iff.mp h
    have ls := (states_ok n s (List.mem_of_getElem? hs)).1
    by_cases e : k = n
    · subst e
      rw [show k + 1 - 1 - k = 0 by omega, Nat.testBit_zero]
      unfold atS
      rw [Int.toNat_natCast, List.getD_eq_getElem?_getD, List.getElem?_append_right (by omega), ls, Nat.sub_self]
      show ((i % 2 : Nat) : Int) = _
      by_cases q : i % 2 = 1
      · rw [q, decide_eq_true rfl, if_pos rfl]
        rfl
      · have q0 : i % 2 = 0 := by omega
        rw [q0, if_neg (by decide)]
        rfl
    · have e2 : n + 1 - 1 - k = (n - 1 - k) + 1 := by omega
      rw [e2, Nat.testBit_add_one]
      have ih := states_bit hs k (by omega)
      rw [← ih]
      unfold atS
      rw [Int.toNat_natCast, List.getD_eq_getElem?_getD, List.getD_eq_getElem?_getD, List.getElem?_append_left (by omega)]
/-- where a turn of the class of v leads -/
def tgtB (st : List Int) (p : List Nat) (v k : Nat) : Bool := if p.getD k 0 = p.getD v 0 then decide (atS st ((k : Nat) : Int) ≠ 1) else decide (atS st ((k : Nat) : Int) = 1)
theorem tgt_eq {n i : Nat} {st : List Int} (hs : (states n)[i]? = some st) (hi : i < 2 ^ n) {p m : List Nat} (h : PMr n p m) {v : Nat} (hv : v < n) : i ^^^ m.getD v 0 = bin (tgtB st p v) n := by
  refine Nat.eq_of_testBit_eq fun j => ?_
  by_cases hj : j < n
  · have e : j = n - 1 - (n - 1 - j) := by omega
    have hk : n - 1 - j < n := by omega
    generalize n - 1 - j = k at *
    rw [e, Nat.testBit_xor, bin_bit _ hk, h.bit v k hv hk]
    have hb := states_bit hs k hk
    unfold tgtB
    by_cases q : p.getD k 0 = p.getD v 0
    · rw [if_pos q, decide_eq_true q, hb]
      cases i.testBit (n - 1 - k) <;> decide
    · rw [if_neg q, decide_eq_false q, hb]
      cases i.testBit (n - 1 - k) <;> decide
  · have h1 : i ^^^ m.getD v 0 < 2 ^ j := Nat.lt_of_lt_of_le (Nat.xor_lt_two_pow hi (h.lt v hv)) (Nat.pow_le_pow_right (by decide) (by omega))
    have h2 : bin (tgtB st p v) n < 2 ^ j := Nat.lt_of_lt_of_le (bin_lt _ n) (Nat.pow_le_pow_right (by decide) (by omega))
    rw [Nat.testBit_lt_two_pow h1, Nat.testBit_lt_two_pow h2]
/-! ### the two rows -/
def dl (t k : Nat) : Rat := if k = t then 1 else 0
def lsum : List Rat → Rat
  | [] => 0
  | r :: l => r + lsum l
theorem lsum_map {α : Type} (f : α → Rat) (d : α) : ∀ l : List α, lsum (l.map f) = sumN (fun k => f (l.getD k d)) l.length
  | [] => rfl
  | a :: l => by
    rw [List.map_cons, lsum, lsum_map f d l, List.length_cons, Nat.add_comm l.length 1, sumN_split]
    show f a + _ = (0 + f a) + _
    rw [Rat.zero_add]
    congr 1
    refine sumN_congr fun k _ => ?_
    rw [Nat.add_comm 1 k, List.getD_cons_succ]
theorem dot_maps {β : Type} [DecidableEq β] (F : β → Rat) {α : Type} (h : α → β) (c : Rat) : ∀ l : List α, dotG F (l.map fun a => (h a, c)) = c * lsum (l.map fun a => F (h a))
  | [] => (Rat.mul_zero _).symm
  | a :: l => by
    rw [List.map_cons, dotG, dot_maps F h c l, List.map_cons, lsum]
    grind
theorem dl_sum (j : Nat) : ∀ N, sumN (fun k => dl k j) N = if j < N then 1 else 0
  | 0 => rfl
  | N + 1 => by
    rw [sumN, dl_sum j N]
    unfold dl
    by_cases h : j < N
    · rw [if_pos h, if_neg (by omega), if_pos (by omega), Rat.add_zero]
    · by_cases h2 : j = N
      · rw [if_neg h, if_pos h2, if_pos (by omega), Rat.zero_add]
      · rw [if_neg h, if_neg h2, if_neg (by omega), Rat.zero_add]
/-! ### the chances to become up -/
def insL (fs : List Int) (mask : Nat) : List Int := ((List.range fs.length).filter fun k => mask.testBit (fs.length - 1 - k)).map fun k => fs.getD k 0
def wM (fs : List Int) (x y : Rat) (mask : Nat) : Rat := rp x (insL fs mask).sum * rp y ((insL fs mask).length : Int)
def shM (fs : List Int) (x y : Rat) (mask : Nat) : Rat := wM fs x y mask / (1 + wM fs x y mask)
theorem and_pow0 (m j : Nat) : m &&& 2 ^ j ≠ 0 ↔ m.testBit j = true := by
  constructor
  · intro h
    obtain ⟨k, hk⟩ := Nat.exists_testBit_of_ne_zero h
    rw [Nat.testBit_and, Bool.and_eq_true, Nat.testBit_two_pow] at hk
    have e := of_decide_eq_true hk.2
    rw [e]
    exact hk.1
  · intro h z
    have : (m &&& 2 ^ j).testBit j = true := by
      rw [Nat.testBit_and, h, Nat.testBit_two_pow]
      simp
    rw [z, Nat.zero_testBit] at this
    cases this
theorem insL_len (fs : List Int) (mask : Nat) : (insL fs mask).length ≤ fs.length := by
  unfold insL
  rw [List.length_map]
  refine Nat.le_trans (List.length_filter_le _ _) ?_
  rw [List.length_range]
  exact Nat.le_refl _
theorem insL_sum {fs : List Int} (hs : ∀ f ∈ fs, -2 ≤ f ∧ f ≤ 2) (mask : Nat) : (insL fs mask).sum.natAbs ≤ 2 * fs.length := by
  have gen : ∀ l : List Int, (∀ z ∈ l, z.natAbs ≤ 2) → l.sum.natAbs ≤ 2 * l.length := fun l => by
    induction l with
    | nil => exact fun _ => Nat.le_refl _
    | cons z l ih =>
      intro h
      have h1 := h z List.mem_cons_self
      have h2 := ih fun y m => h y (List.mem_cons_of_mem _ m)
      rw [List.sum_cons, List.length_cons]
      omega
  have h1 := gen (insL fs mask) fun z m => by
    unfold insL at m
    obtain ⟨k, mk, rfl⟩ := List.mem_map.mp m
    have hk := List.mem_range.mp (List.mem_filter.mp mk).1
    rw [List.getD_eq_getElem?_getD, List.getElem?_eq_getElem hk]
    have := hs _ (List.getElem_mem hk)
    show (fs[k]).natAbs ≤ 2
    omega
  have h2 := insL_len fs mask
  omega
theorem rp_pos {r : Rat} (h : 0 < r) (x : Int) : 0 < rp r x := by
  unfold rp
  split
  · exact Rat.pow_pos h
  · exact Rat.pow_pos (Rat.inv_pos.mpr h)
theorem wM_pos {fs : List Int} {x y : Rat} (px : 0 < x) (py : 0 < y) (mask : Nat) : 0 < wM fs x y mask := Rat.mul_pos (rp_pos px _) (rp_pos py _)
theorem wM_bz {fs : List Int} {x y : Rat} (bx : Bz 5 x) (bY : Bz 4 y) (nx : x ≠ 0) (ny : y ≠ 0) (hs : ∀ f ∈ fs, -2 ≤ f ∧ f ≤ 2) (l4 : fs.length ≤ 4) (mask : Nat) : Bz 41 (rp x (insL fs mask).sum) ∧ Bz 17 (rp y ((insL fs mask).length : Int)) ∧ Bz 58 (wM fs x y mask) := by
  have h1 := insL_sum hs mask
  have h2 := insL_len fs mask
  have a := bx.rp nx (x := (insL fs mask).sum) (e := 8) (by omega)
  have b := bY.rp ny (x := ((insL fs mask).length : Int)) (e := 4) (by omega)
  exact ⟨a, b, a.mul b⟩
/-! ### the ways a set of clusters may turn -/
def lprod : List Rat → Rat
  | [] => 1
  | r :: l => r * lprod l
theorem lprod_snoc : ∀ (l : List Rat) (r : Rat), lprod (l ++ [r]) = lprod l * r
  | [], r => by
    show r * 1 = 1 * r
    grind
  | a :: l, r => by
    rw [List.cons_append, lprod, lprod_snoc l r, lprod]
    grind
theorem lprod_perm {l r : List Rat} (h : l.Perm r) : lprod l = lprod r := by
  induction h with
  | nil => rfl
  | cons x _ ih => rw [lprod, lprod, ih]
  | swap x y l =>
    rw [lprod, lprod, lprod, lprod]
    grind
  | trans _ _ ih1 ih2 => rw [ih1, ih2]
def waysStep (s : Rat) (m : Nat) (ws : List (Nat × Rat)) : List (Nat × Rat) := ws.map (fun e => (e.1 ||| m, e.2 * s)) ++ ws.map fun e => (e.1, e.2 - e.2 * s)
def ways (sh : Nat → Rat) (ms : List Nat) (c : Rat) : List (Nat × Rat) := ms.foldl (fun ws m => waysStep (sh m) m ws) [(0, c)]
theorem ways_snoc (sh : Nat → Rat) (ms : List Nat) (m : Nat) (c : Rat) : ways sh (ms ++ [m]) c = waysStep (sh m) m (ways sh ms c) := by
  unfold ways
  rw [List.foldl_append]
  rfl
theorem step_dot (F : Nat → Rat) (s : Rat) (m : Nat) (ws : List (Nat × Rat)) : dotG F (waysStep s m ws) = dotG (fun i => s * F (i ||| m) + (1 - s) * F i) ws := by
  unfold waysStep
  rw [dotG_app]
  induction ws with
  | nil => exact Rat.add_zero 0
  | cons e ws ih =>
    rw [List.map_cons, List.map_cons, dotG, dotG, dotG]
    grind
theorem ways_sub (sh : Nat → Rat) (c : Rat) : ∀ ms : List Nat, ∀ e ∈ ways sh ms c, ∀ j, e.1.testBit j = true → ∃ m ∈ ms, m.testBit j = true := fun ms => by
  have gen : ∀ (ms : List Nat) (ws : List (Nat × Rat)), ∀ e ∈ ms.foldl (fun ws m => waysStep (sh m) m ws) ws, ∀ j, e.1.testBit j = true → (∃ m ∈ ms, m.testBit j = true) ∨ ∃ f ∈ ws, f.1.testBit j = true := fun ms => by
    induction ms with
    | nil => exact fun ws e he j hj => .inr ⟨e, he, hj⟩
    | cons m ms ih =>
      intro ws e he j hj
      rcases ih _ e he j hj with ⟨m', h1, h2⟩ | ⟨f, h1, h2⟩
      · exact .inl ⟨m', List.mem_cons_of_mem _ h1, h2⟩
      · unfold waysStep at h1
        rcases List.mem_append.mp h1 with h1 | h1
        · obtain ⟨g, hg, rfl⟩ := List.mem_map.mp h1
          rw [Nat.testBit_or, Bool.or_eq_true] at h2
          rcases h2 with h2 | h2
          · exact .inr ⟨g, hg, h2⟩
          · exact .inl ⟨m, List.mem_cons_self, h2⟩
        · obtain ⟨g, hg, rfl⟩ := List.mem_map.mp h1
          exact .inr ⟨g, hg, h2⟩
  intro e he j hj
  rcases gen ms _ e he j hj with h | ⟨f, h1, h2⟩
  · exact h
  · rw [List.mem_singleton.mp h1, Nat.zero_testBit] at h2
    cases h2
def fF (sh : Nat → Rat) (t m : Nat) : Rat := if t &&& m = m then sh m else if t &&& m = 0 then 1 - sh m else 0
theorem and_bits {a b : Nat} (h : a &&& b = 0) (j : Nat) : ¬ (a.testBit j = true ∧ b.testBit j = true) := fun ⟨h1, h2⟩ => by
  have : (a &&& b).testBit j = true := by rw [Nat.testBit_and, h1, h2]; rfl
  rw [h, Nat.zero_testBit] at this
  cases this
theorem ways_dot (sh : Nat → Rat) (c : Rat) : ∀ k (ms : List Nat), ms.length = k → (∀ m ∈ ms, m ≠ 0) → ms.Pairwise (fun a b => a &&& b = 0) → ∀ t, (∀ j, t.testBit j = true → ∃ m ∈ ms, m.testBit j = true) → dotG (dl t) (ways sh ms c) = c * lprod (ms.map (fF sh t))
  | 0, ms, hk, _, _, t, ht => by
    have e := List.length_eq_zero_iff.mp hk
    subst e
    have t0 : t = 0 := Nat.eq_of_testBit_eq fun j => by
      cases h : t.testBit j with
      | false => rw [Nat.zero_testBit]
      | true =>
        obtain ⟨m, hm, _⟩ := ht j h
        cases hm
    show dotG (dl t) [(0, c)] = c * 1
    rw [dotG, dotG, t0]
    show c * 1 + 0 = c * 1
    grind
  | k + 1, ms, hk, h0, hd, t, ht => by
    obtain ⟨ms', m, rfl⟩ : ∃ ms' m, ms = ms' ++ [m] := ⟨ms.dropLast, ms.getLast (fun z => by rw [z] at hk; cases hk), (List.dropLast_concat_getLast _).symm⟩
    have lk : ms'.length = k := by
      rw [List.length_append, List.length_singleton] at hk
      omega
    obtain ⟨d1, _, d3⟩ := List.pairwise_append.mp hd
    have d3 : ∀ a ∈ ms', a &&& m = 0 := fun a ha => d3 a ha m (List.mem_singleton.mpr rfl)
    have h0' : ∀ a ∈ ms', a ≠ 0 := fun a ha => h0 a (List.mem_append_left _ ha)
    have m0 : m ≠ 0 := h0 m (List.mem_append_right _ (List.mem_singleton.mpr rfl))
    obtain ⟨jm, hjm⟩ := Nat.exists_testBit_of_ne_zero m0
    have sub := ways_sub sh c ms'
    have iout : ∀ e ∈ ways sh ms' c, ∀ j, m.testBit j = true → e.1.testBit j = false := fun e he j hj => by
      cases hb : e.1.testBit j with
      | false => rfl
      | true =>
        obtain ⟨a, ha, hab⟩ := sub e he j hb
        exact absurd ⟨hab, hj⟩ (and_bits (d3 a ha) j)
    rw [ways_snoc, step_dot, List.map_append, List.map_singleton, lprod_snoc]
    by_cases c1 : t &&& m = m
    · have tb : ∀ j, m.testBit j = true → t.testBit j = true := fun j hj => by
        have : (t &&& m).testBit j = true := by rw [c1]; exact hj
        rw [Nat.testBit_and, Bool.and_eq_true] at this
        exact this.1
      have e1 : dotG (fun i => sh m * dl t (i ||| m) + (1 - sh m) * dl t i) (ways sh ms' c) = dotG (fun i => sh m * dl (t ^^^ m) i) (ways sh ms' c) := dotG_congr fun e he => by
        have z1 : dl t e.1 = 0 := if_neg fun z => by
          have h1 := iout e he jm hjm
          rw [z, tb jm hjm] at h1
          cases h1
        have z2 : dl t (e.1 ||| m) = dl (t ^^^ m) e.1 := by
          unfold dl
          have : (e.1 ||| m = t) ↔ (e.1 = t ^^^ m) := by
            constructor
            · intro h
              refine Nat.eq_of_testBit_eq fun j => ?_
              rw [← h, Nat.testBit_xor, Nat.testBit_or]
              cases hm : m.testBit j with
              | false => simp
              | true => rw [iout e he j hm]; rfl
            · intro h
              refine Nat.eq_of_testBit_eq fun j => ?_
              rw [h, Nat.testBit_or, Nat.testBit_xor]
              cases hm : m.testBit j with
              | false => simp
              | true => rw [tb j hm]; rfl
          by_cases q : e.1 ||| m = t
          · rw [if_pos q, if_pos (this.mp q)]
          · rw [if_neg q, if_neg (fun z => q (this.mpr z))]
        rw [z1, z2]
        grind
      have sc : ∀ (l : List (Nat × Rat)) (F : Nat → Rat), dotG (fun i => sh m * F i) l = sh m * dotG F l := fun l F => by
        induction l with
        | nil => exact (Rat.mul_zero _).symm
        | cons e l ih =>
          rw [dotG, dotG, ih]
          grind
      rw [e1, sc, ways_dot sh c k ms' lk h0' d1 (t ^^^ m) fun j hj => ?_]
      · have e2 : ms'.map (fF sh (t ^^^ m)) = ms'.map (fF sh t) := List.map_congr_left fun a ha => by
          have : (t ^^^ m) &&& a = t &&& a := Nat.eq_of_testBit_eq fun j => by
            rw [Nat.testBit_and, Nat.testBit_xor, Nat.testBit_and]
            cases hb : a.testBit j with
            | false => rw [Bool.and_false, Bool.and_false]
            | true =>
              have : m.testBit j = false := by
                cases hm : m.testBit j with
                | false => rfl
                | true => exact absurd ⟨hb, hm⟩ (and_bits (d3 a ha) j)
              rw [this, Bool.xor_false]
          unfold fF
          rw [this]
        have e3 : fF sh t m = sh m := if_pos c1
        rw [e2, e3]
        grind
      · rw [Nat.testBit_xor] at hj
        have mj : m.testBit j = false := by
          cases hm : m.testBit j with
          | false => rfl
          | true =>
            rw [hm, tb j hm] at hj
            cases hj
        rw [mj, Bool.xor_false] at hj
        obtain ⟨a, ha, hab⟩ := ht j hj
        rcases List.mem_append.mp ha with ha | ha
        · exact ⟨a, ha, hab⟩
        · rw [List.mem_singleton.mp ha, mj] at hab
          cases hab
    · have z2 : ∀ e ∈ ways sh ms' c, dl t (e.1 ||| m) = 0 := fun e _ => if_neg fun z => c1 (by
        refine Nat.eq_of_testBit_eq fun j => ?_
        rw [← z, Nat.testBit_and, Nat.testBit_or]
        cases m.testBit j <;> simp)
      by_cases c2 : t &&& m = 0
      · have e1 : dotG (fun i => sh m * dl t (i ||| m) + (1 - sh m) * dl t i) (ways sh ms' c) = dotG (fun i => (1 - sh m) * dl t i) (ways sh ms' c) := dotG_congr fun e he => by
          rw [z2 e he]
          grind
        have sc : ∀ (l : List (Nat × Rat)) (F : Nat → Rat), dotG (fun i => (1 - sh m) * F i) l = (1 - sh m) * dotG F l := fun l F => by
          induction l with
          | nil => exact (Rat.mul_zero _).symm
          | cons e l ih =>
            rw [dotG, dotG, ih]
            grind
        rw [e1, sc, ways_dot sh c k ms' lk h0' d1 t fun j hj => ?_]
        · have e3 : fF sh t m = 1 - sh m := by
            unfold fF
            rw [if_neg c1, if_pos c2]
          rw [e3]
          grind
        · obtain ⟨a, ha, hab⟩ := ht j hj
          rcases List.mem_append.mp ha with ha | ha
          · exact ⟨a, ha, hab⟩
          · rw [List.mem_singleton.mp ha] at hab
            exact absurd ⟨hj, hab⟩ (and_bits c2 j)
      · obtain ⟨j2, hj2⟩ := Nat.exists_testBit_of_ne_zero c2
        rw [Nat.testBit_and, Bool.and_eq_true] at hj2
        have e1 : dotG (fun i => sh m * dl t (i ||| m) + (1 - sh m) * dl t i) (ways sh ms' c) = dotG (fun _ => 0) (ways sh ms' c) := dotG_congr fun e he => by
          have z1 : dl t e.1 = 0 := if_neg fun z => by
            have h1 := iout e he j2 hj2.2
            rw [z, hj2.1] at h1
            cases h1
          rw [z2 e he, z1]
          grind
        have z3 : ∀ l : List (Nat × Rat), dotG (fun _ => (0 : Rat)) l = 0 := fun l => by
          induction l with
          | nil => rfl
          | cons e l ih =>
            rw [dotG, ih]
            grind
        have e3 : fF sh t m = 0 := by
          unfold fF
          rw [if_neg c1, if_neg c2]
        rw [e1, z3, e3]
        grind
/-! ### the ways of a list of masks, as the law reckons them by labels -/
theorem ways_scale (sh : Nat → Rat) (c : Rat) (ms : List Nat) : ways sh ms c = (ways sh ms 1).map fun e => (e.1, c * e.2) := by
  have step : ∀ (s : Rat) (m : Nat) (ws : List (Nat × Rat)), waysStep s m (ws.map fun e => (e.1, c * e.2)) = (waysStep s m ws).map fun e => (e.1, c * e.2) := fun s m ws => by
    unfold waysStep
    rw [List.map_append, List.map_map, List.map_map, List.map_map, List.map_map]
    congr 1
    · refine List.map_congr_left fun e _ => ?_
      show (e.1 ||| m, c * e.2 * s) = (e.1 ||| m, c * (e.2 * s))
      rw [Rat.mul_assoc]
    · refine List.map_congr_left fun e _ => ?_
      show (e.1, c * e.2 - c * e.2 * s) = (e.1, c * (e.2 - e.2 * s))
      have : c * e.2 - c * e.2 * s = c * (e.2 - e.2 * s) := by grind
      rw [this]
  have gen : ∀ (ms : List Nat) (ws : List (Nat × Rat)), ms.foldl (fun ws m => waysStep (sh m) m ws) (ws.map fun e => (e.1, c * e.2)) = (ms.foldl (fun ws m => waysStep (sh m) m ws) ws).map fun e => (e.1, c * e.2) := fun ms => by
    induction ms with
    | nil => exact fun ws => rfl
    | cons m ms ih =>
      intro ws
      rw [List.foldl_cons, step, ih, List.foldl_cons]
  have h := gen ms [(0, 1)]
  rw [List.map_singleton, Rat.mul_one] at h
  exact h
theorem ways_lin (F : Nat → Rat) (sh : Nat → Rat) (ms : List Nat) (c : Rat) : dotG F (ways sh ms c) = c * dotG F (ways sh ms 1) := by
  rw [ways_scale sh c ms]
  generalize ways sh ms 1 = L
  induction L with
  | nil => exact (Rat.mul_zero _).symm
  | cons e L ih =>
    rw [List.map_cons, dotG, dotG, ih]
    grind
def srtN (n : Nat) (m : List Nat) : List Nat := (List.range (2 ^ n)).filter fun a => decide (a ∈ m)
def maskL (n : Nat) (p : List Nat) (a : Nat) : Nat := bin (fun k => decide (p.getD k 0 = a)) n
def masksOf (n : Nat) (p : List Nat) : List Nat := (List.range n).map fun i => maskL n p (p.getD i 0)
theorem mask_bit {n : Nat} {p : List Nat} {a k : Nat} (hk : k < n) : (maskL n p a).testBit (n - 1 - k) = decide (p.getD k 0 = a) := bin_bit _ hk
theorem pm_masks {n : Nat} {p m : List Nat} (h : PMr n p m) : m = masksOf n p := by
  refine List.ext_getElem? fun i => ?_
  unfold masksOf
  rw [List.getElem?_map]
  by_cases hi : i < n
  · rw [List.getElem?_range hi, List.getElem?_eq_getElem (by rw [h.lm]; exact hi)]
    show some _ = some _
    have e1 : m[i]'(by rw [h.lm]; exact hi) = m.getD i 0 := by
      rw [List.getD_eq_getElem?_getD, List.getElem?_eq_getElem (by rw [h.lm]; exact hi)]
      rfl
    rw [e1]
    congr 1
    refine Nat.eq_of_testBit_eq fun j => ?_
    by_cases hj : j < n
    · have e : j = n - 1 - (n - 1 - j) := by omega
      have hk : n - 1 - j < n := by omega
      generalize n - 1 - j = k at *
      rw [e, h.bit i k hi hk, mask_bit hk]
    · rw [Nat.testBit_lt_two_pow (Nat.lt_of_lt_of_le (h.lt i hi) (Nat.pow_le_pow_right (by decide) (by omega)))]
      exact (Nat.testBit_lt_two_pow (Nat.lt_of_lt_of_le (bin_lt _ n) (Nat.pow_le_pow_right (by decide) (show n ≤ j by omega)))).symm
  · rw [List.getElem?_eq_none (by rw [h.lm]; omega), List.getElem?_eq_none (by rw [List.length_range]; omega)]
    rfl
/-- which bits of t a mask holds -/
theorem and_all {n t M : Nat} {P : Nat → Prop} [DecidablePred P] (lt : M < 2 ^ n) (hb : ∀ k, k < n → M.testBit (n - 1 - k) = decide (P k)) : (t &&& M = M ↔ ∀ k, k < n → P k → t.testBit (n - 1 - k) = true) ∧ (t &&& M = 0 ↔ ∀ k, k < n → P k → t.testBit (n - 1 - k) = false) := by
  have out : ∀ j, n ≤ j → M.testBit j = false := fun j hj => Nat.testBit_lt_two_pow (Nat.lt_of_lt_of_le lt (Nat.pow_le_pow_right (by decide) hj))
  refine ⟨⟨fun h k hk hp => ?_, fun h => Nat.eq_of_testBit_eq fun j => ?_⟩, ⟨fun h k hk hp => ?_, fun h => Nat.eq_of_testBit_eq fun j => ?_⟩⟩
  · have := hb k hk
    rw [decide_eq_true hp, ← h, Nat.testBit_and, Bool.and_eq_true] at this
    exact this.1
  · rw [Nat.testBit_and]
    by_cases hj : j < n
    · have e : j = n - 1 - (n - 1 - j) := by omega
      have hk : n - 1 - j < n := by omega
      generalize n - 1 - j = k at *
      rw [e, hb k hk]
      by_cases hp : P k
      · rw [h k hk hp, Bool.true_and]
      · rw [decide_eq_false hp, Bool.and_false]
    · rw [out j (by omega), Bool.and_false]
  · have h1 := hb k hk
    rw [decide_eq_true hp] at h1
    have h2 : (t &&& M).testBit (n - 1 - k) = false := by rw [h, Nat.zero_testBit]
    rw [Nat.testBit_and, h1, Bool.and_true] at h2
    exact h2
  · rw [Nat.testBit_and, Nat.zero_testBit]
    by_cases hj : j < n
    · have e : j = n - 1 - (n - 1 - j) := by omega
      have hk : n - 1 - j < n := by omega
      generalize n - 1 - j = k at *
      rw [e, hb k hk]
      by_cases hp : P k
      · rw [h k hk hp, Bool.false_and]
      · rw [decide_eq_false hp, Bool.and_false]
    · rw [out j (by omega), Bool.and_false]
theorem srt_perm {n : Nat} {p : List Nat} (hl : ∀ i, i < n → p.getD i 0 < n) : (srtN n (masksOf n p)).Perm (((List.range n).filter fun a => decide (∃ k, k < n ∧ p.getD k 0 = a)).map (maskL n p)) := by
  have nd1 : (srtN n (masksOf n p)).Nodup := List.Pairwise.filter _ List.nodup_range
  refine (List.perm_ext_iff_of_nodup nd1 ?_).mpr fun b => ⟨fun h => ?_, fun h => ?_⟩
  · show List.Pairwise _ _
    rw [List.pairwise_map]
    refine List.Pairwise.imp_of_mem (fun {a b} ha hb hab => ?_) (List.Pairwise.filter _ (List.pairwise_lt_range (n := n)))
    obtain ⟨k, hk, rfl⟩ := of_decide_eq_true (List.mem_filter.mp ha).2
    intro e
    have h1 := mask_bit (p := p) (a := p.getD k 0) hk
    rw [e, mask_bit hk] at h1
    have : p.getD k 0 = b := by
      rw [decide_eq_true rfl] at h1
      exact of_decide_eq_true h1
    omega
  · have hm := of_decide_eq_true (List.mem_filter.mp h).2
    unfold masksOf at hm
    obtain ⟨i, mi, rfl⟩ := List.mem_map.mp hm
    have hi := List.mem_range.mp mi
    exact List.mem_map.mpr ⟨_, List.mem_filter.mpr ⟨List.mem_range.mpr (hl i hi), decide_eq_true ⟨i, hi, rfl⟩⟩, rfl⟩
  · obtain ⟨a, ma, rfl⟩ := List.mem_map.mp h
    obtain ⟨k, hk, rfl⟩ := of_decide_eq_true (List.mem_filter.mp ma).2
    exact List.mem_filter.mpr ⟨List.mem_range.mpr (bin_lt _ n), decide_eq_true (List.mem_map.mpr ⟨k, List.mem_range.mpr hk, rfl⟩)⟩
theorem lprod_filter {α : Type} (P : α → Prop) [DecidablePred P] (f : α → Rat) : ∀ l : List α, lprod ((l.filter fun a => decide (P a)).map f) = lprod (l.map fun a => if P a then f a else 1)
  | [] => rfl
  | a :: l => by
    rw [List.map_cons, lprod, ← lprod_filter P f l]
    by_cases h : P a
    · rw [List.filter_cons_of_pos (by exact decide_eq_true h), List.map_cons, lprod, if_pos h]
    · rw [List.filter_cons_of_neg (by rw [decide_eq_false h]; decide), if_neg h, Rat.one_mul]
def ownL (n : Nat) (p : List Nat) (a : Nat) : List Nat := (List.range n).filter fun k => decide (p.getD k 0 = a)
def wO (fs : List Int) (x y : Rat) (own : List Nat) : Rat := rp x (own.map fun k => fs.getD k 0).sum * rp y ((own.length : Nat) : Int)
def setG (fs : List Int) (x y : Rat) (st : List Int) : List Nat → Rat
  | [] => 1
  | k0 :: l => if ∃ k ∈ k0 :: l, atS st ((k : Nat) : Int) ≠ atS st ((k0 : Nat) : Int) then 0 else (if atS st ((k0 : Nat) : Int) = 1 then wO fs x y (k0 :: l) else 1) / (1 + wO fs x y (k0 :: l))
/-- what one class of vertices gives -/
def setF (fs : List Int) (x y : Rat) (st : List Int) (p : List Nat) (a : Nat) : Rat := setG fs x y st (ownL fs.length p a)
def setC (fs : List Int) (x y : Rat) (st : List Int) (p : List Nat) : Rat := lprod ((List.range fs.length).map (setF fs x y st p))
theorem ins_own (fs : List Int) (p : List Nat) (a : Nat) : insL fs (maskL fs.length p a) = (ownL fs.length p a).map fun k => fs.getD k 0 := by
  unfold insL ownL
  congr 1
  refine List.filter_congr fun k mk => ?_
  rw [mask_bit (List.mem_range.mp mk)]
theorem w_own (fs : List Int) (x y : Rat) (p : List Nat) (a : Nat) : wM fs x y (maskL fs.length p a) = wO fs x y (ownL fs.length p a) := by
  unfold wM wO
  rw [ins_own, List.length_map]
theorem set_fac {fs : List Int} {x y : Rat} (px : 0 < x) (py : 0 < y) {st : List Int} {t : Nat} (hs : (states fs.length)[t]? = some st) (p : List Nat) (a : Nat) : setF fs x y st p a = if (∃ k, k < fs.length ∧ p.getD k 0 = a) then fF (shM fs x y) t (maskL fs.length p a) else 1 := by
  have hb := states_bit hs
  have hm : ∀ k, k ∈ ownL fs.length p a ↔ k < fs.length ∧ p.getD k 0 = a := fun k => by
    unfold ownL
    rw [List.mem_filter, List.mem_range, decide_eq_true_eq]
  have hA := and_all (n := fs.length) (t := t) (P := fun k => p.getD k 0 = a) (bin_lt _ _) (fun k hk => mask_bit (p := p) (a := a) hk)
  have hA : (t &&& maskL fs.length p a = maskL fs.length p a ↔ ∀ k, k < fs.length → p.getD k 0 = a → t.testBit (fs.length - 1 - k) = true) ∧ (t &&& maskL fs.length p a = 0 ↔ ∀ k, k < fs.length → p.getD k 0 = a → t.testBit (fs.length - 1 - k) = false) := hA
  have hw := w_own fs x y p a
  have wp := wM_pos (fs := fs) px py (maskL fs.length p a)
  unfold setF
  unfold fF shM
  cases ho : ownL fs.length p a with
  | nil =>
    rw [if_neg fun ⟨k, h⟩ => absurd ((hm k).mpr h) (by rw [ho]; exact List.not_mem_nil)]
    rfl
  | cons k0 l =>
    rw [ho] at hw hm
    obtain ⟨k1, k2⟩ := (hm k0).mp List.mem_cons_self
    rw [if_pos ⟨k0, k1, k2⟩]
    show (if ∃ k ∈ k0 :: l, atS st ((k : Nat) : Int) ≠ atS st ((k0 : Nat) : Int) then 0 else _) = _
    have atb : ∀ k, k < fs.length → (atS st ((k : Nat) : Int) = atS st ((k0 : Nat) : Int) ↔ t.testBit (fs.length - 1 - k) = t.testBit (fs.length - 1 - k0)) := fun k hk => by
      rw [hb k hk, hb k0 k1]
      cases t.testBit (fs.length - 1 - k) <;> cases t.testBit (fs.length - 1 - k0) <;> decide
    have n1 : 1 + wM fs x y (maskL fs.length p a) ≠ 0 := fun h => by grind
    rw [← hw]
    by_cases hu : ∃ k ∈ k0 :: l, atS st ((k : Nat) : Int) ≠ atS st ((k0 : Nat) : Int)
    · rw [if_pos hu]
      obtain ⟨k, mk, hne⟩ := hu
      obtain ⟨k3, k4⟩ := (hm k).mp mk
      have hne : ¬ t.testBit (fs.length - 1 - k) = t.testBit (fs.length - 1 - k0) := fun h => hne ((atb k k3).mpr h)
      rw [if_neg fun h => hne ((hA.1.mp h k k3 k4).trans (hA.1.mp h k0 k1 k2).symm), if_neg fun h => hne ((hA.2.mp h k k3 k4).trans (hA.2.mp h k0 k1 k2).symm)]
    · rw [if_neg hu]
      have all : ∀ k, k < fs.length → p.getD k 0 = a → t.testBit (fs.length - 1 - k) = t.testBit (fs.length - 1 - k0) := fun k h3 h4 => (atb k h3).mp (Decidable.byContradiction fun h => hu ⟨k, (hm k).mpr ⟨h3, h4⟩, h⟩)
      cases hq : t.testBit (fs.length - 1 - k0) with
      | true =>
        rw [if_pos (by rw [hb k0 k1, hq]; rfl), if_pos (hA.1.mpr fun k h3 h4 => (all k h3 h4).trans hq)]
      | false =>
        rw [if_neg (by rw [hb k0 k1, hq]; decide), if_neg (fun h => by
          have := hA.1.mp h k0 k1 k2
          rw [hq] at this
          cases this), if_pos (hA.2.mpr fun k h3 h4 => (all k h3 h4).trans hq)]
        generalize wM fs x y (maskL fs.length p a) = W at *
        have e1 : (1 + W) / (1 + W) = 1 := by rw [Rat.div_def, Rat.mul_inv_cancel _ n1]
        have e2 : (1 + W) / (1 + W) = 1 / (1 + W) + W / (1 + W) := by
          rw [Rat.div_def, Rat.div_def, Rat.div_def]
          grind
        grind
theorem set_ways {fs : List Int} {x y : Rat} (px : 0 < x) (py : 0 < y) {st : List Int} {t : Nat} (hs : (states fs.length)[t]? = some st) {p : List Nat} (hl : ∀ i, i < fs.length → p.getD i 0 < fs.length) : dotG (dl t) (ways (shM fs x y) (srtN fs.length (masksOf fs.length p)) 1) = setC fs x y st p := by
  have ht : t < 2 ^ fs.length := by
    have := (List.getElem?_eq_some_iff.mp hs).1
    rwa [length_states] at this
  have mem : ∀ b ∈ srtN fs.length (masksOf fs.length p), ∃ k, k < fs.length ∧ b = maskL fs.length p (p.getD k 0) := fun b hb => by
    have hm := of_decide_eq_true (List.mem_filter.mp hb).2
    unfold masksOf at hm
    obtain ⟨i, mi, rfl⟩ := List.mem_map.mp hm
    exact ⟨i, List.mem_range.mp mi, rfl⟩
  have c1 : ∀ b ∈ srtN fs.length (masksOf fs.length p), b ≠ 0 := fun b hb => by
    obtain ⟨k, hk, rfl⟩ := mem b hb
    intro z
    have := mask_bit (p := p) (a := p.getD k 0) hk
    rw [z, Nat.zero_testBit, decide_eq_true rfl] at this
    cases this
  have c2 : (srtN fs.length (masksOf fs.length p)).Pairwise fun a b => a &&& b = 0 := by
    refine List.Pairwise.imp_of_mem (fun {a b} ha hb hab => ?_) (List.Pairwise.filter _ (List.pairwise_lt_range (n := 2 ^ fs.length)))
    obtain ⟨i, hi, rfl⟩ := mem a ha
    obtain ⟨k, hk, rfl⟩ := mem b hb
    refine (and_all (n := fs.length) (P := fun v => p.getD v 0 = p.getD k 0) (bin_lt _ _) (fun v hv => mask_bit hv)).2.mpr fun v hv e => ?_
    rw [mask_bit hv]
    refine decide_eq_false fun e2 => ?_
    rw [e2.symm.trans e] at hab
    exact Nat.lt_irrefl _ hab
  have c3 : ∀ j, t.testBit j = true → ∃ m ∈ srtN fs.length (masksOf fs.length p), m.testBit j = true := fun j hj => by
    have jn : j < fs.length := Decidable.byContradiction fun z => by
      have := Nat.testBit_lt_two_pow (Nat.lt_of_lt_of_le ht (Nat.pow_le_pow_right (by decide) (show fs.length ≤ j by omega)))
      rw [this] at hj
      cases hj
    have e : j = fs.length - 1 - (fs.length - 1 - j) := by omega
    refine ⟨maskL fs.length p (p.getD (fs.length - 1 - j) 0), List.mem_filter.mpr ⟨List.mem_range.mpr (bin_lt _ _), decide_eq_true (List.mem_map.mpr ⟨fs.length - 1 - j, List.mem_range.mpr (by omega), rfl⟩)⟩, ?_⟩
    have h1 := mask_bit (n := fs.length) (p := p) (a := p.getD (fs.length - 1 - j) 0) (k := fs.length - 1 - j) (by omega)
    rw [← e, decide_eq_true rfl] at h1
    exact h1
  rw [ways_dot (shM fs x y) 1 _ _ rfl c1 c2 t c3, Rat.one_mul, lprod_perm ((srt_perm hl).map _), List.map_map, lprod_filter]
  unfold setC
  congr 1
  refine List.map_congr_left fun a _ => ?_
  rw [set_fac px py hs]
  rfl
def stA (n k : Nat) : List Int := (states n).getD k []
theorem lwJ_lt {n : Nat} {p : List Nat} {u v : Nat} (hp : p.length = n) (h : ∀ i, i < n → p.getD i 0 < n) (hu : u < n) : (lwJ p u v).length = n ∧ ∀ i, i < n → (lwJ p u v).getD i 0 < n := by
  refine ⟨by unfold lwJ; rw [List.length_map, hp], fun i hi => ?_⟩
  unfold lwJ
  rw [getD_map (f := fun a => if a = p.getD v 0 then p.getD u 0 else a) (by rw [hp]; exact hi)]
  split
  · exact h u hu
  · exact h i hi
theorem parts_lt {n : Nat} {es : List Eg} (he : ∀ e ∈ es, 0 ≤ e.1 ∧ e.1 < n ∧ 0 ≤ e.2.1 ∧ e.2.1 < n) (mask : Nat) : ∀ k ≤ es.length, (partsK n es k mask).length = n ∧ ∀ i, i < n → (partsK n es k mask).getD i 0 < n
  | 0, _ => ⟨List.length_range, fun i hi => by
      rw [partsK, List.getD_eq_getElem?_getD, List.getElem?_range hi]
      exact hi⟩
  | k + 1, hk => by
    obtain ⟨h1, h2⟩ := parts_lt he mask k (by omega)
    rw [partsK]
    split
    · have eA : egA es k = es[k]'(by omega) := by
        unfold egA
        rw [List.getD_eq_getElem?_getD, List.getElem?_eq_getElem (by omega)]
        rfl
      obtain ⟨u0, u1, v0, v1⟩ := he _ (List.getElem_mem (show k < es.length by omega))
      exact lwJ_lt h1 h2 (by rw [eA]; omega)
    · exact ⟨h1, h2⟩
theorem ways_one (sh : Nat → Rat) (c : Rat) (ms : List Nat) : dotG (fun _ => 1) (ways sh ms c) = c := by
  have gen : ∀ (ms : List Nat) (ws : List (Nat × Rat)), dotG (fun _ => 1) (ms.foldl (fun ws m => waysStep (sh m) m ws) ws) = dotG (fun _ => 1) ws := fun ms => by
    induction ms with
    | nil => exact fun ws => rfl
    | cons m ms ih =>
      intro ws
      rw [List.foldl_cons, ih, step_dot]
      refine dotG_congr fun e _ => ?_
      grind
  have := gen ms [(0, c)]
  refine this.trans ?_
  show c * 1 + 0 = c
  grind
theorem ways_lt (sh : Nat → Rat) (c : Rat) {n : Nat} {ms : List Nat} (h : ∀ m ∈ ms, m < 2 ^ n) : ∀ e ∈ ways sh ms c, e.1 < 2 ^ n := by
  have gen : ∀ (ms : List Nat) (ws : List (Nat × Rat)), (∀ m ∈ ms, m < 2 ^ n) → (∀ e ∈ ws, e.1 < 2 ^ n) → ∀ e ∈ ms.foldl (fun ws m => waysStep (sh m) m ws) ws, e.1 < 2 ^ n := fun ms => by
    induction ms with
    | nil => exact fun ws _ h => h
    | cons m ms ih =>
      intro ws hm h
      refine ih _ (fun a ha => hm a (List.mem_cons_of_mem _ ha)) fun f hf => ?_
      unfold waysStep at hf
      rcases List.mem_append.mp hf with hf | hf
      · obtain ⟨g, hg, rfl⟩ := List.mem_map.mp hf
        exact Nat.or_lt_two_pow (h g hg) (hm m List.mem_cons_self)
      · obtain ⟨g, hg, rfl⟩ := List.mem_map.mp hf
        exact h g hg
  exact gen ms [(0, c)] h fun e he => by
    rw [List.mem_singleton.mp he]
    exact Nat.two_pow_pos n
theorem srt_lt {n : Nat} {m : List Nat} : ∀ a ∈ srtN n m, a < 2 ^ n := fun a ha => List.mem_range.mp (List.mem_filter.mp ha).1
/-! ### joint weights of states and sets of edges (rests on k47's ways, ways2, rows) -/
theorem dl_total {N : Nat} : ∀ {l : List (Nat × Rat)}, (∀ e ∈ l, e.1 < N) → sumN (fun k => dotG (dl k) l) N = dotG (fun _ => 1) l := fun {l} lt => by
  induction l with
  | nil =>
    have : ∀ n, sumN (fun _ => (0 : Rat)) n = 0 := fun n => by
      induction n with
      | zero => rfl
      | succ n ih => rw [sumN, ih, Rat.add_zero]
    exact this N
  | cons e l ih =>
    have ih := ih fun k hk => lt k (List.mem_cons_of_mem _ hk)
    have hk := lt e List.mem_cons_self
    show sumN (fun k => e.2 * dl k e.1 + dotG (dl k) l) N = e.2 * 1 + dotG (fun _ => 1) l
    rw [sumN_add, ih, sumN_mul, dl_sum, if_pos hk]
theorem stA_at {n t : Nat} (h : t < 2 ^ n) : (states n)[t]? = some (stA n t) := by
  unfold stA
  rw [List.getD_eq_getElem?_getD, List.getElem?_eq_getElem (by rw [length_states]; exact h)]
  rfl
/-- the settings of the classes: their chances add up to 1 -/
theorem setC_sum {fs : List Int} {x y : Rat} (px : 0 < x) (py : 0 < y) {p : List Nat} (hl : ∀ i, i < fs.length → p.getD i 0 < fs.length) : sumN (fun t => setC fs x y (stA fs.length t) p) (2 ^ fs.length) = 1 := by
  have h1 : sumN (fun t => setC fs x y (stA fs.length t) p) (2 ^ fs.length) = sumN (fun t => dotG (dl t) (ways (shM fs x y) (srtN fs.length (masksOf fs.length p)) 1)) (2 ^ fs.length) := sumN_congr fun t ht => (set_ways px py (stA_at ht) hl).symm
  rw [h1, dl_total (ways_lt _ _ srt_lt), ways_one]
/-- powers of a sum -/
theorem inv_pw {r : Rat} (h : r ≠ 0) : ∀ n : Nat, r⁻¹ ^ n = (r ^ n)⁻¹
  | 0 => by
    rw [Rat.pow_zero, Rat.pow_zero]
    have h1 : (1 : Rat) * 1⁻¹ = 1 := Rat.mul_inv_cancel 1 (by decide)
    rw [Rat.one_mul] at h1
    exact h1.symm
  | n + 1 => by
    rw [Rat.pow_succ, Rat.pow_succ, inv_pw h n]
    have hn : r ^ n ≠ 0 := fun z => by
      have : ∀ m : Nat, r ^ m ≠ 0 := fun m => by
        induction m with
        | zero => rw [Rat.pow_zero]; decide
        | succ m ih => rw [Rat.pow_succ]; exact fun z => (Rat.mul_eq_zero.mp z).elim ih h
      exact this n z
    have h1 : r ^ n * (r ^ n)⁻¹ = 1 := Rat.mul_inv_cancel _ hn
    have h2 : r * r⁻¹ = 1 := Rat.mul_inv_cancel _ h
    have h3 : r ^ n * r ≠ 0 := fun z => (Rat.mul_eq_zero.mp z).elim hn h
    have h4 : (r ^ n * r) * (r ^ n * r)⁻¹ = 1 := Rat.mul_inv_cancel _ h3
    grind
theorem rp_z {r : Rat} (h : r ≠ 0) (x : Int) : rp r x = r ^ x := by
  unfold rp
  split
  · rename_i h1
    conv => rhs; rw [← Int.natAbs_of_nonneg h1]
    rw [Rat.zpow_natCast]
  · rename_i h1
    have e : x = -((x.natAbs : Nat) : Int) := by omega
    conv => rhs; rw [e]
    rw [Rat.zpow_neg, Rat.zpow_natCast, inv_pw h]
theorem rp_add {r : Rat} (h : r ≠ 0) (a b : Int) : rp r (a + b) = rp r a * rp r b := by
  rw [rp_z h, rp_z h, rp_z h, Rat.zpow_add h]
/-! ### what a state pays, class by class -/
/-- the vertices that are up -/
def upL (n : Nat) (st : List Int) : List Nat := (List.range n).filter fun k => decide (atS st ((k : Nat) : Int) = 1)
/-- x to the fields and y to the number of a list of vertices -/
theorem wO_app {fs : List Int} {x y : Rat} (nx : x ≠ 0) (ny : y ≠ 0) (l r : List Nat) : wO fs x y (l ++ r) = wO fs x y l * wO fs x y r := by
  unfold wO
  rw [List.map_append, List.sum_append, List.length_append, Int.natCast_add, rp_add nx, rp_add ny]
  grind
theorem wO_nil (fs : List Int) (x y : Rat) : wO fs x y [] = 1 := by
  show rp x 0 * rp y 0 = 1
  unfold rp
  rw [if_pos (by decide), if_pos (by decide)]
  show x ^ 0 * y ^ 0 = 1
  rw [Rat.pow_zero, Rat.pow_zero, Rat.mul_one]
theorem wO_cons {fs : List Int} {x y : Rat} (nx : x ≠ 0) (ny : y ≠ 0) (k : Nat) (l : List Nat) : wO fs x y (k :: l) = wO fs x y [k] * wO fs x y l := wO_app nx ny [k] l
/-- the product over all vertices, by their labels -/
theorem wO_split {fs : List Int} {x y : Rat} (nx : x ≠ 0) (ny : y ≠ 0) (f : Nat → Nat) (N : Nat) : ∀ l : List Nat, (∀ k ∈ l, f k < N) → wO fs x y l = lprod ((List.range N).map fun a => wO fs x y (l.filter fun k => decide (f k = a)))
  | [], _ => by
    rw [wO_nil]
    have : ∀ m, lprod ((List.range m).map fun _ => (1 : Rat)) = 1 := fun m => by
      induction m with
      | zero => rfl
      | succ m ih => rw [List.range_succ, List.map_append, List.map_singleton, lprod_snoc, ih, Rat.mul_one]
    have e : ((List.range N).map fun a => wO fs x y (([] : List Nat).filter fun k => decide (f k = a))) = (List.range N).map fun _ => (1 : Rat) := List.map_congr_left fun a _ => wO_nil fs x y
    rw [e, this]
  | k :: l, h => by
    rw [wO_cons nx ny, wO_split nx ny f N l fun j m => h j (List.mem_cons_of_mem _ m)]
    have hk := h k List.mem_cons_self
    have key : ∀ m, lprod ((List.range m).map fun a => wO fs x y ((k :: l).filter fun j => decide (f j = a))) = (if f k < m then wO fs x y [k] else 1) * lprod ((List.range m).map fun a => wO fs x y (l.filter fun j => decide (f j = a))) := fun m => by
      induction m with
      | zero =>
        rw [if_neg (Nat.not_lt_zero _)]
        show (1 : Rat) = 1 * 1
        rw [Rat.mul_one]
      | succ m ih =>
        rw [List.range_succ, List.map_append, List.map_append, List.map_singleton, List.map_singleton, lprod_snoc, lprod_snoc, ih]
        by_cases e : f k = m
        · rw [List.filter_cons_of_pos (by exact decide_eq_true e), wO_cons nx ny k (l.filter fun j => decide (f j = m)), if_neg (show ¬ f k < m by omega), if_pos (show f k < m + 1 by omega)]
          grind
        · rw [List.filter_cons_of_neg (by rw [decide_eq_false e]; decide)]
          by_cases e2 : f k < m
          · rw [if_pos e2, if_pos (show f k < m + 1 by omega)]
            grind
          · rw [if_neg e2, if_neg (show ¬ f k < m + 1 by omega)]
            grind
    rw [key, if_pos hk]
theorem lprod_zero' : ∀ {l : List Rat}, 0 ∈ l → lprod l = 0
  | a :: l, h => by
    rw [lprod]
    rcases List.mem_cons.mp h with e | e
    · rw [← e, Rat.zero_mul]
    · rw [lprod_zero' e, Rat.mul_zero]
/-- all vertices of a class stand alike -/
def constP (n : Nat) (st : List Int) (p : List Nat) : Prop := ∀ i k, i < n → k < n → p.getD i 0 = p.getD k 0 → atS st ((i : Nat) : Int) = atS st ((k : Nat) : Int)
noncomputable instance (n : Nat) (st : List Int) (p : List Nat) : Decidable (constP n st p) := Classical.propDecidable _
/-- the clusters' own sums -/
def whole (fs : List Int) (x y : Rat) (p : List Nat) : Rat := lprod ((List.range fs.length).map fun a => if ownL fs.length p a = [] then 1 else 1 + wO fs x y (ownL fs.length p a))
theorem lprod_mul {α : Type} (f g : α → Rat) : ∀ l : List α, lprod (l.map fun a => f a * g a) = lprod (l.map f) * lprod (l.map g)
  | [] => by
    show (1 : Rat) = 1 * 1
    rw [Rat.mul_one]
  | a :: l => by
    rw [List.map_cons, List.map_cons, List.map_cons, lprod, lprod, lprod, lprod_mul f g l]
    grind
/-- what a state pays for fields and ups, on constant classes: the settings' chances times the clusters' sums -/
theorem pays_const {fs : List Int} {x y : Rat} (px : 0 < x) (py : 0 < y) {st : List Int} {p : List Nat} (hl : ∀ i, i < fs.length → p.getD i 0 < fs.length) : setC fs x y st p * whole fs x y p = if constP fs.length st p then wO fs x y (upL fs.length st) else 0 := by
  have nx : x ≠ 0 := fun h => Rat.lt_irrefl (h ▸ px)
  have ny : y ≠ 0 := fun h => Rat.lt_irrefl (h ▸ py)
  have hm : ∀ a j, j ∈ ownL fs.length p a ↔ j < fs.length ∧ p.getD j 0 = a := fun a j => by
    unfold ownL
    rw [List.mem_filter, List.mem_range, decide_eq_true_eq]
  unfold setC whole
  rw [← lprod_mul]
  by_cases hc : constP fs.length st p
  · rw [if_pos hc, wO_split nx ny (fun k => p.getD k 0) fs.length (upL fs.length st) fun k mk => hl k (List.mem_range.mp (List.mem_filter.mp mk).1)]
    congr 1
    refine List.map_congr_left fun a _ => ?_
    have comm : (upL fs.length st).filter (fun k => decide (p.getD k 0 = a)) = (ownL fs.length p a).filter fun k => decide (atS st ((k : Nat) : Int) = 1) := by
      unfold upL ownL
      rw [List.filter_filter, List.filter_filter]
      refine List.filter_congr fun k _ => ?_
      exact Bool.and_comm _ _
    rw [comm]
    unfold setF
    cases ho : ownL fs.length p a with
    | nil =>
      rw [if_pos rfl]
      show (1 : Rat) * 1 = wO fs x y []
      rw [wO_nil, Rat.mul_one]
    | cons k0 l =>
      rw [if_neg (by simp)]
      have hm := hm a
      rw [ho] at hm
      obtain ⟨k1, k2⟩ := (hm k0).mp List.mem_cons_self
      have wp : 0 < wO fs x y (k0 :: l) := Rat.mul_pos (rp_pos px _) (rp_pos py _)
      have n1 : 1 + wO fs x y (k0 :: l) ≠ 0 := fun h => by grind
      have alike : ∀ k ∈ k0 :: l, atS st ((k : Nat) : Int) = atS st ((k0 : Nat) : Int) := fun k mk => hc k k0 ((hm k).mp mk).1 k1 (((hm k).mp mk).2.trans k2.symm)
      have hu : ¬ ∃ k ∈ k0 :: l, atS st ((k : Nat) : Int) ≠ atS st ((k0 : Nat) : Int) := fun ⟨k, mk, h⟩ => h (alike k mk)
      have e1 : setG fs x y st (k0 :: l) = (if atS st ((k0 : Nat) : Int) = 1 then wO fs x y (k0 :: l) else 1) / (1 + wO fs x y (k0 :: l)) := if_neg hu
      rw [e1, Rat.div_def, Rat.mul_assoc, Rat.mul_comm _⁻¹, Rat.mul_inv_cancel _ n1, Rat.mul_one]
      by_cases h1 : atS st ((k0 : Nat) : Int) = 1
      · rw [if_pos h1, List.filter_eq_self.mpr fun k mk => decide_eq_true ((alike k mk).trans h1)]
      · rw [if_neg h1, List.filter_eq_nil_iff.mpr fun k mk z => h1 ((alike k mk).symm.trans (of_decide_eq_true z)), wO_nil]
  · rw [if_neg hc]
    obtain ⟨i, k, hi, hk, e, hne⟩ : ∃ i k, i < fs.length ∧ k < fs.length ∧ p.getD i 0 = p.getD k 0 ∧ atS st ((i : Nat) : Int) ≠ atS st ((k : Nat) : Int) := by
      refine Classical.byContradiction fun h => hc fun i k hi hk e => Decidable.byContradiction fun hne => h ⟨i, k, hi, hk, e, hne⟩
    refine lprod_zero' (List.mem_map.mpr ⟨p.getD i 0, List.mem_range.mpr (hl i hi), ?_⟩)
    have z : setF fs x y st p (p.getD i 0) = 0 := by
      unfold setF
      have hm := hm (p.getD i 0)
      cases ho : ownL fs.length p (p.getD i 0) with
      | nil =>
        have := (hm i).mpr ⟨hi, rfl⟩
        rw [ho] at this
        cases this
      | cons k0 l =>
        rw [ho] at hm
        refine if_pos ?_
        by_cases q : atS st ((i : Nat) : Int) = atS st ((k0 : Nat) : Int)
        · exact ⟨k, (hm k).mpr ⟨hk, e.symm⟩, fun z => hne (q.trans z.symm)⟩
        · exact ⟨i, (hm i).mpr ⟨hi, rfl⟩, q⟩
    rw [z, Rat.zero_mul]
/-- the sum over the states, a set's clusters given -/
theorem pays_sum {fs : List Int} {x y : Rat} (px : 0 < x) (py : 0 < y) {p : List Nat} (hl : ∀ i, i < fs.length → p.getD i 0 < fs.length) : sumN (fun t => if constP fs.length (stA fs.length t) p then wO fs x y (upL fs.length (stA fs.length t)) else 0) (2 ^ fs.length) = whole fs x y p := by
  have h1 : sumN (fun t => if constP fs.length (stA fs.length t) p then wO fs x y (upL fs.length (stA fs.length t)) else 0) (2 ^ fs.length) = sumN (fun t => whole fs x y p * setC fs x y (stA fs.length t) p) (2 ^ fs.length) := sumN_congr fun t ht => by rw [← pays_const px py hl, Rat.mul_comm]
  rw [h1, sumN_mul, setC_sum px py hl, Rat.mul_one]
/-! ### sets of edges -/
def facJ (x : Rat) (st : List Int) (e : Eg) (b : Bool) : Rat := if b = true then (if sameE st e then 1 - rp x e.2.2 else 0) else rp x e.2.2
def jwK (x : Rat) (st : List Int) (es : List Eg) : Nat → Nat → Rat
  | 0, _ => 1
  | k + 1, mask => jwK x st es k mask * facJ x st (egA es k) (mask.testBit k)
def setK (x : Rat) (es : List Eg) : Nat → Nat → Rat
  | 0, _ => 1
  | k + 1, mask => setK x es k mask * if mask.testBit k = true then 1 - rp x (egA es k).2.2 else rp x (egA es k).2.2
def uniK (st : List Int) (es : List Eg) (k mask : Nat) : Prop := ∀ j < k, mask.testBit j = true → sameE st (egA es j)
noncomputable instance (st : List Int) (es : List Eg) (k mask : Nat) : Decidable (uniK st es k mask) := Classical.propDecidable _
theorem jw_set (x : Rat) (st : List Int) (es : List Eg) (mask : Nat) : ∀ k, jwK x st es k mask = if uniK st es k mask then setK x es k mask else 0
  | 0 => by
    rw [if_pos (show uniK st es 0 mask from fun j hj => absurd hj (Nat.not_lt_zero j))]
    rfl
  | k + 1 => by
    rw [jwK, setK, jw_set x st es mask k]
    by_cases h : uniK st es k mask
    · rw [if_pos h]
      unfold facJ
      by_cases hb : mask.testBit k = true
      · by_cases hs : sameE st (egA es k)
        · rw [if_pos (show uniK st es (k + 1) mask from fun j hj hbj => by
            by_cases e : j = k
            · rw [e]
              exact hs
            · exact h j (by omega) hbj), if_pos hb, if_pos hb, if_pos hs]
        · rw [if_neg (fun z => hs (z k (Nat.lt_succ_self k) hb) : ¬ uniK st es (k + 1) mask), if_pos hb, if_neg hs, Rat.mul_zero]
      · rw [if_pos (show uniK st es (k + 1) mask from fun j hj hbj => by
          by_cases e : j = k
          · rw [e] at hbj
            exact absurd hbj hb
          · exact h j (by omega) hbj), if_neg hb, if_neg hb]
    · rw [if_neg h, if_neg (fun z => h fun j hj => z j (by omega) : ¬ uniK st es (k + 1) mask), Rat.zero_mul]
theorem const_join {n : Nat} {st : List Int} {p : List Nat} (hp : p.length = n) {u v : Nat} (hu : u < n) (hv : v < n) : constP n st (lwJ p u v) ↔ constP n st p ∧ atS st ((u : Nat) : Int) = atS st ((v : Nat) : Int) := by
  have gp : ∀ k, k < n → (lwJ p u v).getD k 0 = if p.getD k 0 = p.getD v 0 then p.getD u 0 else p.getD k 0 := fun k hk => by
    unfold lwJ
    rw [getD_map (f := fun a => if a = p.getD v 0 then p.getD u 0 else a) (by rw [hp]; exact hk)]
  constructor
  · intro h
    refine ⟨fun i k hi hk e => h i k hi hk (by rw [gp i hi, gp k hk, e]), h u v hu hv ?_⟩
    rw [gp u hu, gp v hv, if_pos rfl]
    split <;> rfl
  · rintro ⟨h, huv⟩ i k hi hk e
    rw [gp i hi, gp k hk] at e
    by_cases c1 : p.getD i 0 = p.getD v 0
    · rw [if_pos c1] at e
      have a1 := h i v hi hv c1
      by_cases c2 : p.getD k 0 = p.getD v 0
      · exact h i k hi hk (c1.trans c2.symm)
      · rw [if_neg c2] at e
        exact (a1.trans huv.symm).trans (h u k hu hk e)
    · rw [if_neg c1] at e
      by_cases c2 : p.getD k 0 = p.getD v 0
      · rw [if_pos c2] at e
        exact (h i u hi hu e).trans (huv.trans (h k v hk hv c2).symm)
      · rw [if_neg c2] at e
        exact h i k hi hk e
theorem const_uni {n : Nat} {st : List Int} {es : List Eg} (he : ∀ e ∈ es, 0 ≤ e.1 ∧ e.1 < n ∧ 0 ≤ e.2.1 ∧ e.2.1 < n) (mask : Nat) : ∀ k ≤ es.length, (constP n st (partsK n es k mask) ↔ uniK st es k mask)
  | 0, _ => by
    refine ⟨fun _ j hj => absurd hj (Nat.not_lt_zero j), fun _ i k hi hk e => ?_⟩
    rw [partsK, List.getD_eq_getElem?_getD, List.getD_eq_getElem?_getD, List.getElem?_range hi, List.getElem?_range hk] at e
    have e : i = k := e
    rw [e]
  | k + 1, hk => by
    have ih := const_uni (st := st) he mask k (by omega)
    obtain ⟨h1, h2⟩ := parts_lt he mask k (by omega)
    have eA : egA es k = es[k]'(by omega) := by
      unfold egA
      rw [List.getD_eq_getElem?_getD, List.getElem?_eq_getElem (by omega)]
      rfl
    obtain ⟨u0, u1, v0, v1⟩ := he _ (List.getElem_mem (show k < es.length by omega))
    rw [← eA] at u0 u1 v0 v1
    have step : uniK st es (k + 1) mask ↔ uniK st es k mask ∧ (mask.testBit k = true → sameE st (egA es k)) := by
      constructor
      · exact fun h => ⟨fun j hj => h j (by omega), h k (Nat.lt_succ_self k)⟩
      · rintro ⟨ha, hb⟩ j hj hbj
        by_cases e : j = k
        · rw [e] at hbj ⊢
          exact hb hbj
        · exact ha j (by omega) hbj
    rw [step, partsK]
    by_cases hb : mask.testBit k = true
    · rw [if_pos hb, const_join h1 (by omega) (by omega), ih]
      have e1 : (((egA es k).1.toNat : Nat) : Int) = (egA es k).1 := Int.toNat_of_nonneg u0
      have e2 : (((egA es k).2.1.toNat : Nat) : Int) = (egA es k).2.1 := Int.toNat_of_nonneg v0
      rw [e1, e2]
      exact ⟨fun ⟨a, b⟩ => ⟨a, fun _ => b⟩, fun ⟨a, b⟩ => ⟨a, b hb⟩⟩
    · rw [if_neg hb, ih]
      exact ⟨fun a => ⟨a, fun z => absurd z hb⟩, fun a => a.1⟩
/-- what the law has for a set of edges is the sum of the joint weights of all states -/
theorem by_sets {fs : List Int} {x y : Rat} (px : 0 < x) (py : 0 < y) {es : List Eg} (he : ∀ e ∈ es, 0 ≤ e.1 ∧ e.1 < fs.length ∧ 0 ≤ e.2.1 ∧ e.2.1 < fs.length) (mask : Nat) : sumN (fun t => wO fs x y (upL fs.length (stA fs.length t)) * jwK x (stA fs.length t) es es.length mask) (2 ^ fs.length) = setK x es es.length mask * whole fs x y (partsK fs.length es es.length mask) := by
  have hl := (parts_lt he mask es.length (Nat.le_refl _)).2
  rw [← pays_sum px py hl, ← sumN_mul]
  refine sumN_congr fun t _ => ?_
  have hc := const_uni (st := stA fs.length t) he mask es.length (Nat.le_refl _)
  rw [jw_set]
  by_cases h : uniK (stA fs.length t) es es.length mask
  · rw [if_pos h, if_pos (hc.mpr h), Rat.mul_comm]
  · rw [if_neg h, if_neg fun z => h (hc.mp z), Rat.mul_zero, Rat.mul_zero]
/-- and the sum over all sets is what a state pays -/
def apart (x : Rat) (st : List Int) (es : List Eg) : Nat → Rat
  | 0 => 1
  | k + 1 => apart x st es k * if sameE st (egA es k) then 1 else rp x (egA es k).2.2
theorem jw_low (x : Rat) (st : List Int) (es : List Eg) : ∀ k m m', (∀ j < k, m.testBit j = m'.testBit j) → jwK x st es k m = jwK x st es k m'
  | 0, _, _, _ => rfl
  | k + 1, m, m', h => by rw [jwK, jwK, jw_low x st es k m m' fun j hj => h j (by omega), h k (by omega)]
theorem by_states (x : Rat) (st : List Int) (es : List Eg) : ∀ k, sumN (fun mask => jwK x st es k mask) (2 ^ k) = apart x st es k
  | 0 => by
    show 0 + 1 = (1 : Rat)
    grind
  | k + 1 => by
    rw [Nat.pow_succ, Nat.mul_two, sumN_split, ← sumN_add, apart, ← by_states x st es k, Rat.mul_comm, ← sumN_mul]
    refine sumN_congr fun m hm => ?_
    have b1 : m.testBit k = false := Nat.testBit_lt_two_pow hm
    have b2 : (2 ^ k + m).testBit k = true := by
      rw [Nat.testBit_two_pow_add_eq, b1]
      rfl
    have low : ∀ j < k, (2 ^ k + m).testBit j = m.testBit j := fun j hj => Nat.testBit_two_pow_add_gt hj m
    rw [jwK, jwK, b1, b2, jw_low x st es k _ m low]
    unfold facJ
    by_cases hs : sameE st (egA es k)
    · simp only [if_pos hs, if_true]
      simp
      grind
    · simp only [if_neg hs, if_true]
      simp
      grind
/-! ### the same as the weight of a state -/
def payR (fs : List Int) (x y : Rat) (st : List Int) : Rat := rp x (fieldC fs st) * rp y st.sum
theorem zip_range {fs st : List Int} (h : st.length = fs.length) : fs.zip st = (List.range fs.length).map fun k => (fs.getD k 0, atS st ((k : Nat) : Int)) := by
  refine List.ext_getElem? fun i => ?_
  rw [List.getElem?_map]
  by_cases hi : i < fs.length
  · have h2 : i < st.length := by omega
    have e : (fs.zip st)[i]? = some (fs[i], st[i]) := List.getElem?_zip_eq_some.mpr ⟨List.getElem?_eq_getElem hi, List.getElem?_eq_getElem h2⟩
    rw [List.getElem?_range hi, e]
    show some (fs[i], st[i]) = some (fs.getD i 0, atS st ((i : Nat) : Int))
    unfold atS
    rw [Int.toNat_natCast, List.getD_eq_getElem?_getD, List.getD_eq_getElem?_getD, List.getElem?_eq_getElem hi, List.getElem?_eq_getElem h2]
    rfl
  · rw [List.getElem?_eq_none (by rw [List.length_zip]; omega), List.getElem?_eq_none (by rw [List.length_range]; omega)]
    rfl
theorem st_range {st : List Int} : st = (List.range st.length).map fun k => atS st ((k : Nat) : Int) := by
  refine List.ext_getElem? fun i => ?_
  rw [List.getElem?_map]
  by_cases hi : i < st.length
  · rw [List.getElem?_range hi]
    show st[i]? = some (atS st ((i : Nat) : Int))
    unfold atS
    rw [Int.toNat_natCast, List.getD_eq_getElem?_getD, List.getElem?_eq_getElem hi]
    rfl
  · rw [List.getElem?_eq_none (by omega), List.getElem?_eq_none (by rw [List.length_range]; omega)]
    rfl
theorem sum01 {f : Nat → Int} : ∀ l : List Nat, (∀ k ∈ l, f k = 0 ∨ f k = 1) → (l.map f).sum = (((l.filter fun k => decide (f k = 1)).length : Nat) : Int)
  | [], _ => rfl
  | k :: l, h => by
    rw [List.map_cons, List.sum_cons, sum01 l fun j m => h j (List.mem_cons_of_mem _ m)]
    rcases h k List.mem_cons_self with e | e
    · rw [List.filter_cons_of_neg (by rw [e]; decide), e]
      omega
    · rw [List.filter_cons_of_pos (by rw [e]; decide), e, List.length_cons]
      omega
theorem pay_up {fs st : List Int} (x y : Rat) (h : st.length = fs.length) (h01 : ∀ z ∈ st, z = 0 ∨ z = 1) : wO fs x y (upL fs.length st) = payR fs x y st := by
  unfold wO payR
  congr 2
  · unfold fieldC upL
    rw [zip_range h, List.filter_map, List.map_map]
    rfl
  · conv => rhs; rw [st_range (st := st)]
    rw [sum01 _ fun k mk => ?_, h]
    · rfl
    · have hk := List.mem_range.mp mk
      unfold atS
      rw [Int.toNat_natCast, List.getD_eq_getElem?_getD, List.getElem?_eq_getElem hk]
      exact h01 _ (List.getElem_mem hk)
theorem apart_cost {x : Rat} (nx : x ≠ 0) (st : List Int) (es : List Eg) : ∀ k ≤ es.length, apart x st es k = rp x (edgeC (es.take k) st)
  | 0, _ => by
    show (1 : Rat) = rp x 0
    unfold rp
    rw [if_pos (by decide)]
    exact (Rat.pow_zero x).symm
  | k + 1, hk => by
    have hk' : k < es.length := by omega
    have eA : egA es k = es[k] := by
      unfold egA
      rw [List.getD_eq_getElem?_getD, List.getElem?_eq_getElem hk']
      rfl
    rw [apart, apart_cost nx st es k (by omega), take_snoc (List.getElem?_eq_getElem hk'), eA]
    unfold edgeC
    rw [List.filter_append, List.map_append, List.sum_append, rp_add nx]
    congr 1
    by_cases hs : sameE st es[k]
    · rw [if_pos hs, List.filter_cons_of_neg (by rw [decide_eq_false (fun z => z hs)]; decide)]
      show (1 : Rat) = rp x 0
      unfold rp
      rw [if_pos (by decide)]
      exact (Rat.pow_zero x).symm
    · rw [if_neg hs, List.filter_cons_of_pos (by exact decide_eq_true hs)]
      congr 1
      show _ = es[k].2.2 + 0
      omega
/-- the joint weights of a state add up to its weight -/
theorem states_sum {fs st : List Int} {x : Rat} (nx : x ≠ 0) (y : Rat) (es : List Eg) : sumN (fun mask => payR fs x y st * jwK x st es es.length mask) (2 ^ es.length) = rp x (costZ fs es st) * rp y st.sum := by
  rw [sumN_mul, by_states, apart_cost nx st es _ (Nat.le_refl _), List.take_length]
  unfold payR costZ
  rw [rp_add nx]
  grind
/-- those of a set of edges add up to what the law has for it -/
theorem sets_sum {fs : List Int} {x y : Rat} (px : 0 < x) (py : 0 < y) {es : List Eg} (he : ∀ e ∈ es, 0 ≤ e.1 ∧ e.1 < fs.length ∧ 0 ≤ e.2.1 ∧ e.2.1 < fs.length) (mask : Nat) : sumN (fun t => payR fs x y (stA fs.length t) * jwK x (stA fs.length t) es es.length mask) (2 ^ fs.length) = setK x es es.length mask * whole fs x y (partsK fs.length es es.length mask) := by
  rw [← by_sets px py he mask]
  refine sumN_congr fun t ht => ?_
  obtain ⟨ln, hbt⟩ := states_ok _ _ (List.mem_of_getElem? (stA_at ht))
  rw [pay_up x y ln hbt]
open K04
theorem ok_law_add (T : Top K mg) : FnOk P w K mg base CX0 3 T.f_law_add T.d_law_add ["p", "q"] (spOp2 K okA addF) := by
  refine T.F_law_add.ok sc_law_add (fun vs H Q E h => ?_) (fun cdv A outer s H vs Q E hr h => ?_)
  · obtain ⟨a, b, p, q, rfl, _⟩ := h
    rfl
  · obtain ⟨a, b, p, q, rfl, hp, hq, ⟨m1, m2, m3, m4, n1, n2⟩, k⟩ := h
    refine ⟨_, (pss_one (ps_ret (pe_call (ok_law_frac T) (hr.mono (by decide)) (by rfl) T.g_law_frac T.F_law_frac.kp T.b_law_frac .nil pass0 (pa_cons (pe_op op_add (pe_op op_mulW (pe_ix ix_tup (pv 0) pe_int (fun _ _ => rfl)) (pe_ix ix_tup (pv 1) pe_int (fun _ _ => rfl))) (pe_op op_mulW (pe_ix ix_tup (pv 1) pe_int (fun _ _ => rfl)) (pe_ix ix_tup (pv 0) pe_int (fun _ _ => rfl)))) (pa_cons (pe_op op_mulW (pe_ix ix_tup (pv 0) pe_int (fun _ _ => rfl)) (pe_ix ix_tup (pv 1) pe_int (fun _ _ => rfl))) pa_nil))))), ?_⟩
    refine ⟨_, rfl, a, _, _, _, rfl, rfl, hp, atI_nat (j := 0) rfl, _, rfl, b, _, _, _, rfl, rfl, hq, atI_nat (j := 1) rfl, _, _, rfl, rfl, mid_mul m1 m4, ?_⟩
    refine ⟨_, rfl, b, _, _, _, rfl, rfl, hq, atI_nat (j := 0) rfl, _, rfl, a, _, _, _, rfl, rfl, hp, atI_nat (j := 1) rfl, _, _, rfl, rfl, mid_mul m3 m2, ?_⟩
    refine ⟨_, _, rfl, rfl, ?_⟩
    refine ⟨_, rfl, a, _, _, _, rfl, rfl, hp, atI_nat (j := 1) rfl, _, rfl, b, _, _, _, rfl, rfl, hq, atI_nat (j := 1) rfl, _, _, rfl, rfl, mid_mul m2 m4, ?_⟩
    exact ⟨_, _, rfl, Int.mul_ne_zero n1 n2, mid_small m2 m4, k⟩
def spLWts (T : Top K mg) : Sp := fun vs H Q _ => ∃ (fa ea a b : Addr) (fs : List Int) (xs : List V) (es : List Eg) (x y : Rat), vs = [.ref fa, .ref ea, .ref a, .ref b] ∧ SqL K H fa (fs.map V.int) ∧ SqL K H ea xs ∧ Paired (EdgeAt K H) xs es ∧ goodF fs ∧ goodE fs.length es ∧ Fr K H a (fq x) ∧ Fr K H b (fq y) ∧ sm12 x ∧ sm12 y ∧ x ≠ 0 ∧ y ≠ 0 ∧ fs.length ≤ 8 ∧ (∀ st ∈ states fs.length, (costZ fs es st).natAbs ≤ 64) ∧
  ∀ l H' xs, Ext H H' → H l = none → H' l = some (.lst xs) → FrsV K H' xs ((states fs.length).map (wtR fs es x y)) → Q (.ref l) H'
theorem ok_law_weights (T : Top K mg) : FnOk P w K mg base CX0 5 T.f_law_weights T.d_law_weights ["fields", "edges", "x", "y"] (spLWts T) := by
  refine T.F_law_weights.ok sc_law_weights (fun vs H Q E h => ?_) (fun cdv A outer s H vs Q E hr h => ?_)
  · obtain ⟨fa, ea, a, b, fs, xs, es, x, y, rfl, _⟩ := h
    rfl
  obtain ⟨fa, ea, a, b, fs, xs, es, x, y, rfl, hf, he, hes, gf, ge, ha, hb, sx, sy, nx, ny, l8, hc, q⟩ := h
  refine ⟨_, (pss_cons (ps_set (i := 4) sc_law_weights.nd rfl (by first | exact .inl rfl | exact .inr rfl) (pe_lst pa_nil))
      (pss_cons (ps_for PassesOwn.never rfl (pi_list (pe_call (ok_law_states T) (hr.mono (by decide)) (by rfl) T.g_law_states T.F_law_states.kp T.b_law_states .nil pass0 (pa_cons (pe_callB call_len_seq (by rfl) T.m_len (by decide +kernel) (pa_cons (pv 0) pa_nil)) pa_nil))) (pg_name (i := 5) sc_law_weights.nd rfl (by first | exact .inl rfl | exact .inr rfl)) (pss_one (ps_expr (pe_bm PySem.F.plainAttrs_list PySem.F.slot_list_append PySem.F.type_list_append mt_append (pv 4) (pa_cons (pe_call (ok_law_mul T) (hr.mono (by decide)) (by rfl) T.g_law_mul T.F_law_mul.kp T.b_law_mul .nil pass0 (pa_cons (pe_call (ok_law_rp T) (hr.mono (by decide)) (by rfl) T.g_law_pow T.F_law_pow.kp T.b_law_pow .nil pass0 (pa_cons (pv 2) (pa_cons (pe_call (ok_law_cost T) (hr.mono (by decide)) (by rfl) T.g_law_cost T.F_law_cost.kp T.b_law_cost .nil pass0 (pa_cons (pv 0) (pa_cons (pv 1) (pa_cons (pv 5) pa_nil)))) pa_nil))) (pa_cons (pe_call (ok_law_rp T) (hr.mono (by decide)) (by rfl) T.g_law_pow T.F_law_pow.kp T.b_law_pow .nil pass0 (pa_cons (pv 3) (pa_cons (pe_callB (cr_sumT rfl) (by rfl) T.m_sum (by decide +kernel) (pa_cons (pv 5) pa_nil)) pa_nil))) pa_nil))) pa_nil)))))
      (pss_one (ps_ret (pv 4))))), ?_⟩
  refine ⟨by rw [sizeLine_eq]; simp, fun D hD => ?_⟩
  have x0 := ext_upd (o := .lst []) hD
  have y0 : upd H D (.lst []) D = some (.lst []) := upd_same
  dsimp only [gName]
  generalize upd H D (.lst []) = H0 at *
  refine ⟨_, rfl, fa, _, rfl, .inl (x0.seq hf), fs.length, by rw [List.length_map]; rfl, l8, fun l H1 ys s1 nl hl hst => ?_⟩
  have s01 := x0.trans s1
  refine ⟨l, rfl, ⟨_, SqL.of hl⟩, for_list (xs := ys) (fun i σ H2 => (∃ z, σ = [some (.ref fa), some (.ref ea), some (.ref a), some (.ref b), some (.ref D), z]) ∧ Ext H H2 ∧ H2 l = some (.lst ys) ∧ Paired (StAt K H2) ys (states fs.length) ∧ ∃ zs, H2 D = some (.lst zs) ∧ FrsV K H2 zs (((states fs.length).take i).map (wtR fs es x y))) ⟨⟨none, rfl⟩, s01, hl, hst, [], s1.lst y0, .nil⟩ (fun i σ H2 _ h => SqL.of h.2.2.1) (fun i v σ H2 hi hP => ?_) (fun σ H2 hP => ?_)⟩
  · obtain ⟨⟨z, rfl⟩, s02, hl2, hst2, zs, hzs, hp2⟩ := hP
    obtain ⟨st, hsi, a1, rfl, ha1⟩ := paired_at hst2 hi
    have nlD : l ≠ D := fun z => by
      rw [z, y0] at nl
      cases nl
    have hm := List.mem_of_getElem? hsi
    obtain ⟨ln, hbt⟩ := states_ok _ st hm
    have lst := hp2.length
    have ls := length_states fs.length
    have l256 : 2 ^ fs.length ≤ 256 := pow8 l8
    rw [List.length_map, List.length_take] at lst
    have sb := sum_bound (c := 1) (l := st) fun z hz => by
      rcases hbt z hz with e | e <;> rw [e] <;> decide
    have hs64 : st.sum.natAbs ≤ 64 := by omega
    dsimp only [gName]
    refine ⟨_, rfl, .inl ⟨rfl, _, SqL.of hzs⟩, _, rfl, _, rfl, _, rfl, _, rfl, fa, ea, a1, fs, xs, es, st, rfl, s02.seq hf, s02.seq he, s02.edges hes, ha1, ln, hbt, gf, ge, ?_⟩
    refine ⟨a, x, _, rfl, sx, hc st hm, fun _ => nx, s02.tup ha, fun p1 H4 s4 hp1 => ?_⟩
    refine ⟨_, rfl, _, rfl, a1, st, rfl, s4.ext.tup ha1, b, y, _, rfl, sy, hs64, fun _ => ny, (s02.trans s4.ext).tup hb, fun p2 H5 s5 hp2' => ?_⟩
    refine ⟨p1, p2, _, _, rfl, s5.fr hp1, hp2', okA_of (sm_rp sx nx (hc st hm)) (sm_rp sy ny hs64), fun p3 H6 s6 n6 hp6 => ?_⟩
    rw [SM.mulF_fq] at hp6
    have t6 := (s4.ext.trans s5.ext).trans s6.ext
    have hzs6 := t6.lst hzs
    refine ⟨D, zs, .ref p3, rfl, rfl, hzs6, sl_lt (by omega), ⟨_, rfl⟩, (s02.trans t6).own hD, by rw [upd_ne nlD]; exact t6.lst hl2, sts_lst hzs6 (t6.sts hst2), zs ++ [.ref p3], upd_same, ?_⟩
    rw [take_snoc hsi, List.map_append]
    exact frs_upd hzs6 (paired_snoc (frs_up t6 hp2) ⟨p3, rfl, SqT.of hp6⟩)
  · obtain ⟨⟨z, rfl⟩, s02, _, _, zs, hzs, hp2⟩ := hP
    rw [hst.length, List.take_length] at hp2
    exact ⟨_, rfl, q D H2 zs s02 hD hzs hp2⟩
theorem F_tab0 : ((List.range 9).all fun n => (List.range 9).all fun d => n == 0 || d == 0 || (decide ((F ((n : Nat) : Int) ((d : Nat) : Int)).1.natAbs < 2 ^ 4) && decide ((F ((n : Nat) : Int) ((d : Nat) : Int)).2.natAbs < 2 ^ 4) && decide (0 < (F ((n : Nat) : Int) ((d : Nat) : Int)).1) && (decide (d < n) || decide ((F ((n : Nat) : Int) ((d : Nat) : Int)).1 ≤ (F ((n : Nat) : Int) ((d : Nat) : Int)).2)))) = true := by decide +kernel
theorem F_tab (n : Nat) (hn : n < 9) (d : Nat) (hd : d < 9) (n0 : n ≠ 0) (d0 : d ≠ 0) : (F ((n : Nat) : Int) ((d : Nat) : Int)).1.natAbs < 2 ^ 4 ∧ (F ((n : Nat) : Int) ((d : Nat) : Int)).2.natAbs < 2 ^ 4 ∧ 0 < (F ((n : Nat) : Int) ((d : Nat) : Int)).1 ∧ (n ≤ d → (F ((n : Nat) : Int) ((d : Nat) : Int)).1 ≤ (F ((n : Nat) : Int) ((d : Nat) : Int)).2) := by
  have h := List.all_eq_true.mp (List.all_eq_true.mp F_tab0 n (List.mem_range.mpr hn)) d (List.mem_range.mpr hd)
  simp only [Bool.or_eq_true, Bool.and_eq_true, beq_iff_eq, decide_eq_true_eq] at h
  rcases h with (h | h) | ⟨⟨⟨h1, h2⟩, h3⟩, h4⟩
  · exact absurd h n0
  · exact absurd h d0
  · exact ⟨h1, h2, h3, fun z => h4.resolve_left (by omega)⟩
theorem fq_small {n d : Int} (hn0 : 0 < n) (hn : n ≤ 8) (hd0 : 0 < d) (hd : d ≤ 8) : ∃ r : Rat, F n d = fq r ∧ Bz 4 r ∧ 0 < r ∧ (n ≤ d → r ≤ 1) := by
  obtain ⟨n, rfl⟩ := Int.eq_ofNat_of_zero_le (Int.le_of_lt hn0)
  obtain ⟨d, rfl⟩ := Int.eq_ofNat_of_zero_le (Int.le_of_lt hd0)
  obtain ⟨h1, h2, h3, h4⟩ := F_tab n (by omega) d (by omega) (by omega) (by omega)
  have e : F ((n : Nat) : Int) ((d : Nat) : Int) = fq (Rat.divInt ((n : Nat) : Int) ((d : Nat) : Int)) := SM.F_fq _ (by omega)
  rw [e] at h1 h2 h3 h4
  refine ⟨_, e, ⟨h1, h2⟩, ?_, fun h => ?_⟩
  · rw [Rat.lt_iff]
    show 0 * _ < _ * ((1 : Nat) : Int)
    have h3 : 0 < (Rat.divInt ((n : Nat) : Int) ((d : Nat) : Int)).num := h3
    omega
  rw [Rat.le_iff]
  have := h4 (by omega)
  have h5 : (fq (Rat.divInt ((n : Nat) : Int) ((d : Nat) : Int))).1 = (Rat.divInt ((n : Nat) : Int) ((d : Nat) : Int)).num := rfl
  have h6 : (fq (Rat.divInt ((n : Nat) : Int) ((d : Nat) : Int))).2 = ((Rat.divInt ((n : Nat) : Int) ((d : Nat) : Int)).den : Int) := rfl
  rw [h5, h6] at this
  show _ * ((1 : Nat) : Int) ≤ 1 * _
  omega
def spLFr (K : PySem.W.Frag) : Sp := fun vs H Q _ => ∃ (c : Int) (u : Bool), vs = [.int c, .bl u] ∧ 0 ≤ c ∧
  ∀ l H' a b x y, Ext H H' → H' l = some (.tup [.ref a, .ref b]) → Fr K H' a (fq x) → Fr K H' b (fq y) → Bz 4 x → Bz 4 y → 0 < x → 0 < y → (u = true → x ≤ 1) → Q (.ref l) H'
theorem ok_law_fractions (T : Top K mg) : FnOk P w K mg base CX0 3 T.f_law_fractions T.d_law_fractions ["cell", "unit"] (spLFr K) := by
  refine T.F_law_fractions.ok sc_law_fractions (fun vs H Q E h => ?_) (fun cdv A outer s H vs Q E hr h => ?_)
  · obtain ⟨c, u, rfl, _⟩ := h
    rfl
  obtain ⟨c, u, rfl, c0, q⟩ := h
  refine ⟨_, (pss_cons (ps_set (i := 2) sc_law_fractions.nd rfl (by first | exact .inl rfl | exact .inr rfl) (pe_op op_add pe_int (pe_op op_mod (pv 0) pe_int)))
      (pss_cons (ps_set (i := 3) sc_law_fractions.nd rfl (by first | exact .inl rfl | exact .inr rfl) (pe_call (ok_law_frac T) (hr.mono (by decide)) (by rfl) T.g_law_frac T.F_law_frac.kp T.b_law_frac .nil pass0 (pa_cons (pe_ifExp (pt_val (pv 1)) (pe_op op_add pe_int (pe_op op_mod (pe_op op_fdivZ (pv 0) pe_int) (pv 2))) (pe_op op_add pe_int (pe_op op_mod (pe_op op_fdivZ (pv 0) pe_int) pe_int))) (pa_cons (pv 2) pa_nil))))
      (pss_one (ps_ret (pe_tup (pa_cons (pv 3) (pa_cons (pe_call (ok_law_frac T) (hr.mono (by decide)) (by rfl) T.g_law_frac T.F_law_frac.kp T.b_law_frac .nil pass0 (pa_cons (pe_op op_add pe_int (pe_op op_mod (pe_op op_fdivZ (pv 0) pe_int) pe_int)) (pa_cons (pe_op op_add pe_int (pe_op op_mod (pe_op op_fdivZ (pv 0) pe_int) pe_int)) pa_nil))) pa_nil))))))), ?_⟩
  refine ⟨_, rfl, _, _, rfl, rfl, (by decide : (0 : Int) < 4), _, _, rfl, rfl, ?_⟩
  dsimp only [gName]
  have b0 : 0 < 1 + c % 4 := by omega
  have b1 : 1 + c % 4 ≤ 4 := by omega
  have ed : ∀ k : Int, 0 < k → c.fdiv k = c / k := fun k hk => Int.fdiv_eq_ediv_of_nonneg _ (Int.le_of_lt hk)
  obtain ⟨nm, hnm⟩ : ∃ nm : Int, nm = if u = true then 1 + c.fdiv 4 % (1 + c % 4) else 1 + c.fdiv 4 % 6 := ⟨_, rfl⟩
  have n0 : 0 < nm ∧ nm ≤ 6 ∧ (u = true → nm ≤ 1 + c % 4) := by
    rw [hnm, ed 4 (by decide)]
    generalize c / 4 = e
    have z1 := Int.emod_nonneg e (show 1 + c % 4 ≠ 0 by omega)
    have z2 := Int.emod_lt_of_pos e b0
    split
    · exact ⟨by omega, by omega, fun _ => by omega⟩
    · rename_i h
      exact ⟨by omega, by omega, fun z => absurd z h⟩
  obtain ⟨x, ex, bx, px, ox⟩ := fq_small n0.1 (by omega) b0 (by omega)
  obtain ⟨y, ey, bY, py, _⟩ := fq_small (n := 1 + c.fdiv 32 % 4) (d := 1 + c.fdiv 128 % 3) (by omega) (by omega) (by omega) (by omega)
  have fin : ∀ pa H1, Same H H1 → Fr K H1 pa (fq x) → tRet (tTup (tCons (tVar 3) (tCons (tCall spFrac [] E0 (tCons (tOp (rI0 fun i j => V.int (i + j)) (tC (V.int 1)) (tOp (rI (fun x j => 0 < j) fun i j => V.int (i % j)) (tOp (rI CDivZ fun i j => V.int (i.fdiv j)) (tVar 0) (tC (V.int 32))) (tC (V.int 4)))) (tCons (tOp (rI0 fun i j => V.int (i + j)) (tC (V.int 1)) (tOp (rI (fun x j => 0 < j) fun i j => V.int (i % j)) (tOp (rI CDivZ fun i j => V.int (i.fdiv j)) (tVar 0) (tC (V.int 128))) (tC (V.int 3)))) tNil))) tNil))) { nx := fun x H' => Q V.non H', rt := Q } [some (.int c), some (.bl u), some (.int (1 + c % 4)), some (.ref pa)] H1 := fun pa H1 s1 hpa => by
    refine ⟨_, rfl, _, rfl, _, _, rfl, rfl, ⟨by decide, by decide⟩, _, _, rfl, rfl, (by decide : (0 : Int) < 4), _, _, rfl, rfl, ?_⟩
    refine ⟨_, rfl, _, _, rfl, rfl, ⟨by decide, by decide⟩, _, _, rfl, rfl, (by decide : (0 : Int) < 3), _, _, rfl, rfl, _, _, rfl, by omega, Nat.lt_of_lt_of_le (show (1 + c.fdiv 128 % 3).natAbs < 2 ^ 3 by omega) (Nat.pow_le_pow_right (by decide) (by decide)), fun pb H2 s2 nb hpb => ⟨sl2, fun t ht => ?_⟩⟩
    rw [ey] at hpb
    have x3 := ext_upd (o := .tup [.ref pa, .ref pb]) ht
    exact q t _ pa pb x y ((s1.ext.trans s2.ext).trans x3) upd_same (x3.tup (s2.fr hpa)) (x3.tup (SqT.of hpb)) bx bY px py (fun h => ox (n0.2.2 h))
  have sm : small (1 + c % 4) := Nat.lt_of_lt_of_le (show (1 + c % 4).natAbs < 2 ^ 3 by omega) (Nat.pow_le_pow_right (by decide) (by decide))
  cases u with
  | true =>
    refine ⟨_, rfl, _, rfl, iteT ?_⟩
    refine ⟨_, rfl, _, _, rfl, rfl, ⟨by decide, by decide⟩, _, rfl, _, _, rfl, rfl, b0, _, _, rfl, rfl, _, rfl, _, _, rfl, by omega, sm, fun pa H1 s1 na hpa => ?_⟩
    rw [if_pos rfl] at hnm
    rw [← hnm, ex] at hpa
    exact fin pa H1 s1 (SqT.of hpa)
  | false =>
    refine ⟨_, rfl, _, rfl, iteF ?_⟩
    refine ⟨_, rfl, _, _, rfl, rfl, ⟨by decide, by decide⟩, _, _, rfl, rfl, (by decide : (0 : Int) < 6), _, _, rfl, rfl, _, rfl, _, _, rfl, by omega, sm, fun pa H1 s1 na hpa => ?_⟩
    rw [if_neg (by decide)] at hnm
    rw [← hnm, ex] at hpa
    exact fin pa H1 s1 (SqT.of hpa)
/-! ### rows -/
def sumL (l : List Rat) : Rat := l.foldl (· + ·) 0
theorem sumL_snoc (l : List Rat) (r : Rat) : sumL (l ++ [r]) = sumL l + r := by
  unfold sumL
  rw [List.foldl_append]
  rfl
open K04
/-! ### sums of fractions in a list -/
def spSumOf (K : PySem.W.Frag) : Sp := fun vs H Q _ => ∃ (l : Addr) (xs : List V) (rs : List Rat), vs = [.ref l] ∧ SqL K H l xs ∧ FrsV K H xs rs ∧ (∀ r ∈ rs, Sm r) ∧ (∀ k, Sm (sumL (rs.take k))) ∧
  ∀ p H', Ext H H' → Fr K H' p (fq (sumL rs)) → Q (.ref p) H'
theorem ok_sum_of (T : Top K mg) : FnOk P w K mg base CX0 4 T.f_sum_of T.d_sum_of ["numbers"] (spSumOf K) := by
  refine T.F_sum_of.ok sc_sum_of (fun vs H Q E h => ?_) (fun cdv A outer s H vs Q E hr h => ?_)
  · obtain ⟨l, xs, rs, rfl, _⟩ := h
    rfl
  obtain ⟨l, xs, rs, rfl, hl, hxs, hr1, hr2, q⟩ := h
  refine ⟨_, (pss_cons (ps_set (i := 1) sc_sum_of.nd rfl (by first | exact .inl rfl | exact .inr rfl) (pe_tup (pa_cons pe_int (pa_cons pe_int pa_nil))))
      (pss_cons (ps_for PassesOwn.never rfl (pi_list (pv 0)) (pg_name (i := 2) sc_sum_of.nd rfl (by first | exact .inl rfl | exact .inr rfl)) (pss_one (ps_set (i := 1) sc_sum_of.nd rfl (by first | exact .inl rfl | exact .inr rfl) (pe_call (ok_add T) (hr.mono (by decide)) (by rfl) T.g_add T.F_add.kp T.b_add .nil pass0 (pa_cons (pv 1) (pa_cons (pv 2) pa_nil))))))
      (pss_one (ps_ret (pv 1))))), ?_⟩
  refine ⟨sl2, fun t0 h0 => ?_⟩
  have x0 := ext_upd (o := .tup [.int 0, .int 1]) h0
  have k0 : SqT K (upd H t0 (.tup [.int 0, .int 1])) t0 [.int 0, .int 1] := SqT.of upd_same
  dsimp only [gName]
  generalize upd H t0 (.tup [.int 0, .int 1]) = H0 at *
  have lx := hxs.length
  refine ⟨_, rfl, l, rfl, ⟨_, x0.seq hl⟩, for_list (xs := xs) (fun i σ HA => (∃ ta z2, σ = [some (.ref l), some (.ref ta), z2] ∧ Fr K HA ta (fq (sumL (rs.take i)))) ∧ Ext H HA) ⟨⟨t0, _, rfl, k0⟩, x0⟩ (fun i σ HA _ h => h.2.seq hl) (fun i v σ HA hi hP => ?_) (fun σ HA hP => ?_)⟩
  · obtain ⟨⟨ta, z2, rfl, hta⟩, sA⟩ := hP
    obtain ⟨r, hri, a1, rfl, ha1⟩ := paired_at (frs_up sA hxs) hi
    dsimp only [gName]
    refine ⟨_, rfl, _, rfl, ta, a1, _, _, rfl, hta, ha1, okA_of (hr2 i) (hr1 r (List.mem_of_getElem? hri)), fun p HB sB nB hp => ?_⟩
    rw [SM.addF_fq, ← sumL_snoc, ← take_snoc hri] at hp
    exact ⟨⟨p, _, rfl, SqT.of hp⟩, sA.trans sB.ext⟩
  · obtain ⟨⟨ta, z2, rfl, hta⟩, sA⟩ := hP
    rw [lx, List.take_length] at hta
    exact ⟨_, rfl, q ta HA sA hta⟩
open K04
/-! ### one denominator for all powers of a fraction -/
def gX (x : Rat) : Nat := x.num.natAbs * x.den
theorem num_pos' {x : Rat} (px : 0 < x) : 0 < x.num := by
  rw [Rat.lt_iff] at px
  have h : (0 : Int) * _ < x.num * ((1 : Nat) : Int) := px
  omega
theorem mul8 {a b : Nat} (h : a < 2 ^ 4) (k : b < 2 ^ 4) : a * b ≤ 2 ^ 8 := Nat.le_trans (Nat.mul_le_mul (Nat.le_of_lt h) (Nat.le_of_lt k)) (by decide)
theorem mulden (r : Rat) : r * ((r.den : Nat) : Rat) = ((r.num : Int) : Rat) := by
  have h1 := Rat.num_divInt_den r
  rw [Rat.divInt_eq_div, Rat.intCast_natCast] at h1
  have hd : ((r.den : Nat) : Rat) ≠ 0 := fun z => r.den_nz (Rat.natCast_inj.mp (z : ((r.den : Nat) : Rat) = ((0 : Nat) : Rat)))
  generalize ((r.num : Int) : Rat) = N at *
  generalize ((r.den : Nat) : Rat) = D at *
  rw [← h1, Rat.div_def, Rat.mul_assoc, Rat.mul_comm D⁻¹ D, Rat.mul_inv_cancel _ hd, Rat.mul_one]
theorem gX_ne {x : Rat} (px : 0 < x) : gX x ≠ 0 := by
  have h1 := num_pos' px
  have h2 := x.den_pos
  exact Nat.mul_ne_zero (by omega) (by omega)
theorem den_lt {x : Rat} (bx : Bz 4 x) : x.den < 2 ^ 4 := by
  have h2 : ((x.den : Nat) : Int).natAbs < 2 ^ 4 := bx.2
  rwa [Int.natAbs_natCast] at h2
theorem gX_le {x : Rat} (bx : Bz 4 x) : gX x ≤ 2 ^ 8 := by
  have h1 : x.num.natAbs < 2 ^ 4 := bx.1
  exact mul8 h1 (den_lt bx)
theorem sm12_of {r : Rat} (h : Bz 4 r) : sm12 r := ⟨(h.le (by decide : 4 ≤ 12)).1, Nat.lt_trans (den_lt h) (by decide)⟩
theorem gX_self {x : Rat} (bx : Bz 4 x) : Iz (gX x) (2 ^ 8) x := by
  have h1 : x.num.natAbs < 2 ^ 4 := bx.1
  refine ⟨x.num * (x.num.natAbs : Int), ?_, ?_⟩
  · have h := mulden x
    unfold gX
    rw [Rat.natCast_mul, Rat.intCast_mul]
    have e : ((x.num.natAbs : Nat) : Rat) = (((x.num.natAbs : Nat) : Int) : Rat) := rfl
    rw [← e, ← h]
    grind
  · rw [Int.natAbs_mul, Int.natAbs_natCast]
    exact mul8 h1 h1
theorem gX_inv {x : Rat} (bx : Bz 4 x) (px : 0 < x) : Iz (gX x) (2 ^ 8) x⁻¹ := by
  have h1 := num_pos' px
  refine ⟨((x.den * x.den : Nat) : Int), ?_, ?_⟩
  · have h := mulden x
    have e1 : ((x.num.natAbs : Nat) : Rat) = ((x.num : Int) : Rat) := by
      have : ((x.num.natAbs : Nat) : Int) = x.num := by omega
      calc ((x.num.natAbs : Nat) : Rat) = ((((x.num.natAbs : Nat) : Int)) : Rat) := rfl
        _ = _ := by rw [this]
    have e2 : (((x.den * x.den : Nat) : Int) : Rat) = ((x.den : Nat) : Rat) * ((x.den : Nat) : Rat) := Rat.natCast_mul _ _
    unfold gX
    rw [Rat.natCast_mul, e1, ← h, e2]
    have nx : x ≠ 0 := fun h => Rat.lt_irrefl (h ▸ px)
    have := Rat.mul_inv_cancel x nx
    grind
  · rw [Int.natAbs_natCast]
    exact mul8 (den_lt bx) (den_lt bx)
theorem iz_pw {m : Nat} {r : Rat} (h : Iz m (2 ^ 8) r) : ∀ n, Iz (m ^ n) (2 ^ (8 * n)) (r ^ n)
  | 0 => by
    rw [Rat.pow_zero]
    exact (Iz.nat 1 : Iz 1 1 ((1 : Nat) : Rat))
  | n + 1 => by
    rw [Nat.pow_succ, Rat.pow_succ, Nat.mul_add, Nat.pow_add]
    exact (iz_pw h n).mul h
theorem gX_pow_le {x : Rat} (bx : Bz 4 x) (n : Nat) : gX x ^ n ≤ 2 ^ (8 * n) := by
  rw [Nat.pow_mul]
  exact Nat.pow_le_pow_left (gX_le bx) n
theorem iz_wide {x : Rat} (bx : Bz 4 x) {r : Rat} {n E : Nat} (h : Iz (gX x ^ n) (2 ^ (8 * n)) r) (k : n ≤ E) : Iz (gX x ^ E) (2 ^ (8 * E)) r := by
  have h1 := h.up (gX x ^ (E - n))
  rw [← Nat.pow_add, Nat.add_sub_cancel' k] at h1
  refine h1.le ?_
  refine Nat.le_trans (Nat.mul_le_mul_left _ (gX_pow_le bx _)) (Nat.le_of_eq ?_)
  rw [← Nat.pow_add, ← Nat.mul_add, Nat.add_sub_cancel' k]
theorem iz_one {x : Rat} (bx : Bz 4 x) (E : Nat) : Iz (gX x ^ E) (2 ^ (8 * E)) 1 := iz_wide bx (n := 0) (Iz.nat 1 : Iz 1 1 ((1 : Nat) : Rat)) (Nat.zero_le _)
theorem iz_rpG {x : Rat} (bx : Bz 4 x) (px : 0 < x) {e : Int} {E : Nat} (h : e.natAbs ≤ E) : Iz (gX x ^ E) (2 ^ (8 * E)) (rp x e) := by
  unfold rp
  split
  · exact iz_wide bx (iz_pw (gX_self bx) _) h
  · exact iz_wide bx (iz_pw (gX_inv bx px) _) h
/-! ### sizes of joint weights -/
theorem fac_izJ {x : Rat} (bx : Bz 4 x) (px : 0 < x) {st : List Int} {e : Eg} (h9 : -9 ≤ e.2.2 ∧ e.2.2 ≤ 9) (b : Bool) : Iz (gX x ^ 9) (2 ^ 73) (facJ x st e b) := by
  have h1 : Iz (gX x ^ 9) (2 ^ 72) (rp x e.2.2) := iz_rpG bx px (by omega)
  have h2 : Iz (gX x ^ 9) (2 ^ 72) 1 := iz_one bx 9
  unfold facJ
  split
  · split
    · exact h2.sub h1
    · exact Iz.zero.le (Nat.zero_le _)
  · exact h1.le (Nat.pow_le_pow_right (by decide) (by decide))
theorem set_fizJ {x : Rat} (bx : Bz 4 x) (px : 0 < x) {e : Eg} (h9 : -9 ≤ e.2.2 ∧ e.2.2 ≤ 9) : Iz (gX x ^ 9) (2 ^ 73) (rp x e.2.2) ∧ Iz (gX x ^ 9) (2 ^ 73) (1 - rp x e.2.2) := by
  have h1 : Iz (gX x ^ 9) (2 ^ 72) (rp x e.2.2) := iz_rpG bx px (by omega)
  have h2 : Iz (gX x ^ 9) (2 ^ 72) 1 := iz_one bx 9
  exact ⟨h1.le (Nat.pow_le_pow_right (by decide) (by decide)), h2.sub h1⟩
theorem egA_mem {es : List Eg} {k : Nat} (h : k < es.length) : egA es k ∈ es := by
  have eA : egA es k = es[k] := by
    unfold egA
    rw [List.getD_eq_getElem?_getD, List.getElem?_eq_getElem h]
    rfl
  rw [eA]
  exact List.getElem_mem h
theorem jw_iz {x : Rat} (bx : Bz 4 x) (px : 0 < x) {st : List Int} {es : List Eg} (h9 : ∀ e ∈ es, -9 ≤ e.2.2 ∧ e.2.2 ≤ 9) (mask : Nat) : ∀ k ≤ es.length, Iz (gX x ^ (9 * k)) (2 ^ (73 * k)) (jwK x st es k mask)
  | 0, _ => (Iz.nat 1 : Iz 1 1 ((1 : Nat) : Rat))
  | k + 1, hk => by
    rw [jwK, Nat.mul_add, Nat.mul_add, Nat.pow_add, Nat.pow_add]
    exact (jw_iz bx px h9 mask k (by omega)).mul (fac_izJ bx px (h9 _ (egA_mem (by omega))) _)
theorem setK_iz {x : Rat} (bx : Bz 4 x) (px : 0 < x) {es : List Eg} (h9 : ∀ e ∈ es, -9 ≤ e.2.2 ∧ e.2.2 ≤ 9) (mask : Nat) : ∀ k ≤ es.length, Iz (gX x ^ (9 * k)) (2 ^ (73 * k)) (setK x es k mask)
  | 0, _ => (Iz.nat 1 : Iz 1 1 ((1 : Nat) : Rat))
  | k + 1, hk => by
    rw [setK, Nat.mul_add, Nat.mul_add, Nat.pow_add, Nat.pow_add]
    refine (setK_iz bx px h9 mask k (by omega)).mul ?_
    have := set_fizJ bx px (h9 _ (egA_mem (show k < es.length by omega)))
    split
    · exact this.2
    · exact this.1
def wD (x y : Rat) (k : Nat) : Nat := gX x ^ 10 * gX y ^ 5 * gX x ^ (9 * k)
def wX (k : Nat) : Nat := 2 ^ (120 + 73 * k)
theorem wD_ne {x y : Rat} (px : 0 < x) (py : 0 < y) (k : Nat) : wD x y k ≠ 0 := Nat.mul_ne_zero (Nat.mul_ne_zero (Nat.pos_iff_ne_zero.mp (Nat.pow_pos (Nat.pos_of_ne_zero (gX_ne px)))) (Nat.pos_iff_ne_zero.mp (Nat.pow_pos (Nat.pos_of_ne_zero (gX_ne py))))) (Nat.pos_iff_ne_zero.mp (Nat.pow_pos (Nat.pos_of_ne_zero (gX_ne px))))
theorem wD_lt {x y : Rat} (bx : Bz 4 x) (bY : Bz 4 y) {k : Nat} (hk : k ≤ 8) : wD x y k < 2 ^ 1000 := by
  have h : wD x y k ≤ 2 ^ (8 * 10) * 2 ^ (8 * 5) * 2 ^ (8 * (9 * k)) := Nat.mul_le_mul (Nat.mul_le_mul (gX_pow_le bx _) (gX_pow_le bY _)) (gX_pow_le bx _)
  rw [← Nat.pow_add, ← Nat.pow_add] at h
  exact Nat.lt_of_le_of_lt h (Nat.pow_lt_pow_right (by decide) (by omega))
theorem wX_lt {k : Nat} (hk : k ≤ 8) (m : Nat) (hm : m ≤ 2 ^ 20) : m * wX k < 2 ^ 1000 := by
  refine Nat.lt_of_le_of_lt (Nat.mul_le_mul_right _ hm) ?_
  unfold wX
  rw [← Nat.pow_add]
  exact Nat.pow_lt_pow_right (by decide) (by omega)
theorem wsm {x y : Rat} (bx : Bz 4 x) (bY : Bz 4 y) (px : 0 < x) (py : 0 < y) {k m : Nat} (hk : k ≤ 8) (hm : m ≤ 2 ^ 20) {r : Rat} (h : Iz (wD x y k) (m * wX k) r) : Sm r := SM.sm_of h (wD_ne px py k) (Nat.lt_of_lt_of_le (wD_lt bx bY hk) (Nat.pow_le_pow_right (by decide) (by decide))) (Nat.lt_of_lt_of_le (wX_lt hk m hm) (Nat.pow_le_pow_right (by decide) (by decide)))
theorem fieldC_le {fs : List Int} (h : ∀ f ∈ fs, -2 ≤ f ∧ f ≤ 2) (n5 : fs.length ≤ 5) (st : List Int) : (fieldC fs st).natAbs ≤ 10 := by
  unfold fieldC
  have hb : ∀ z ∈ (((fs.zip st).filter fun p => decide (p.2 = 1)).map fun p => p.1), -2 ≤ z ∧ z ≤ 2 := fun z m => by
    obtain ⟨p, mp, rfl⟩ := List.mem_map.mp m
    exact h _ (List.of_mem_zip (List.mem_filter.mp mp).1).1
  have := sum_bound (c := 2) hb
  have l1 : (((fs.zip st).filter fun p => decide (p.2 = 1)).map fun p => p.1).length ≤ fs.length := by
    rw [List.length_map]
    refine Nat.le_trans (List.length_filter_le _ _) ?_
    rw [List.length_zip]
    exact Nat.min_le_left _ _
  omega
theorem sum01_le {st : List Int} (h : bits st) (n5 : st.length ≤ 5) : 0 ≤ st.sum ∧ st.sum ≤ 5 := by
  have : ∀ l : List Int, bits l → 0 ≤ l.sum ∧ l.sum ≤ l.length := fun l => by
    induction l with
    | nil => exact fun _ => ⟨Int.le_refl _, Int.le_refl _⟩
    | cons a l ih =>
      intro hb
      have := ih fun b m => hb b (List.mem_cons_of_mem _ m)
      have h1 := hb a List.mem_cons_self
      rw [List.sum_cons, List.length_cons]
      omega
  have := this st h
  omega
theorem pay_iz {fs : List Int} {x y : Rat} (bx : Bz 4 x) (bY : Bz 4 y) (px : 0 < x) (py : 0 < y) (hs : ∀ f ∈ fs, -2 ≤ f ∧ f ≤ 2) (n5 : fs.length ≤ 5) {st : List Int} (hl : st.length = fs.length) (hb : bits st) : Iz (gX x ^ 10 * gX y ^ 5) (2 ^ 120) (payR fs x y st) := by
  have h1 := iz_rpG bx px (fieldC_le hs n5 st)
  have h2 := sum01_le hb (by omega)
  have h3 := iz_rpG bY py (e := st.sum) (E := 5) (by omega)
  have := h1.mul h3
  rw [← Nat.pow_add] at this
  exact this
theorem jwt_iz {fs : List Int} {x y : Rat} (bx : Bz 4 x) (bY : Bz 4 y) (px : 0 < x) (py : 0 < y) (hs : ∀ f ∈ fs, -2 ≤ f ∧ f ≤ 2) (n5 : fs.length ≤ 5) {st : List Int} (hl : st.length = fs.length) (hb : bits st) {es : List Eg} (h9 : ∀ e ∈ es, -9 ≤ e.2.2 ∧ e.2.2 ≤ 9) (mask : Nat) {k : Nat} (hk : k ≤ es.length) : Iz (wD x y k) (wX k) (payR fs x y st * jwK x st es k mask) := by
  unfold wD wX
  rw [Nat.pow_add]
  exact (pay_iz bx bY px py hs n5 hl hb).mul (jw_iz bx px h9 mask k hk)
theorem sumL_izJ {D X : Nat} : ∀ (l : List Rat), (∀ r ∈ l, Iz D X r) → Iz D (l.length * X) (sumL l) := fun l => by
  have gen : ∀ (l : List Rat) (a : Rat) (c : Nat), Iz D (c * X) a → (∀ r ∈ l, Iz D X r) → Iz D ((c + l.length) * X) (l.foldl (· + ·) a) := fun l => by
    induction l with
    | nil => exact fun a c h _ => h
    | cons r l ih =>
      intro a c h hl
      have := ih (a + r) (c + 1) (by rw [Nat.succ_mul]; exact h.add (hl r List.mem_cons_self)) fun q m => hl q (List.mem_cons_of_mem _ m)
      have e : c + 1 + l.length = c + (r :: l).length := by rw [List.length_cons]; omega
      rw [e] at this
      exact this
  intro h
  have := gen l 0 0 (Iz.zero.le (Nat.zero_le _)) h
  rwa [Nat.zero_add] at this
/-! ### the value of a polynomial (rests on k48's dicts) -/
def linR (F : Ex → Rat) : List Trm → Rat
  | [] => 0
  | t :: p => (t.2 : Rat) * F t.1 + linR F p
theorem linR_ins (F : Ex → Rat) (t : Trm) : ∀ p : List Trm, linR F (PM.ins t p) = (t.2 : Rat) * F t.1 + linR F p
  | [] => by
    unfold PM.ins
    split
    · rename_i h
      rw [h]
      show (0 : Rat) = ((0 : Int) : Rat) * F t.1 + 0
      have : ((0 : Int) : Rat) = 0 := rfl
      rw [this]
      grind
    · rfl
  | u :: r => by
    unfold PM.ins
    split
    · split
      · rename_i h
        rw [h]
        have : ((0 : Int) : Rat) = 0 := rfl
        rw [this]
        grind
      · rfl
    · split
      · rename_i e
        split
        · rename_i h
          simp only [linR]
          rw [← e]
          have : (t.2 : Rat) + (u.2 : Rat) = 0 := by
            rw [← Rat.intCast_add, h]
            rfl
          grind
        · simp only [linR]
          rw [← e, Rat.intCast_add]
          grind
      · simp only [linR, linR_ins F t r]
        grind
theorem linR_canon (F : Ex → Rat) (ts : List Trm) : linR F (canon ts) = linR F ts := by
  induction ts with
  | nil => rfl
  | cons t r ih =>
    show linR F (PM.ins t (canon r)) = _
    rw [linR_ins, ih]
    rfl
def valF (x y : Rat) (e : Ex) : Rat := rp x e.1 * rp y e.2
/-- the coefficients of the powers of y, term by term -/
def coL (x : Rat) (p : List Trm) : List (Int × Rat) := p.map fun t => (t.1.2, (t.2 : Rat) * rp x t.1.1)
theorem coL_dot (x y : Rat) : ∀ p : List Trm, dotG (rp y) (coL x p) = linR (valF x y) p
  | [] => rfl
  | t :: p => by
    show ((t.2 : Rat) * rp x t.1.1) * rp y t.1.2 + dotG (rp y) (coL x p) = _
    rw [coL_dot x y p, linR]
    unfold valF
    grind
theorem co_value (x y : Rat) (p : List Trm) : dotG (rp y) (addAll [] (coL x p)) = linR (valF x y) p := by
  rw [addAll_dot _ _ (by simp [keysG]), coL_dot]
  show (0 : Rat) + _ = _
  grind
theorem linR_sum (F : Ex → Rat) (g : List Int → Ex) : ∀ l : List (List Int), linR F (l.map fun st => (g st, 1)) = lsum (l.map fun st => F (g st))
  | [] => rfl
  | st :: l => by
    rw [List.map_cons, List.map_cons, linR, linR_sum F g l, lsum]
    have : ((1 : Int) : Rat) = 1 := rfl
    rw [this]
    grind
/-- the value of the partition polynomial is the sum of the weights -/
theorem value_sum (fs : List Int) (es : List Eg) (x y : Rat) : linR (valF x y) (canon (zraw fs es)) = lsum ((states fs.length).map (wtR fs es x y)) := by
  rw [linR_canon]
  exact linR_sum _ _ _
/-- ints for keys -/
def intZ (K : PySem.W.Frag) : KRep K Int Key where
  enc k := Sum.inl k
  inj a b h := Sum.inl.inj h
  DO kvs := .dK kvs
  nt _ _ h := nomatch h
  Rp _ u k := u = .int k
  isD h := .inl ⟨_, .inl h⟩
  get hd e := by
    subst e
    exact DGet.k (k := Sum.inl _) hd
  put hd e hl := by
    subst e
    exact DPut.k (k := Sum.inl _) hd hl
  up _ h := h
  upd _ h := h
  sq hd h := by
    rcases h with (h | ⟨o', h⟩) | h
    · exact .inl (.inl (by rw [upd_ne (ne_of h hd (by intro z; cases z))]; exact h))
    · exact .inl (.inr ⟨o', by rw [upd_ne (ne_of h hd (by intro z; cases z))]; exact h⟩)
    · exact .inr h
  sl hd h := by
    rcases h with (h | ⟨o', h⟩) | h
    · exact .inl (.inl (by rw [upd_ne (ne_of h hd (by intro z; cases z))]; exact h))
    · exact .inl (.inr ⟨o', by rw [upd_ne (ne_of h hd (by intro z; cases z))]; exact h⟩)
    · exact .inr h
open K04
/-! ### the joint weights of a state and all sets of edges -/
def jwL (fs : List Int) (x y : Rat) (st : List Int) (es : List Eg) (k : Nat) : List Rat := (List.range (2 ^ k)).map fun mask => payR fs x y st * jwK x st es k mask
theorem jwL_len (fs : List Int) (x y : Rat) (st : List Int) (es : List Eg) (k : Nat) : (jwL fs x y st es k).length = 2 ^ k := by
  unfold jwL
  rw [List.length_map, List.length_range]
theorem jwL_zero (fs : List Int) (x y : Rat) (st : List Int) (es : List Eg) : jwL fs x y st es 0 = [payR fs x y st] := by
  show [payR fs x y st * 1] = _
  rw [Rat.mul_one]
theorem jwL_succ (fs : List Int) (x y : Rat) (st : List Int) (es : List Eg) (k : Nat) : jwL fs x y st es (k + 1) = ((jwL fs x y st es k).map fun r => r * rp x (egA es k).2.2) ++ (jwL fs x y st es k).map fun r => r * if sameE st (egA es k) then 1 - rp x (egA es k).2.2 else 0 := by
  unfold jwL
  have e : 2 ^ (k + 1) = 2 ^ k + 2 ^ k := by rw [Nat.pow_succ, Nat.mul_two]
  rw [e, List.range_add, List.map_append, List.map_map, List.map_map, List.map_map]
  congr 1
  · refine List.map_congr_left fun m mm => ?_
    have b1 : m.testBit k = false := Nat.testBit_lt_two_pow (List.mem_range.mp mm)
    show payR fs x y st * (jwK x st es k m * facJ x st (egA es k) (m.testBit k)) = (payR fs x y st * jwK x st es k m) * _
    rw [b1, ← Rat.mul_assoc]
    rfl
  · refine List.map_congr_left fun m mm => ?_
    have hm := List.mem_range.mp mm
    have b1 : m.testBit k = false := Nat.testBit_lt_two_pow hm
    have b2 : (2 ^ k + m).testBit k = true := by
      rw [Nat.testBit_two_pow_add_eq, b1]
      rfl
    have low : ∀ j < k, (2 ^ k + m).testBit j = m.testBit j := fun j hj => Nat.testBit_two_pow_add_gt hj m
    show payR fs x y st * (jwK x st es k (2 ^ k + m) * facJ x st (egA es k) ((2 ^ k + m).testBit k)) = (payR fs x y st * jwK x st es k m) * _
    rw [b2, jw_low x st es k _ m low, ← Rat.mul_assoc]
    rfl
theorem eval_via {te : TE} {σ : L2.St} {H : Hp} {Q : VK} (P : V → Hp → Prop) (h1 : ∀ Q' : VK, (∀ v H', P v H' → Q' v H') → te σ H Q') (h2 : ∀ v H', P v H' → Q v H') : te σ H Q := h1 Q h2
def spJw (T : Top K mg) : Sp := fun vs H Q _ => ∃ (p a xa ya : Addr) (fs : List Int) (es : List Eg) (st : List Int) (x y : Rat), vs = [.ref p, .ref a, .ref xa, .ref ya] ∧ SpAt T H p fs es ∧ SqT K H a (st.map V.int) ∧ st.length = fs.length ∧ bits st ∧ Fr K H xa (fq x) ∧ Fr K H ya (fq y) ∧ Bz 4 x ∧ Bz 4 y ∧ 0 < x ∧ 0 < y ∧ fs.length ≤ 5 ∧ (∀ f ∈ fs, -2 ≤ f ∧ f ≤ 2) ∧ es.length ≤ 8 ∧ Tg T H ∧
  ∀ l H' xs, Ext H H' → H l = none → H' l = some (.lst xs) → FrsV K H' xs (jwL fs x y st es es.length) → Q (.ref l) H'
theorem ok_joint_weights (T : Top K mg) (B : Tb T base) : FnOk P w K mg base CX0 5 T.f_joint_weights T.d_joint_weights ["spins", "state", "x", "y"] (spJw T) := by
  refine T.F_joint_weights.ok sc_joint_weights (fun vs H Q E h => ?_) (fun A outer s H vs Q E hr h => ?_)
  · obtain ⟨p, a, xa, ya, fs, es, st, x, y, rfl, _⟩ := h
    rfl
  obtain ⟨p, a, xa, ya, fs, es, st, x, y, rfl, hp, ha, hls, hb, hx, hy, bx, bY, px, py, n5, hs, l8, G, q⟩ := h
  refine ⟨_, (pss_cons (ps_set (i := 4) sc_joint_weights.nd rfl (by first | exact .inl rfl | exact .inr rfl) (GXP.pe_sumGx (own := [("field", 5), ("spin", 6)]) (g := gTup K 2 (gCons (gName 5) (gCons (gName 6) gNil))) (k := 0) (c := T.c_joint_weights) (P := T.P_joint_weights) (by rfl) T.m_sum ⟨hr.mono (by decide), rfl, B.t_joint_weights, rfl, rfl, blkOk_by (own := [("field", 5), ("spin", 6)]) (N := n_joint_weights) (sc := defScope s_joint_weights) (by decide +kernel), sc_joint_weights.nd, by decide +kernel, rfl, (RZ.pi_zipA (by rfl) T.m_zip (pa_cons (pe_fld (pv 0) rfl) (pa_cons (pv 1) pa_nil))), fun A s H C cl code bi fp hrA => (pg_tup rfl (pgs_cons (pg_name (i := 5) sc_joint_weights.nd rfl (by first | exact .inl rfl | exact .inr rfl)) (pgs_cons (pg_name (i := 6) sc_joint_weights.nd rfl (by first | exact .inl rfl | exact .inr rfl)) pgs_nil))), fun A s H C cl code bi fp hrA => (pts_one (pt_cmpR op_eq (pv 6) pe_int (nomark _))), fun A s H C cl code bi fp hrA => (pv 5), fun _ => rfl⟩))
      (pss_cons (ps_set (i := 7) sc_joint_weights.nd rfl (by first | exact .inl rfl | exact .inr rfl) (pe_lst (pa_cons (pe_call (ok_multiply T) (hr.mono (by decide)) (by rfl) T.g_multiply T.F_multiply.kp T.b_multiply .nil pass0 (pa_cons (pe_call (ok_rp T) (hr.mono (by decide)) (by rfl) T.g_raised T.F_raised.kp T.b_raised .nil pass0 (pa_cons (pv 2) (pa_cons (pv 4) pa_nil))) (pa_cons (pe_call (ok_rp T) (hr.mono (by decide)) (by rfl) T.g_raised T.F_raised.kp T.b_raised .nil pass0 (pa_cons (pv 3) (pa_cons (pe_call (ok_ups T) (hr.mono (by decide)) (by rfl) T.g_ups T.F_ups.kp T.b_ups .nil pass0 (pa_cons (pv 1) pa_nil)) pa_nil))) pa_nil))) pa_nil)))
      (pss_cons (ps_for PassesOwn.never rfl (pi_tup (pe_fld (pv 0) rfl)) (pg_tup rfl (pgs_cons (pg_name (i := 8) sc_joint_weights.nd rfl (by first | exact .inl rfl | exact .inr rfl)) (pgs_cons (pg_name (i := 9) sc_joint_weights.nd rfl (by first | exact .inl rfl | exact .inr rfl)) (pgs_cons (pg_name (i := 10) sc_joint_weights.nd rfl (by first | exact .inl rfl | exact .inr rfl)) pgs_nil)))) (pss_cons (ps_set (i := 11) sc_joint_weights.nd rfl (by first | exact .inl rfl | exact .inr rfl) (pe_call (ok_rp T) (hr.mono (by decide)) (by rfl) T.g_raised T.F_raised.kp T.b_raised .nil pass0 (pa_cons (pv 2) (pa_cons (pv 10) pa_nil))))
      (pss_cons (ps_set (i := 12) sc_joint_weights.nd rfl (by first | exact .inl rfl | exact .inr rfl) (pe_ifExp (pt_cmpR op_eq (pe_ix ix_tup (pv 1) (pv 8) (fun _ _ => rfl)) (pe_ix ix_tup (pv 1) (pv 9) (fun _ _ => rfl)) (nomark _)) (pe_call (ok_subtract T) (hr.mono (by decide)) (by rfl) T.g_subtract T.F_subtract.kp T.b_subtract .nil pass0 (pa_cons (pe_tup (pa_cons pe_int (pa_cons pe_int pa_nil))) (pa_cons (pv 11) pa_nil))) (pe_tup (pa_cons pe_int (pa_cons pe_int pa_nil)))))
      (pss_one (ps_set (i := 7) sc_joint_weights.nd rfl (by first | exact .inl rfl | exact .inr rfl) (pe_op op_cat (pe_lc (own := [("weight", 13)]) (g := gName 13) (tt := tYes) rfl sc_joint_weights.nd (pi_list (pv 7)) (blkOk_by (own := [("weight", 13)]) (N := n_joint_weights) (sc := defScope s_joint_weights) (by decide +kernel)) (fun _ _ _ _ _ => (pg_name (i := 13) sc_joint_weights.nd rfl (by first | exact .inl rfl | exact .inr rfl))) (fun _ _ _ _ _ => pts_nil) (fun _ _ _ _ _ => (pe_call (ok_multiply T) (hr.mono (by decide)) (by rfl) T.g_multiply T.F_multiply.kp T.b_multiply .nil pass0 (pa_cons (pv 13) (pa_cons (pv 11) pa_nil))))) (pe_lc (own := [("weight", 13)]) (g := gName 13) (tt := tYes) rfl sc_joint_weights.nd (pi_list (pv 7)) (blkOk_by (own := [("weight", 13)]) (N := n_joint_weights) (sc := defScope s_joint_weights) (by decide +kernel)) (fun _ _ _ _ _ => (pg_name (i := 13) sc_joint_weights.nd rfl (by first | exact .inl rfl | exact .inr rfl))) (fun _ _ _ _ _ => pts_nil) (fun _ _ _ _ _ => (pe_call (ok_multiply T) (hr.mono (by decide)) (by rfl) T.g_multiply T.F_multiply.kp T.b_multiply .nil pass0 (pa_cons (pv 13) (pa_cons (pv 12) pa_nil)))))))))))
      (pss_one (ps_ret (pv 7)))))), ?_⟩
  have hpl := hp
  obtain ⟨gf, ge, dx, fb, eb, ys, h1, h2, h3, h4⟩ := hp
  have hl4 := h4.length
  refine ⟨_, rfl, p, T.C_Spins, dx, _, .ref fb, rfl, h1, T.cl_Spins, T.na_Spins_fields, rfl, _, rfl, fb, a, _, _, rfl, .inr ⟨h2, ha, G.t_joint_weights, fun H4 t4 => ?_⟩⟩
  have x4 : Ext H H4 := ext_tabbed G.t_joint_weights t4
  refine gx_zipT (by rw [List.length_map, List.length_map, hls]) (fun i zs H5 => Ext H4 H5 ∧ zs = ((((fs.take i).zip (st.take i)).filter fun p => decide (p.2 = 1)).map fun p => p.1).map V.int) ⟨Ext.refl _, rfl⟩ (fun i zs H5 h => ⟨(x4.trans h.1).tup h2, (x4.trans h.1).tup ha⟩) (fun i x1 y1 T' zs H5 hx1 hy1 hP hT => ?_) (fun zs H5 hP => ?_)
  · obtain ⟨s5, rfl⟩ := hP
    rw [List.getElem?_map] at hx1 hy1
    cases hf : fs[i]? with
    | none => rw [hf] at hx1; cases hx1
    | some f =>
      cases hst : st[i]? with
      | none => rw [hst] at hy1; cases hy1
      | some b =>
        rw [hf] at hx1
        rw [hst] at hy1
        cases hx1
        cases hy1
        have hbd := fieldC_bound (st := st) gf i
        unfold fieldC at hbd
        have gf1 := gf.2.2 f (List.mem_of_getElem? hf)
        have zz : (fs.take (i + 1)).zip (st.take (i + 1)) = (fs.take i).zip (st.take i) ++ [(f, b)] := by
          rw [take_snoc hf, take_snoc hst, List.zip_append (by rw [List.length_take, List.length_take, hls])]
          rfl
        refine ⟨T', _, rfl, SqT.of upd_same, rfl, _, _, rfl, _, _, rfl, rfl, ?_⟩
        refine ⟨rfl, _, rfl, rfl, _, rfl, iteB (fun z => ?_) (fun z => ?_)⟩
        · have hb1 : b = 1 := V.int.inj (of_decide_eq_true z)
          refine ⟨_, rfl, f, rfl, inlong (by omega), inlong (by rw [sumV_ints]; omega), s5.new hT, ?_⟩
          rw [zz, List.filter_append, List.filter_cons_of_pos (by simpa using hb1), List.filter_nil, List.map_append, List.map_append]
          rfl
        · have hb1 : ¬ b = 1 := fun e => by
            rw [e] at z
            simp at z
          refine ⟨s5.new hT, ?_⟩
          rw [zz, List.filter_append, List.filter_cons_of_neg (by simpa using hb1), List.filter_nil, List.append_nil]
  obtain ⟨s5, rfl⟩ := hP
  rw [sumV_ints, List.length_map, List.take_length, hls, List.take_length]
  have e1 : (((fs.zip st).filter fun p => decide (p.2 = 1)).map fun p => p.1).sum = fieldC fs st := rfl
  rw [e1]
  have x5 := x4.trans s5
  have f10 := fieldC_le hs n5 st
  have s5' := sum01_le hb (by omega)
  have nx : x ≠ 0 := fun h => Rat.lt_irrefl (h ▸ px)
  have ny : y ≠ 0 := fun h => Rat.lt_irrefl (h ▸ py)
  have sx : sm12 x := sm12_of bx
  have sy : sm12 y := sm12_of bY
  have h9 : ∀ e ∈ es, -9 ≤ e.2.2 ∧ e.2.2 ≤ 9 := fun e m => by
    obtain ⟨_, _, _, _, a5, a6⟩ := ge.2.1 e m
    exact ⟨a5, a6⟩
  have wz : ∀ mask, ∀ k ≤ es.length, Sm (payR fs x y st * jwK x st es k mask) := fun mask k hk => by
    have h := jwt_iz bx bY px py hs n5 hls hb h9 mask hk
    exact wsm bx bY px py (k := k) (m := 1) (Nat.le_trans hk l8) (by decide) (by rw [Nat.one_mul]; exact h)
  have jz : ∀ k ≤ es.length, ∀ r ∈ jwL fs x y st es k, Sm r := fun k hk r m => by
    obtain ⟨mask, _, rfl⟩ := List.mem_map.mp m
    exact wz mask k hk
  refine ⟨_, rfl, _, rfl, xa, x, _, rfl, sx, by omega, fun _ => nx, x5.tup hx, fun p1 H6 s6 hp1 => ?_⟩
  refine ⟨_, rfl, _, rfl, a, st, rfl, (x5.trans s6.ext).tup ha, ya, y, _, rfl, sy, by omega, fun _ => ny, (x5.trans s6.ext).tup hy, fun p2 H7 s7 hp2 => ?_⟩
  refine ⟨p1, p2, _, _, rfl, s7.fr hp1, hp2, okA_of (sm_rp sx nx (by omega)) (sm_rp sy ny (by omega)), fun p3 H8 s8 n8 hp3 => ?_⟩
  rw [SM.mulF_fq] at hp3
  refine ⟨by rw [sizeLine_eq]; simp, fun D0 hD0 => ?_⟩
  dsimp only [gName]
  have x8 := ((x5.trans s6.ext).trans s7.ext).trans s8.ext
  have s9 := x8.trans (ext_upd (o := .lst [.ref p3]) hD0)
  have k9 : upd H8 D0 (.lst [.ref p3]) D0 = some (.lst [.ref p3]) := upd_same
  have f9 : FrsV K (upd H8 D0 (.lst [.ref p3])) [.ref p3] (jwL fs x y st es 0) := by
    rw [jwL_zero]
    exact .cons ⟨p3, rfl, (ext_upd hD0).tup (SqT.of hp3)⟩ .nil
  have n9 := x8.free hD0
  generalize upd H8 D0 (.lst [.ref p3]) = H9 at *
  refine ⟨_, rfl, p, T.C_Spins, dx, _, .ref eb, rfl, s9.keep _ _ h1 (fun _ z => by cases z), T.cl_Spins, T.na_Spins_edges, rfl, eb, rfl, ⟨_, s9.tup h3⟩, ?_⟩
  refine for_tup (xs := ys) (fun i σ HA => ∃ wl ws z5 z6 z8 z9 z10 z11 z12 z13, σ = [some (.ref p), some (.ref a), some (.ref xa), some (.ref ya), some (.int (fieldC fs st)), z5, z6, some (.ref wl), z8, z9, z10, z11, z12, z13] ∧ Ext H HA ∧ H wl = none ∧ HA wl = some (.lst ws) ∧ FrsV K HA ws (jwL fs x y st es i)) ⟨D0, _, _, _, _, _, _, _, _, _, rfl, s9, n9, k9, f9⟩ (fun i σ HA _ h => ?_) (fun i v σ HA hi hP => ?_) (fun σ HA hP => ?_)
  · obtain ⟨_, _, _, _, _, _, _, _, _, _, _, sA, _⟩ := h
    exact sA.tup h3
  · obtain ⟨wl, ws, z5, z6, z8, z9, z10, z11, z12, z13, rfl, sA, nw, hw, hfw⟩ := hP
    obtain ⟨⟨u, v', j⟩, hei, a1, rfl, g1⟩ := paired_at (sA.edges h4) hi
    have hil := (List.getElem?_eq_some_iff.mp hei).1
    obtain ⟨e1, e2, e3, e4, e5, e6⟩ := ge.2.1 _ (List.mem_of_getElem? hei)
    have e1 : 0 ≤ u := e1
    have e2 : u < v' := e2
    have e3 : v' < fs.length := e3
    have e5 : -9 ≤ j := e5
    have e6 : j ≤ 9 := e6
    have eA : egA es i = (u, v', j) := by
      unfold egA
      rw [List.getD_eq_getElem?_getD, hei]
      rfl
    have g1 : SqT K HA a1 [.int u, .int v', .int j] := g1
    refine ⟨a1, _, rfl, g1, rfl, _, _, rfl, _, _, rfl, _, _, rfl, rfl, ?_⟩
    dsimp only [gName]
    refine ⟨_, rfl, _, rfl, xa, x, j, rfl, sx, by omega, fun _ => nx, sA.tup hx, fun lf H5 s5 hlf => ?_⟩
    have x5 := s5.ext
    dsimp only [gName]
    refine eval_via (te := tIf _ _ _) (fun v H' => ∃ tk, v = .ref tk ∧ Ext H5 H' ∧ Fr K H' tk (fq (if sameE st (u, v', j) then 1 - rp x j else 0))) (fun Q' hQ => ?_) (fun v H6 hv => ?_)
    · have hsA := (sA.trans x5).tup ha
      refine ⟨_, rfl, _, rfl, a, _, u, _, rfl, rfl, hsA, atI_st e1 (by omega), _, rfl, _, rfl, a, _, v', _, rfl, rfl, hsA, atI_st (by omega) (by omega), rfl, _, rfl, iteB (fun z => ?_) (fun z => ?_)⟩
      · have hz : atS st u = atS st v' := V.int.inj (of_decide_eq_true z)
        refine ⟨sl2, fun t1 ht1 => ?_⟩
        have xt := ext_upd (o := .tup [.int 1, .int 1]) ht1
        have sj : Sm (rp x j) := sm_rp sx nx (by omega)
        refine ⟨_, rfl, t1, lf, fq 1, fq (rp x j), rfl, SqT.of upd_same, xt.tup hlf, okA_of sm_one sj, fun pt HB sB nB hpt => hQ _ _ ⟨pt, rfl, xt.trans sB.ext, ?_⟩⟩
        rw [SM.subF_fq] at hpt
        rw [if_pos (show sameE st (u, v', j) from hz)]
        exact SqT.of hpt
      · have hz : ¬ atS st u = atS st v' := fun e => of_decide_eq_false z (by rw [e])
        refine ⟨sl2, fun t1 ht1 => hQ _ _ ⟨t1, rfl, ext_upd ht1, ?_⟩⟩
        rw [if_neg (show ¬ sameE st (u, v', j) from hz)]
        exact SqT.of upd_same
    · obtain ⟨tk, rfl, s6, htk⟩ := hv
      have sJ : Sm (rp x j) := sm_rp sx nx (by omega)
      have sT : Sm (if sameE st (u, v', j) then 1 - rp x j else 0) := by
        have hb := fac_izJ bx px (st := st) (h9 _ (List.mem_of_getElem? hei)) true
        exact SM.sm_of hb (Nat.pos_iff_ne_zero.mp (Nat.pow_pos (Nat.pos_of_ne_zero (gX_ne px)))) (Nat.lt_of_le_of_lt (gX_pow_le bx 9) (Nat.pow_lt_pow_right (by decide) (by decide))) (Nat.pow_lt_pow_right (by decide) (by decide))
      have s56 := x5.trans s6
      have lw := jwL_len fs x y st es i
      have l256 : 2 ^ i ≤ 256 := Nat.pow_le_pow_right (by decide) (show i ≤ 8 by omega)
      have lws := hfw.length
      have hlf6 := s6.tup hlf
      have hw6 := s56.lst hw
      have fw6 := frs_up s56 hfw
      have hxs := jz i (by omega)
      generalize hW : jwL fs x y st es i = W at *
      generalize htkn : (if sameE st (u, v', j) then 1 - rp x j else 0) = tkn at *
      refine ⟨_, rfl, wl, rfl, ⟨_, SqL.of hw6⟩, fun D1 hD1 => lc_list (xs := ws) (fun k H7 => Ext H6 H7 ∧ ∃ zs, H7 D1 = some (.lst zs) ∧ FrsV K H7 zs ((W.take k).map fun r => r * rp x j)) ⟨ext_upd hD1, [], upd_same, .nil⟩ (fun k H7 _ h => SqL.of (h.1.lst hw6)) (fun k v0 H7 hk hP => ?_) (fun H7 hP => ?_)⟩
      · obtain ⟨s7, zs, hzs, hpz⟩ := hP
        obtain ⟨r, hri, a9, rfl, ha9⟩ := paired_at (frs_up s7 fw6) hk
        have lz := hpz.length
        rw [List.length_map, List.length_take] at lz
        refine ⟨rfl, _, rfl, _, rfl, a9, lf, _, _, rfl, ha9, s7.tup hlf6, okA_of (hxs r (List.mem_of_getElem? hri)) sJ, fun p9 H8 s8 n8 hp9 => ?_⟩
        rw [SM.mulF_fq] at hp9
        have hz8 := s8.ext.lst hzs
        refine ⟨zs, hz8, sl_lt (by omega), (s7.trans s8.ext).own hD1, zs ++ [.ref p9], upd_same, ?_⟩
        rw [take_snoc hri, List.map_append]
        exact frs_upd hz8 (paired_snoc (frs_up s8.ext hpz) ⟨p9, rfl, SqT.of hp9⟩)
      · obtain ⟨s7, zs, hzs, hpz⟩ := hP
        rw [lws, List.take_length] at hpz
        have hw7 := s7.lst hw6
        have fw7 := frs_up s7 fw6
        have htk7 := s7.tup htk
        have lzs := hpz.length
        rw [List.length_map] at lzs
        refine ⟨_, rfl, wl, rfl, ⟨_, SqL.of hw7⟩, fun D2 hD2 => lc_list (xs := ws) (fun k H8 => Ext H7 H8 ∧ ∃ zs, H8 D2 = some (.lst zs) ∧ FrsV K H8 zs ((W.take k).map fun r => r * tkn)) ⟨ext_upd hD2, [], upd_same, .nil⟩ (fun k H8 _ h => SqL.of (h.1.lst hw7)) (fun k v0 H8 hk hP => ?_) (fun H8 hP => ?_)⟩
        · obtain ⟨s8, zs, hzs, hpz⟩ := hP
          obtain ⟨r, hri, a9, rfl, ha9⟩ := paired_at (frs_up s8 fw7) hk
          have lz := hpz.length
          rw [List.length_map, List.length_take] at lz
          refine ⟨rfl, _, rfl, _, rfl, a9, tk, _, _, rfl, ha9, s8.tup htk7, okA_of (hxs r (List.mem_of_getElem? hri)) sT, fun p9 H9 s9 n9 hp9 => ?_⟩
          rw [SM.mulF_fq] at hp9
          have hz8 := s9.ext.lst hzs
          refine ⟨zs, hz8, sl_lt (by omega), (s8.trans s9.ext).own hD2, zs ++ [.ref p9], upd_same, ?_⟩
          rw [take_snoc hri, List.map_append]
          exact frs_upd hz8 (paired_snoc (frs_up s9.ext hpz) ⟨p9, rfl, SqT.of hp9⟩)
        · obtain ⟨s8, zs2, hzs2, hpz2⟩ := hP
          rw [lws, List.take_length] at hpz2
          have lz2 := hpz2.length
          rw [List.length_map] at lz2
          refine ⟨D1, D2, zs, zs2, rfl, rfl, s8.lst hzs, hzs2, sl_of (by omega), fun pw hpw => ?_⟩
          dsimp only [gName]
          have s9 := ext_upd (o := .lst (zs ++ zs2)) hpw
          have sAll := ((s56.trans s7).trans s8).trans s9
          refine ⟨pw, _, _, _, _, _, _, _, _, _, rfl, sA.trans sAll, (((sA.trans s56).trans s7).trans s8).free hpw, upd_same, ?_⟩
          rw [jwL_succ, hW, eA, show (if sameE st (u, v', j) then 1 - rp x (u, v', j).2.2 else 0) = tkn from htkn]
          exact paired_app (frs_up (s8.trans s9) hpz) (frs_up s9 hpz2)
  · obtain ⟨wl, ws, z5, z6, z8, z9, z10, z11, z12, z13, rfl, sA, nw, hw, hfw⟩ := hP
    rw [h4.length] at hfw
    exact ⟨_, rfl, q wl HA ws sA nw hw hfw⟩
open K04
/-! ### sums over all states, over all sets -/
theorem sumL_range (f : Nat → Rat) : ∀ n, sumL ((List.range n).map f) = sumN f n
  | 0 => rfl
  | n + 1 => by
    rw [List.range_succ, List.map_append, List.map_singleton, sumL_snoc, sumL_range f n, sumN]
theorem sumN_iz {D X : Nat} {f : Nat → Rat} : ∀ n, (∀ t < n, Iz D X (f t)) → Iz D (n * X) (sumN f n)
  | 0, _ => Iz.zero.le (Nat.zero_le _)
  | n + 1, h => by
    rw [sumN, Nat.succ_mul]
    exact (sumN_iz n fun t ht => h t (by omega)).add (h n (Nat.lt_succ_self n))
theorem jwL_sum {fs st : List Int} {x : Rat} (nx : x ≠ 0) (y : Rat) (es : List Eg) : sumL (jwL fs x y st es es.length) = wtR fs es x y st := by
  unfold jwL
  rw [sumL_range, states_sum nx y es]
  rfl
/-- the sums of the sets after the first states -/
def stL (fs : List Int) (x y : Rat) (es : List Eg) (i : Nat) : List Rat := (List.range (2 ^ es.length)).map fun mask => sumN (fun t => payR fs x y (stA fs.length t) * jwK x (stA fs.length t) es es.length mask) i
theorem stL_len (fs : List Int) (x y : Rat) (es : List Eg) (i : Nat) : (stL fs x y es i).length = 2 ^ es.length := by
  unfold stL
  rw [List.length_map, List.length_range]
theorem stL_at {fs : List Int} {x y : Rat} {es : List Eg} {i m : Nat} (hm : m < 2 ^ es.length) : (stL fs x y es i)[m]? = some (sumN (fun t => payR fs x y (stA fs.length t) * jwK x (stA fs.length t) es es.length m) i) := by
  unfold stL
  rw [List.getElem?_map, List.getElem?_range hm]
  rfl
theorem jwL_at {fs : List Int} {x y : Rat} {st : List Int} {es : List Eg} {k m : Nat} (hm : m < 2 ^ k) : (jwL fs x y st es k)[m]? = some (payR fs x y st * jwK x st es k m) := by
  unfold jwL
  rw [List.getElem?_map, List.getElem?_range hm]
  rfl
theorem stL_end {fs : List Int} {x y : Rat} (px : 0 < x) (py : 0 < y) {es : List Eg} (he : ∀ e ∈ es, 0 ≤ e.1 ∧ e.1 < fs.length ∧ 0 ≤ e.2.1 ∧ e.2.1 < fs.length) : stL fs x y es (2 ^ fs.length) = (List.range (2 ^ es.length)).map fun m => setK x es es.length m * whole fs x y (partsK fs.length es es.length m) := by
  unfold stL
  exact List.map_congr_left fun m _ => sets_sum px py he m
def spJs (T : Top K mg) : Sp := fun vs H Q E => ∃ (p xa ya : Addr) (fs : List Int) (es : List Eg) (x y : Rat), vs = [.ref p, .ref xa, .ref ya] ∧ SpAt T H p fs es ∧ Fr K H xa (fq x) ∧ Fr K H ya (fq y) ∧ Bz 4 x ∧ Bz 4 y ∧ 0 < x ∧ 0 < y ∧ fs.length ≤ 5 ∧ (∀ f ∈ fs, -2 ≤ f ∧ f ≤ 2) ∧ Tg T H ∧
  (es.length ≤ 8 → ∀ tl H' ta tb xs ys, Ext H H' → SqT K H' tl [.ref ta, .ref tb] → SqT K H' ta xs → SqT K H' tb ys → FrsV K H' xs ((states fs.length).map (wtR fs es x y)) → FrsV K H' ys ((List.range (2 ^ es.length)).map fun m => setK x es es.length m * whole fs x y (partsK fs.length es es.length m)) → Q (.ref tl) H') ∧
  (8 < es.length → ∀ H', Ext H H' → E (.ref T.f_TooLarge) none H')
theorem ok_joint_sums (T : Top K mg) (B : Tb T base) : FnOk P w K mg base (L2.CX P w) 6 T.f_joint_sums T.d_joint_sums ["spins", "x", "y"] (spJs T) := by
  refine T.F_joint_sums.okX sc_joint_sums (fun vs H Q E h => ?_) (fun cdv A outer s H vs Q E hr h => ?_)
  · obtain ⟨p, xa, ya, fs, es, x, y, rfl, _⟩ := h
    rfl
  obtain ⟨p, xa, ya, fs, es, x, y, rfl, hp, hx, hy, bx, bY, px, py, n5, hs, G, q, qe⟩ := h
  refine ⟨_, (pss_cons (ps_expr (pe_call (ok_check_small T) (hr.mono (by decide)) (by rfl) T.g_check_small T.F_check_small.kp T.b_check_small .nil (passes_call (takes_of rfl rfl rfl rfl) (fun _ _ _ _ h => h)) (pa_cons (pv 0) (pa_cons (pv 1) (pa_cons (pv 2) pa_nil)))))
      (pss_cons (ps_if (pt_cmpR op_gt (pe_callB call_len_seq (by rfl) T.m_len (by decide +kernel) (pa_cons (pe_fld (pv 0) rfl) pa_nil)) (pe_glob (v := .int 8) (by rfl) T.g_MOST_JOINT_EDGES ⟨_, rfl⟩) (nomark _)) (pss_one (ps_raise rfl (takes_of rfl rfl rfl rfl) (pmk_own PySem.F.excBase_ValueError T.q_TooLarge T.g_TooLarge T.k_TooLarge (raises_own T.b_TooLarge T.y_TooLarge) (by rfl)))) pss_nil)
      (pss_cons (ps_set (i := 3) sc_joint_sums.nd rfl (by first | exact .inl rfl | exact .inr rfl) (pe_lst pa_nil))
      (pss_cons (ps_set (i := 4) sc_joint_sums.nd rfl (by first | exact .inl rfl | exact .inr rfl) (pe_op op_rep (pe_lst (pa_cons (pe_tup (pa_cons pe_int (pa_cons pe_int pa_nil))) pa_nil)) (pe_op op_shl pe_int (pe_callB call_len_seq (by rfl) T.m_len (by decide +kernel) (pa_cons (pe_fld (pv 0) rfl) pa_nil)))))
      (pss_cons (ps_for (passes_of rfl) rfl (pi_list (pe_call (ok_all_states T) (hr.mono (by decide)) (by rfl) T.g_all_states T.F_all_states.kp T.b_all_states .nil pass0 (pa_cons (pv 0) pa_nil))) (pg_name (i := 5) sc_joint_sums.nd rfl (by first | exact .inl rfl | exact .inr rfl)) (pss_cons (ps_set (i := 6) sc_joint_sums.nd rfl (by first | exact .inl rfl | exact .inr rfl) (pe_call (ok_joint_weights T B) (hr.mono (by decide)) (by rfl) T.g_joint_weights T.F_joint_weights.kp T.b_joint_weights .nil pass0 (pa_cons (pv 0) (pa_cons (pv 5) (pa_cons (pv 1) (pa_cons (pv 2) pa_nil))))))
      (pss_cons (ps_expr (pe_bm PySem.F.plainAttrs_list PySem.F.slot_list_append PySem.F.type_list_append mt_append (pv 3) (pa_cons (pe_call (ok_sum_of T) (hr.mono (by decide)) (by rfl) T.g_sum_of T.F_sum_of.kp T.b_sum_of .nil pass0 (pa_cons (pv 6) pa_nil)) pa_nil)))
      (pss_one (ps_setLc (i := 4) (own := [("total", 7), ("weight", 8)]) (g := gTup K 2 (gCons (gName 7) (gCons (gName 8) gNil))) (tt := tYes) rfl sc_joint_sums.nd rfl rfl (sw_true rfl rfl rfl (by decide +kernel)) (pi_zip (by rfl) T.m_zip (pa_cons (pv 4) (pa_cons (pv 6) pa_nil))) (blkOk_by (own := [("total", 7), ("weight", 8)]) (N := n_joint_sums) (sc := defScope s_joint_sums) (by decide +kernel)) (fun _ _ _ _ _ => (pg_tup rfl (pgs_cons (pg_name (i := 7) sc_joint_sums.nd rfl (by first | exact .inl rfl | exact .inr rfl)) (pgs_cons (pg_name (i := 8) sc_joint_sums.nd rfl (by first | exact .inl rfl | exact .inr rfl)) pgs_nil)))) (fun _ _ _ _ _ => pts_nil) (fun _ _ _ _ _ => (pe_call (ok_add T) (hr.mono (by decide)) (by rfl) T.g_add T.F_add.kp T.b_add .nil pass0 (pa_cons (pv 7) (pa_cons (pv 8) pa_nil)))))))))
      (pss_one (ps_ret (pe_tup (pa_cons (pe_callTy call_tuple_of (by rfl) T.m_tuple (by decide +kernel) (pa_cons (pv 3) pa_nil)) (pa_cons (pe_callTy call_tuple_of (by rfl) T.m_tuple (by decide +kernel) (pa_cons (pv 4) pa_nil)) pa_nil)))))))))), ?_⟩
  refine ⟨_, rfl, _, rfl, _, rfl, p, xa, ya, fs, es, x, y, rfl, hp, hx, hy, bx.sm (by decide), bY.sm (by decide), fun _ _ _ H1 s1 => ?_, fun h => absurd ⟨px, py⟩ h, fun _ _ h => absurd h (by omega)⟩
  have hp1 := hp.up s1
  have hpl := hp1
  obtain ⟨gf, ge, dx, fb, eb, ys, h1, h2, h3, h4⟩ := hp1
  have hl4 := h4.length
  refine ⟨_, rfl, p, T.C_Spins, dx, _, .ref eb, rfl, h1, T.cl_Spins, T.na_Spins_edges, rfl, eb, _, rfl, .inr h3, _, _, rfl, rfl, _, rfl, iteB (fun z => ?_) (fun z => ?_)⟩
  · have z : (8 : Int) < ((ys.length : Nat) : Int) := of_decide_eq_true z
    exact qe (by omega) H1 s1
  have z : ¬ (8 : Int) < ((ys.length : Nat) : Int) := of_decide_eq_false z
  have l8 : es.length ≤ 8 := by omega
  have nx : x ≠ 0 := fun h => Rat.lt_irrefl (h ▸ px)
  have l256 : 2 ^ es.length ≤ 256 := Nat.pow_le_pow_right (by decide) (show es.length ≤ 8 by omega)
  have n32 : 2 ^ fs.length ≤ 32 := Nat.pow_le_pow_right (by decide) (show fs.length ≤ 5 by omega)
  have h9 : ∀ e ∈ es, -9 ≤ e.2.2 ∧ e.2.2 ≤ 9 := fun e m => by
    obtain ⟨_, _, _, _, a5, a6⟩ := ge.2.1 e m
    exact ⟨a5, a6⟩
  have hin : ∀ e ∈ es, 0 ≤ e.1 ∧ e.1 < (fs.length : Int) ∧ 0 ≤ e.2.1 ∧ e.2.1 < (fs.length : Int) := fun e m => by
    obtain ⟨a1, a2, a3, _, _, _⟩ := ge.2.1 e m
    exact ⟨a1, by omega, by omega, a3⟩
  refine ⟨by rw [sizeLine_eq]; simp, fun ll hll => ?_⟩
  have hll1 := hll
  have x2 := ext_upd (o := .lst []) hll
  have k2 : upd H1 ll (.lst []) ll = some (.lst []) := upd_same
  dsimp only [gName]
  generalize upd H1 ll (.lst []) = H2 at *
  refine ⟨sl2, fun t0 ht0 => ?_⟩
  have x3 := x2.trans (ext_upd (o := .tup [.int 0, .int 1]) ht0)
  have k3 : SqT K (upd H2 t0 (.tup [.int 0, .int 1])) t0 [.int 0, .int 1] := SqT.of upd_same
  have k2' := (ext_upd (o := .tup [.int 0, .int 1]) ht0).lst k2
  dsimp only [gName]
  generalize upd H2 t0 (.tup [.int 0, .int 1]) = H3 at *
  refine ⟨by rw [sizeLine_eq]; simp, fun l0 hl0 => ?_⟩
  refine ⟨_, rfl, p, T.C_Spins, dx, _, .ref eb, rfl, (x3.trans (ext_upd hl0)).keep _ _ h1 (fun _ z => by cases z), T.cl_Spins, T.na_Spins_edges, rfl, eb, _, rfl, .inr ((x3.trans (ext_upd hl0)).tup h3), ?_⟩
  have e2k : (1 : Int) * 2 ^ ((ys.length : Nat) : Int).toNat = ((2 ^ es.length : Nat) : Int) := by
    rw [Int.toNat_natCast, hl4, Int.one_mul, Int.natCast_pow]
    rfl
  refine ⟨_, _, rfl, rfl, ⟨by omega, by omega, by decide⟩, ?_⟩
  refine ⟨l0, ((2 ^ es.length : Nat) : Int), [.ref t0], rfl, congrArg V.int e2k, upd_same, Int.le_trans (by decide) (Int.natCast_nonneg _), Int.lt_of_le_of_lt (Int.ofNat_le.mpr l256) (by decide), ?_, fun f0 hf0 => ?_⟩
  · rw [sizeLine_eq, Int.toNat_natCast]
    show 1 * _ ≤ _
    omega
  have x4 : Ext H3 (upd (upd H3 l0 (.lst [.ref t0])) f0 (.lst (List.replicate ((2 ^ es.length : Nat) : Int).toNat [V.ref t0]).flatten)) := (ext_upd hl0).new hf0
  have k4 : upd (upd H3 l0 (.lst [.ref t0])) f0 (.lst (List.replicate ((2 ^ es.length : Nat) : Int).toNat [V.ref t0]).flatten) f0 = some (.lst (List.replicate (2 ^ es.length) (V.ref t0))) := by
    rw [upd_same, Int.toNat_natCast]
    congr 2
    induction 2 ^ es.length with
    | zero => rfl
    | succ n ih => rw [List.replicate_succ, List.flatten_cons, ih, List.replicate_succ]; rfl
  have n4 : H3 f0 = none := (ext_upd hl0).free hf0
  dsimp only [gName]
  generalize upd (upd H3 l0 (.lst [.ref t0])) f0 (.lst (List.replicate ((2 ^ es.length : Nat) : Int).toNat [V.ref t0]).flatten) = H4 at *
  have s4 := x3.trans x4
  have z4 : FrsV K H4 (List.replicate (2 ^ es.length) (V.ref t0)) (stL fs x y es 0) := by
    unfold stL
    have hz : FrV K H4 (.ref t0) 0 := ⟨t0, rfl, x4.tup k3⟩
    rw [show ((List.range (2 ^ es.length)).map fun mask => sumN (fun t => payR fs x y (stA fs.length t) * jwK x (stA fs.length t) es es.length mask) 0) = List.replicate (2 ^ es.length) (0 : Rat) from ?_]
    · induction 2 ^ es.length with
      | zero => exact .nil
      | succ n ih => exact .cons hz ih
    · refine List.eq_replicate_iff.mpr ⟨by rw [List.length_map, List.length_range], fun b mb => ?_⟩
      obtain ⟨m, _, rfl⟩ := List.mem_map.mp mb
      rfl
  refine ⟨_, rfl, p, fs, es, rfl, hpl.up s4, by omega, fun l H5 xs s5 nl hl hst => ⟨l, rfl, ⟨_, SqL.of hl⟩, ?_⟩⟩
  have ls := length_states fs.length
  refine for_list (xs := xs) (fun i σ HA => ∃ bl bs ss z5 z6 z7 z8, σ = [some (.ref p), some (.ref xa), some (.ref ya), some (.ref ll), some (.ref bl), z5, z6, z7, z8] ∧ Ext H1 HA ∧ HA l = some (.lst xs) ∧ Paired (StAt K HA) xs (states fs.length) ∧ HA ll = some (.lst ss) ∧ HA bl = some (.lst bs) ∧ bl ≠ ll ∧ FrsV K HA ss (((states fs.length).take i).map (wtR fs es x y)) ∧ FrsV K HA bs (stL fs x y es i)) ⟨f0, _, _, _, _, _, _, rfl, s4.trans s5, hl, hst, s5.lst (x4.lst k2'), s5.lst k4, ?_, .nil, frs_up s5 z4⟩ (fun i σ HA _ h => ?_) (fun i v σ HA hi hP => ?_) (fun σ HA hP => ?_)
  · intro z
    rw [z, (ext_upd hl0).lst k2'] at hf0
    cases hf0
  · obtain ⟨_, _, _, _, _, _, _, _, _, hlA, _⟩ := h
    exact SqL.of hlA
  · obtain ⟨bl, bs, ss, z5, z6, z7, z8, rfl, s1A, hlA, hstA, hll, hbl, nbl, hfs, hfb⟩ := hP
    obtain ⟨st, hsi, a1, rfl, ha1⟩ := paired_at hstA hi
    have hm := List.mem_of_getElem? hsi
    obtain ⟨ln, hbt⟩ := states_ok _ st hm
    have hil := (List.getElem?_eq_some_iff.mp hsi).1
    have estA : stA fs.length i = st := by
      unfold stA
      rw [List.getD_eq_getElem?_getD, hsi]
      rfl
    have s0A := s1.trans s1A
    dsimp only [gName]
    refine ⟨_, rfl, _, rfl, _, rfl, _, rfl, p, a1, xa, ya, fs, es, st, x, y, rfl, hpl.up s1A, ha1, ln, hbt, s0A.tup hx, s0A.tup hy, bx, bY, px, py, n5, hs, l8, G.ext s0A, fun wl HB ws sB nw hw hfw => ?_⟩
    dsimp only [gName]
    have jz : ∀ mask < 2 ^ es.length, Iz (wD x y es.length) (wX es.length) (payR fs x y st * jwK x st es es.length mask) := fun mask _ => jwt_iz bx bY px py hs n5 ln hbt h9 mask (Nat.le_refl _)
    have jzL : ∀ r ∈ jwL fs x y st es es.length, Iz (wD x y es.length) (wX es.length) r := fun r m => by
      obtain ⟨mask, mm, rfl⟩ := List.mem_map.mp m
      exact jz mask (List.mem_range.mp mm)
    have lJ := jwL_len fs x y st es es.length
    have smJ : ∀ r ∈ jwL fs x y st es es.length, Sm r := fun r m => wsm bx bY px py (k := es.length) (m := 1) l8 (by decide) (by rw [Nat.one_mul]; exact jzL r m)
    have smS : ∀ k, Sm (sumL ((jwL fs x y st es es.length).take k)) := fun k => by
      have h := sumL_izJ ((jwL fs x y st es es.length).take k) fun r m => jzL r (List.mem_of_mem_take m)
      refine wsm bx bY px py (k := es.length) l8 ?_ h
      rw [List.length_take, lJ]
      have : (2 : Nat) ^ 20 = 1048576 := by decide
      omega
    have hllB := sB.lst hll
    refine ⟨_, rfl, .inl ⟨rfl, _, SqL.of hllB⟩, _, rfl, wl, ws, _, rfl, SqL.of hw, hfw, smJ, smS, fun pS HC sC hpS => ?_⟩
    rw [jwL_sum nx] at hpS
    have lss := hfs.length
    rw [List.length_map, List.length_take] at lss
    have hllC := sC.lst hllB
    have sBC := sB.trans sC
    have nwl : wl ≠ ll := fun z => by
      rw [z, hll] at nw
      cases nw
    have hblC := sBC.lst hbl
    have hwC := sC.lst hw
    refine ⟨ll, ss, .ref pS, rfl, rfl, hllC, sl_lt (by omega), ?_⟩
    have k5 : upd HC ll (.lst (ss ++ [.ref pS])) ll = some (.lst (ss ++ [.ref pS])) := upd_same
    have s1D : Ext H1 (upd HC ll (.lst (ss ++ [.ref pS]))) := (s1A.trans sBC).own hll1
    have nlll : l ≠ ll := fun z => by
      rw [z, x4.lst k2'] at nl
      cases nl
    have hl5 : upd HC ll (.lst (ss ++ [.ref pS])) l = some (.lst xs) := by
      rw [upd_ne nlll]
      exact sBC.lst hlA
    have hst5 : Paired (StAt K (upd HC ll (.lst (ss ++ [.ref pS])))) xs (states fs.length) := sts_lst hllC (sBC.sts hstA)
    have hbl5 : upd HC ll (.lst (ss ++ [.ref pS])) bl = some (.lst bs) := by
      rw [upd_ne nbl]
      exact hblC
    have hw5 : upd HC ll (.lst (ss ++ [.ref pS])) wl = some (.lst ws) := by
      rw [upd_ne nwl]
      exact hwC
    have hfs5 : FrsV K (upd HC ll (.lst (ss ++ [.ref pS]))) (ss ++ [.ref pS]) (((states fs.length).take (i + 1)).map (wtR fs es x y)) := by
      rw [take_snoc hsi, List.map_append]
      exact frs_upd hllC (paired_snoc (frs_up sBC hfs) ⟨pS, rfl, hpS⟩)
    have hfb5 := frs_upd (o := .lst (ss ++ [.ref pS])) hllC (frs_up sBC hfb)
    have hfw5 := frs_upd (o := .lst (ss ++ [.ref pS])) hllC (frs_up sC hfw)
    have lbs := hfb.length
    rw [stL_len] at lbs
    have lws := hfw.length
    rw [lJ] at lws
    generalize upd HC ll (.lst (ss ++ [.ref pS])) = HD at *
    refine ⟨_, rfl, _, rfl, bl, wl, bs, ws, rfl, SqL.of hbl5, SqL.of hw5, fun D2 hD2 => ?_⟩
    refine ZPM.lc_zipL (by omega) (fun k HN => Ext HD HN ∧ ∃ us, HN D2 = some (.lst us) ∧ FrsV K HN us ((stL fs x y es (i + 1)).take k)) ⟨ext_upd hD2, [], upd_same, .nil⟩ (fun k HN h => ⟨SqL.of (h.1.lst hbl5), SqL.of (h.1.lst hw5)⟩) (fun k v1 v2 T9 HN hv1 hv2 hP4 hT9 => ?_) (fun HN hP4 => ?_)
    · obtain ⟨sN, us, hus, hpu⟩ := hP4
      obtain ⟨r, hri, a8, rfl, ha8⟩ := paired_at (frs_up sN hfb5) hv1
      obtain ⟨r', hri', a9, rfl, ha9⟩ := paired_at (frs_up sN hfw5) hv2
      have hk : k < 2 ^ es.length := by
        have := (List.getElem?_eq_some_iff.mp hri).1
        rw [stL_len] at this
        exact this
      have er := (Option.some.inj ((stL_at hk).symm.trans hri))
      have er' := (Option.some.inj ((jwL_at (fs := fs) (x := x) (y := y) (st := st) (es := es) hk).symm.trans hri'))
      have lpu := hpu.length
      rw [List.length_take] at lpu
      have w9 := ext_upd (o := .tup [.ref a8, .ref a9]) hT9
      have v9 : upd HN T9 (.tup [.ref a8, .ref a9]) T9 = some (.tup [.ref a8, .ref a9]) := upd_same
      have hus9 := w9.lst hus
      generalize upd HN T9 (.tup [.ref a8, .ref a9]) = HO1 at *
      have izr : Iz (wD x y es.length) (i * wX es.length) r := by
        rw [← er]
        refine sumN_iz i fun t ht => ?_
        have hstt : (states fs.length)[t]? = some (stA fs.length t) := stA_at (by omega)
        obtain ⟨lnt, hbtt⟩ := states_ok _ _ (List.mem_of_getElem? hstt)
        exact jwt_iz bx bY px py hs n5 lnt hbtt h9 k (Nat.le_refl _)
      have smr : Sm r := wsm bx bY px py (k := es.length) l8 (Nat.le_trans (show i ≤ 32 by omega) (by decide)) izr
      have smr' : Sm r' := smJ r' (List.mem_of_getElem? hri')
      refine ⟨T9, _, rfl, SqT.of v9, rfl, _, _, rfl, _, _, rfl, rfl, rfl, ?_⟩
      refine ⟨_, rfl, _, rfl, a8, a9, _, _, rfl, w9.tup ha8, w9.tup ha9, okA_of smr smr', fun pm HP sP nP hpm => ?_⟩
      rw [SM.addF_fq] at hpm
      have husP := sP.ext.lst hus9
      refine ⟨us, husP, sl_lt (by omega), ((sN.trans w9).trans sP.ext).own hD2, us ++ [.ref pm], upd_same, ?_⟩
      have hnext : (stL fs x y es (i + 1))[k]? = some (r + r') := by
        rw [stL_at hk, sumN, er, estA, er']
      rw [take_snoc hnext]
      exact frs_upd husP (paired_snoc (frs_up (w9.trans sP.ext) hpu) ⟨pm, rfl, SqT.of hpm⟩)
    · obtain ⟨sN, us, hus, hpu⟩ := hP4
      rw [lws, ← stL_len fs x y es (i + 1), List.take_length] at hpu
      have nD2 : D2 ≠ ll := fun z => by
        rw [z, k5] at hD2
        cases hD2
      exact ⟨D2, us, _, _, _, _, _, rfl, s1D.trans sN, sN.lst hl5, sN.sts hst5, sN.lst k5, hus, nD2, frs_up sN hfs5, hpu⟩
  · obtain ⟨bl, bs, ss, z5, z6, z7, z8, rfl, s1A, hlA, hstA, hll, hbl, nbl, hfs, hfb⟩ := hP
    rw [hst.length, List.take_length] at hfs
    rw [hst.length, ls, stL_end px py hin] at hfb
    have s0A := s1.trans s1A
    refine ⟨_, rfl, ll, ss, rfl, .inl ⟨SqL.of hll, fun ta hta => ?_⟩⟩
    have xa1 := ext_upd (o := .tup ss) hta
    have k6 : upd HA ta (.tup ss) ta = some (.tup ss) := upd_same
    generalize upd HA ta (.tup ss) = HB at *
    refine ⟨_, rfl, bl, bs, rfl, .inl ⟨SqL.of (xa1.lst hbl), fun tb htb => ?_⟩⟩
    have xb1 := ext_upd (o := .tup bs) htb
    have k7 : upd HB tb (.tup bs) tb = some (.tup bs) := upd_same
    generalize upd HB tb (.tup bs) = HC at *
    refine ⟨sl2, fun tl htl => ?_⟩
    have xc1 := ext_upd (o := .tup [V.ref ta, .ref tb]) htl
    exact q l8 tl _ ta tb ss bs (((s0A.trans xa1).trans xb1).trans xc1) (SqT.of upd_same) (SqT.of (xc1.at (xb1.at k6))) (SqT.of (xc1.at k7)) (frs_up ((xa1.trans xb1).trans xc1) hfs) (frs_up ((xa1.trans xb1).trans xc1) hfb)
theorem paired_at' {α β : Type} {R : α → β → Prop} : ∀ {as : List α} {bs : List β} {i : Nat} {b : β}, Paired R as bs → bs[i]? = some b → ∃ a, as[i]? = some a ∧ R a b
  | _, _, _, _, .nil, h => by simp at h
  | _, _, 0, _, .cons x t, h => by
    simp only [List.getElem?_cons_zero, Option.some.injEq] at h
    subst h
    exact ⟨_, rfl, x⟩
  | _, _, i + 1, _, .cons x t, h => by
    simp only [List.getElem?_cons_succ] at h
    obtain ⟨b, h1, h2⟩ := paired_at' t h
    exact ⟨b, by simpa using h1, h2⟩
/-- the dict d holds the terms D, a gathering of ts: in comes d, out comes a new tuple -/
def spIn (T : Top K mg) : Sp := fun vs H Q _ => ∃ (d : Addr) (D ts : List Trm), vs = [.ref d] ∧ H d = some (.dT (kvsOf D)) ∧ (keys D).Nodup ∧ PM.Eqv D ts ∧ D.length < 1000000 ∧ Tg T H ∧
  ∀ p H', Ext H H' → PolyT H' p (canon ts) → H p = none → Q (.ref p) H'
theorem ok_in_order (T : Top K mg) (B : Tb T base) : FnOk P w K mg base CX0 2 T.f_in_order T.d_in_order ["found"] (spIn T) := by
  refine T.F_in_order.ok sc_in_order (fun vs H Q E h => ?_) (fun A outer s H vs Q E hr h => ?_)
  · obtain ⟨d, D, ts, rfl, _⟩ := h
    rfl
  · obtain ⟨d, D, ts, rfl, hd, hn, he, hlen, G, q⟩ := h
    refine ⟨_, (pss_one (ps_ret (GXP.pe_tupleGx (own := [("pair", 1)]) (g := gName 1) (k := 0) (c := T.c_in_order) (P := T.P_in_order) (by rfl) T.m_tuple ⟨hr.mono (by decide), rfl, B.t_in_order, rfl, rfl, blkOk_by (own := [("pair", 1)]) (N := n_in_order) (sc := defScope s_in_order) (by decide +kernel), sc_in_order.nd, by decide +kernel, rfl, (pi_list (pe_callB (SDT.cr_sortedDT rfl) (by rfl) T.m_sorted (by decide +kernel) (pa_cons (pv 0) pa_nil))), fun A s H C cl code bi fp hrA => (pg_name (i := 1) sc_in_order.nd rfl (by first | exact .inl rfl | exact .inr rfl)), fun A s H C cl code bi fp hrA => (pts_one (pt_cmpR op_ne (pe_dget (hu_of hrA) (pv 0) (pv 1) (fun _ _ => rfl)) pe_int (nomark _))), fun A s H C cl code bi fp hrA => (pe_tup (pa_cons (pv 1) (pa_cons (pe_dget (hu_of hrA) (pv 0) (pv 1) (fun _ _ => rfl)) pa_nil))), fun _ => rfl⟩))), ?_⟩
    refine ⟨_, rfl, d, _, keys D, rfl, .inl hd, keys_kvs D, fun ks bs l hp hs hb hl => ?_⟩
    refine ⟨l, rfl, ⟨_, SqL.of upd_same⟩, (G.ext (ext_upd hl)).t_in_order, fun H2 t2 => ?_⟩
    have e0 : Ext H (upd H l (.lst (bs.map V.ref))) := ext_upd hl
    have e2 : Ext H H2 := e0.tabbed (G.ext e0).t_in_order t2
    have hl2 : H2 l = some (.lst (bs.map V.ref)) := (ext_tabbed (G.ext e0).t_in_order t2).lst upd_same
    refine gx_list (xs := bs.map V.ref) (fun i ys H3 => Ext H2 H3 ∧ TermsT H3 ys (PM.read D (ks.take i))) ⟨Ext.refl _, .nil⟩ (fun i ys H3 _ h => SqL.of (h.1.lst hl2)) (fun i x ys H3 hi hP => ?_) (fun ys H3 hP => ?_)
    · obtain ⟨s3, hy⟩ := hP
      rw [List.getElem?_map] at hi
      cases hbi : bs[i]? with
      | none => rw [hbi] at hi; cases hi
      | some b =>
        rw [hbi] at hi
        cases hi
        obtain ⟨k, hk, hkb⟩ := paired_at' hb hbi
        have e3 : Ext H H3 := e2.trans s3
        have hb3 : PairAt H3 k b := e3.at hkb
        have hm : k ∈ keys D := hp.mem_iff.mp (List.mem_of_getElem? hk)
        have hg : DGet H3 d (.ref b) (some (.int (look D k))) := by
          have := DGet.t (e3.dt hd) (k := pairKey k) hb3
          rw [valV_kvs, if_pos hm] at this
          exact this
        have tk : ks.take (i + 1) = ks.take i ++ [k] := by rw [List.take_add_one, hk]; rfl
        refine ⟨rfl, _, rfl, _, rfl, d, _, rfl, hg, rfl, _, rfl, iteB (fun z => ?_) (fun z => ?_)⟩
        · have nz : look D k ≠ 0 := fun w => by
            rw [w] at z
            cases z
          refine ⟨_, rfl, _, rfl, _, rfl, d, _, rfl, hg, sl2, fun p2 hp2 => ⟨?_, s3.new hp2, ?_⟩⟩
          · have l1 := hy.length
            have l2 : (PM.read D (ks.take i)).length ≤ D.length := by
              unfold PM.read
              rw [List.length_map]
              have h1 : ((ks.take i).filter fun k => decide (look D k ≠ 0)).length ≤ (ks.take i).length := List.length_filter_le _ _
              have h2 : (ks.take i).length ≤ ks.length := by rw [List.length_take]; omega
              have h3 := hp.length_eq
              have h4 : (keys D).length = D.length := by
                unfold keys
                rw [List.length_map]
              omega
            exact sl_lt (by omega)
          · rw [tk]
            have : PM.read D (ks.take i ++ [k]) = PM.read D (ks.take i) ++ [(k, look D k)] := by
              unfold PM.read
              rw [List.filter_append, List.filter_cons_of_pos (by simp [nz]), List.filter_nil, List.map_append]
              rfl
            rw [this]
            exact paired_snoc ((ext_upd hp2).termsT hy) ⟨p2, b, rfl, upd_same, (ext_upd hp2).at hb3⟩
        · have nz : look D k = 0 := by
            have z2 : decide (V.int (look D k) = V.int 0) = true := by simpa using z
            exact V.int.inj (of_decide_eq_true z2)
          refine ⟨s3, ?_⟩
          rw [tk]
          have : PM.read D (ks.take i ++ [k]) = PM.read D (ks.take i) := by
            unfold PM.read
            rw [List.filter_append, List.filter_cons_of_neg (by simp [nz]), List.filter_nil, List.append_nil]
          rw [this]
          exact hy
    · obtain ⟨s3, hy⟩ := hP
      have ek : PM.read D (ks.take (bs.map V.ref).length) = canon ts := by
        rw [List.length_map, ← hb.length, List.take_length]
        exact PM.read_canon hn he hp (hs.imp fun h => lex_lt.mp h)
      rw [ek] at hy
      intro p hp2
      have e3 : Ext H H3 := e2.trans s3
      exact q p _ (e3.new hp2) ⟨ys, upd_same, (ext_upd hp2).termsT hy⟩ (e3.free hp2)
/-- hands back a new tuple of the terms ts -/
def NewP (H : Hp) (Q : VK) (ts : List Trm) : Prop := ∀ p H', Ext H H' → PolyT H' p ts → H p = none → Q (.ref p) H'
/-- a list or a tuple of terms comes in -/
def spPoly (T : Top K mg) : Sp := fun vs H Q _ => ∃ (a : Addr) (xs : List V) (ts : List Trm), vs = [.ref a] ∧ (SqL K H a xs ∨ SqT K H a xs) ∧ Terms K H xs ts ∧ ts.length < 1000000 ∧ Tg T H ∧ NewP H Q (canon ts)
theorem gather_len (ts : List Trm) : (gather ts).length ≤ ts.length := by
  have := PM.length_gather_go ts []
  simpa [gather] using this
theorem gather_snoc (ts : List Trm) (t : Trm) : gather (ts ++ [t]) = addTo (gather ts) t := by
  unfold gather
  rw [List.foldl_append]
  rfl
theorem ok_polynomial (T : Top K mg) (B : Tb T base) : FnOk P w K mg base CX0 3 T.f_polynomial T.d_polynomial ["terms"] (spPoly T) := by
  refine T.F_polynomial.ok sc_polynomial (fun vs H Q E h => ?_) (fun cdv A outer s H vs Q E hr h => ?_)
  · obtain ⟨a, xs, ts, rfl, _⟩ := h
    rfl
  · obtain ⟨a, xs, ts, rfl, ha, hts, hlen, G, q⟩ := h
    refine ⟨_, (pss_cons (ps_set (i := 1) sc_polynomial.nd rfl (by first | exact .inl rfl | exact .inr rfl) pe_dnewT)
      (pss_cons (ps_for PassesOwn.never rfl (pi_seq (pv 0)) (pg_tup rfl (pgs_cons (pg_tup rfl (pgs_cons (pg_name (i := 2) sc_polynomial.nd rfl (by first | exact .inl rfl | exact .inr rfl)) (pgs_cons (pg_name (i := 3) sc_polynomial.nd rfl (by first | exact .inl rfl | exact .inr rfl)) pgs_nil))) (pgs_cons (pg_name (i := 4) sc_polynomial.nd rfl (by first | exact .inl rfl | exact .inr rfl)) pgs_nil))) (pss_one (ps_dput (hu_of hr) (pv 1) (pe_tup (pa_cons (pv 2) (pa_cons (pv 3) pa_nil))) (pe_op op_add (pe_dget2 (hu_of hr) (pv 1) (pe_tup (pa_cons (pv 2) (pa_cons (pv 3) pa_nil))) pe_int ⟨rfl, rfl, rfl, rfl⟩) (pv 4)) rfl)))
      (pss_one (ps_ret (pe_call (ok_in_order T B) (hr.mono (by decide)) (by rfl) T.g_in_order T.F_in_order.kp T.b_in_order .nil pass0 (pa_cons (pv 1) pa_nil)))))), ?_⟩
    intro d hd
    have e1 : Ext H (upd H d (.dT [])) := ext_upd hd
    have hxl := hts.length
    refine ⟨_, rfl, a, rfl, for_seq (xs := xs) ha (fun i σ H1 => (∃ x y z, σ = [some (.ref a), some (.ref d), x, y, z]) ∧ Ext H H1 ∧ H1 d = some (.dT (kvsOf (gather (ts.take i))))) ⟨⟨_, _, _, rfl⟩, e1, upd_same⟩ (fun i σ H1 _ h => h.2.1) (fun i x σ H1 hi hP => ?_) (fun σ H1 hP => ?_)⟩
    · obtain ⟨⟨x1, x2, x3, rfl⟩, s1, hd1⟩ := hP
      obtain ⟨t, ht, a1, b1, rfl, h1, h2⟩ := paired_at hts hi
      refine ⟨a1, _, rfl, s1.tup h1, rfl, _, _, rfl, ?_⟩
      refine ⟨b1, _, rfl, s1.tup h2, rfl, _, _, rfl, _, _, rfl, rfl, _, _, rfl, rfl, ?_⟩
      refine ⟨_, rfl, d, rfl, .inr ⟨_, .inl hd1⟩, _, rfl, _, rfl, sl2, fun p hp => ?_⟩
      have hd2 : upd H1 p (.tup [.int t.1.1, .int t.1.2]) d = some (.dT (kvsOf (gather (ts.take i)))) := (ext_upd hp).dt hd1
      refine ⟨_, DGet.t hd2 (k := pairKey t.1) upd_same, _, rfl, look (gather (ts.take i)) t.1, t.2, getD_kvs _ _, rfl, ?_⟩
      refine ⟨_, rfl, _, rfl, _, rfl, sl2, fun p2 hp2 => ⟨d, _, rfl, DPut.t ((ext_upd hp2).dt hd2) (k := pairKey t.1) upd_same ?_, ?_⟩⟩
      · have l1 := gather_len (ts.take i)
        have l2 : (ts.take i).length ≤ ts.length := by rw [List.length_take]; omega
        rw [length_kvs]
        exact sl_lt (by omega)
      · refine ⟨⟨_, _, _, rfl⟩, ((s1.new hp).new hp2).own hd, ?_⟩
        rw [upd_same, put_kvs, take_snoc ht, gather_snoc]
        rfl
    · obtain ⟨⟨x1, x2, x3, rfl⟩, s1, hd1⟩ := hP
      have l1 := gather_len ts
      rw [hxl, List.take_length] at hd1
      refine ⟨_, rfl, d, gather ts, ts, rfl, hd1, PM.gather_nodup ts, PM.gather_eqv ts, by omega, G.ext s1, fun p H2 s2 hp h0 => q p H2 (s1.trans s2) hp (s1.free h0)⟩
theorem TermT.upd {H : Hp} {D : Addr} {o : HO} {acc : List V} {v : V} {t : Trm} (hD : H D = some (.lst acc)) (h : TermT H v t) : TermT (L2.upd H D o) v t := by
  obtain ⟨a, b, e, h1, h2⟩ := h
  have n1 : a ≠ D := fun z => by rw [z, hD] at h1; cases h1
  have n2 : b ≠ D := fun z => by
    have h2 : H b = some (.tup [.int t.1.1, .int t.1.2]) := h2
    rw [z, hD] at h2
    cases h2
  exact ⟨a, b, e, by rw [upd_ne n1]; exact h1, by show L2.upd H D o b = _; rw [upd_ne n2]; exact h2⟩
theorem termsT_upd {H : Hp} {D : Addr} {o : HO} {acc : List V} {vs : List V} {ts : List Trm} (hD : H D = some (.lst acc)) (h : TermsT H vs ts) : TermsT (L2.upd H D o) vs ts := paired_imp (fun _ _ k => TermT.upd hD k) h
theorem termT_one {H : Hp} {a b : Addr} {t : Trm} (h1 : H a = some (.tup [.ref b, .int t.2])) (h2 : PairAt H t.1 b) : TermT H (.ref a) t := ⟨a, b, rfl, h1, h2⟩
def spSum (T : Top K mg) : Sp := fun vs H Q _ => ∃ (p : Addr) (fs : List Int) (es : List Eg), vs = [.ref p] ∧ SpAt T H p fs es ∧ fs.length ≤ 8 ∧ Tg T H ∧ NewP H Q (canon (zraw fs es))
theorem ok_sum_by_states (T : Top K mg) (B : Tb T base) : FnOk P w K mg base CX0 4 T.f_sum_by_states T.d_sum_by_states ["spins"] (spSum T) := by
  refine T.F_sum_by_states.ok sc_sum_by_states (fun vs H Q E h => ?_) (fun cdv A outer s H vs Q E hr h => ?_)
  · obtain ⟨p, fs, es, rfl, _⟩ := h
    rfl
  obtain ⟨p, fs, es, rfl, hp, l8, G, q⟩ := h
  refine ⟨_, (pss_one (ps_ret (pe_call (ok_polynomial T B) (hr.mono (by decide)) (by rfl) T.g_polynomial T.F_polynomial.kp T.b_polynomial .nil pass0 (pa_cons (pe_lc (own := [("state", 1)]) (g := gName 1) (tt := tYes) rfl sc_sum_by_states.nd (pi_list (pe_call (ok_all_states T) (hr.mono (by decide)) (by rfl) T.g_all_states T.F_all_states.kp T.b_all_states .nil pass0 (pa_cons (pv 0) pa_nil))) (blkOk_by (own := [("state", 1)]) (N := n_sum_by_states) (sc := defScope s_sum_by_states) (by decide +kernel)) (fun _ _ _ _ _ => (pg_name (i := 1) sc_sum_by_states.nd rfl (by first | exact .inl rfl | exact .inr rfl))) (fun _ _ _ _ _ => pts_nil) (fun _ _ _ _ _ => (pe_tup (pa_cons (pe_tup (pa_cons (pe_call (ok_cost T B) (hr.mono (by decide)) (by rfl) T.g_cost T.F_cost.kp T.b_cost .nil pass0 (pa_cons (pv 0) (pa_cons (pv 1) pa_nil))) (pa_cons (pe_call (ok_ups T) (hr.mono (by decide)) (by rfl) T.g_ups T.F_ups.kp T.b_ups .nil pass0 (pa_cons (pv 1) pa_nil)) pa_nil))) (pa_cons pe_int pa_nil))))) pa_nil)))), ?_⟩
  refine ⟨_, rfl, p, fs, es, rfl, hp, l8, fun l H1 xs s1 nl hl hst => ⟨l, rfl, ⟨_, SqL.of hl⟩, fun D hD => w_list (xs := xs) (fun i H2 => Ext H1 H2 ∧ ∃ zs, H2 D = some (.lst zs) ∧ TermsT H2 zs (((states fs.length).take i).map (termS fs es)))
    ⟨ext_upd hD, [], upd_same, .nil⟩ (fun j H2 _ h => SqL.of (h.1.lst hl)) (fun i v H2 hi hP => ?_) (fun H2 hP => ?_)⟩⟩
  · obtain ⟨s2, zs, hz, hzs⟩ := hP
    obtain ⟨st, hsi, a, rfl, ha⟩ := paired_at hst hi
    have hok := states_ok _ st (List.mem_of_getElem? hsi)
    have s12 := s1.trans s2
    refine ⟨rfl, _, rfl, _, rfl, p, a, fs, es, st, rfl, hp.up s12, s2.tup ha, hok.1, hok.2, G.ext s12, fun H3 s3 => ?_⟩
    refine ⟨_, rfl, a, st, rfl, (s2.trans s3).tup ha, sl2, fun p1 hp1 => ⟨sl2, fun p2 hp2 => ?_⟩⟩
    have x4 := ext_upd (o := .tup [V.int (costZ fs es st), .int st.sum]) hp1
    have x5 := ext_upd (o := .tup [V.ref p1, .int 1]) hp2
    have hD5 := x5.lst (x4.lst (s3.lst hz))
    have ln := hzs.length
    rw [List.length_map, List.length_take, length_states] at ln
    have := pow8 l8
    refine ⟨zs, hD5, sl_lt (by omega), (((s2.trans s3).trans x4).trans x5).own hD, zs ++ [.ref p2], upd_same, ?_⟩
    rw [take_snoc hsi, List.map_append]
    exact paired_snoc (termsT_upd hD5 (x5.termsT (x4.termsT (s3.termsT hzs)))) (TermT.upd hD5 (termT_one (t := termS fs es st) upd_same (x5.at upd_same)))
  · obtain ⟨s2, zs, hz, hzs⟩ := hP
    have l1 := hst.length
    rw [l1, List.take_length] at hzs
    have ln := length_zraw fs es
    have := pow8 l8
    exact ⟨D, zs, zraw fs es, rfl, .inl (SqL.of hz), terms_of hzs, by omega, G.ext (s1.trans s2), fun p H' s' hp' h0 => q p H' ((s1.trans s2).trans s') hp' ((s1.trans s2).free h0)⟩
open K04
/-! ### the value of a polynomial at two fractions -/
/-- the powers of x that are kept -/
def PowOk (x : Rat) (l : List (Int × Rat)) : Prop := ∀ e ∈ l, e.2 = rp x e.1
theorem pow_get {x : Rat} : ∀ {l : List (Int × Rat)} {a : Int}, PowOk x l → a ∈ keysG l → getG l a = rp x a
  | [], _, _, m => absurd m List.not_mem_nil
  | e :: l, a, h, m => by
    rw [getG_cons]
    by_cases z : e.1 = a
    · rw [if_pos z, h e List.mem_cons_self, z]
    · rw [if_neg z]
      refine pow_get (fun e' m' => h e' (List.mem_cons_of_mem _ m')) ?_
      rcases List.mem_cons.mp m with q | q
      · exact absurd q.symm z
      · exact q
theorem pow_put {x : Rat} {l : List (Int × Rat)} {a : Int} (h : PowOk x l) : PowOk x (putG l a (rp x a)) := fun e m => by
  unfold putG at m
  split at m
  · obtain ⟨e', m', rfl⟩ := List.mem_map.mp m
    split
    · rename_i z
      rw [← z]
    · exact h _ m'
  · rcases List.mem_append.mp m with m | m
    · exact h _ m
    · rw [List.mem_singleton.mp m]
theorem kvsg_val {β κ : Type} [DecidableEq β] [DecidableEq κ] {R : KRep K β κ} {H : Hp} (k : β) : ∀ {kvs : List (κ × V)} {l : List (β × Rat)}, KvsG R H kvs l → (k ∉ keysG l → valV kvs (R.enc k) = none) ∧ (k ∈ keysG l → ∃ v, valV kvs (R.enc k) = some v ∧ FrV K H v (getG l k))
  | _, _, .nil => ⟨fun _ => rfl, fun m => absurd m List.not_mem_nil⟩
  | kv :: _, e :: _, .cons ⟨h1, h3⟩ t => by
    obtain ⟨i1, i2⟩ := kvsg_val (R := R) k t
    by_cases z : e.1 = k
    · refine ⟨fun n => absurd (by rw [← z]; exact List.mem_cons_self) n, fun _ => ⟨kv.2, valV_pos (by rw [h1, z]), ?_⟩⟩
      rw [getG_cons, if_pos z]
      exact h3
    · have nz : kv.1 ≠ R.enc k := fun q => z (R.inj _ _ (h1.symm.trans q))
      refine ⟨fun n => ?_, fun m => ?_⟩
      · rw [valV_neg nz]
        exact i1 fun q => n (List.mem_cons_of_mem _ q)
      · rcases List.mem_cons.mp m with q | q
        · exact absurd q.symm z
        · rw [valV_neg nz, getG_cons, if_neg z]
          exact i2 q
/-- small polynomials -/
structure PolS (n c : Nat) (p : List Trm) : Prop where
  len : p.length ≤ n
  co : ∀ t ∈ p, t.2.natAbs ≤ c
  ex : ∀ t ∈ p, t.1.1.natAbs ≤ 64
  ey : ∀ t ∈ p, t.1.2.natAbs ≤ 8
theorem iz_co {x : Rat} (bx : Bz 4 x) (px : 0 < x) {c : Nat} {t : Trm} (hc : t.2.natAbs ≤ c) (he : t.1.1.natAbs ≤ 64) : Iz (gX x ^ 64) (c * 2 ^ 512) ((t.2 : Rat) * rp x t.1.1) := by
  have h1 : Iz 1 c (t.2 : Rat) := ⟨t.2, by
    have : ((1 : Nat) : Rat) = 1 := rfl
    rw [this, Rat.mul_one], hc⟩
  have := h1.mul (iz_rpG bx px he)
  rw [Nat.one_mul] at this
  exact this
theorem fq_int (c : Int) : fq (c : Rat) = (c, 1) := rfl
theorem gX64 {x : Rat} (bx : Bz 4 x) (px : 0 < x) : gX x ^ 64 ≠ 0 ∧ gX x ^ 64 ≤ 2 ^ 512 := ⟨Nat.pos_iff_ne_zero.mp (Nat.pow_pos (Nat.pos_of_ne_zero (gX_ne px))), gX_pow_le bx 64⟩
theorem sm_co {x : Rat} (bx : Bz 4 x) (px : 0 < x) {X : Nat} (hX : X ≤ 2 ^ 20 * 2 ^ 512) {r : Rat} (h : Iz (gX x ^ 64) X r) : Sm r := by
  obtain ⟨h1, h2⟩ := gX64 bx px
  refine SM.sm_of h h1 (Nat.lt_of_le_of_lt h2 (Nat.pow_lt_pow_right (by decide) (by decide))) (Nat.lt_of_le_of_lt hX ?_)
  rw [← Nat.pow_add]
  exact Nat.pow_lt_pow_right (by decide) (by decide)
def spCoef (T : Top K mg) : Sp := fun vs H Q _ => ∃ (a xa : Addr) (p : List Trm) (x : Rat), vs = [.ref a, .ref xa] ∧ PolyAt K H a p ∧ Fr K H xa (fq x) ∧ Bz 4 x ∧ 0 < x ∧ PolS 64 64 p ∧
  ∀ d H' kvs, Ext H H' → H d = none → H' d = some (.dK kvs) → KvsG (intZ K) H' kvs (addAll [] (coL x p)) → Q (.ref d) H'
theorem ok_coefficients_at (T : Top K mg) : FnOk P w K mg base CX0 5 T.f_coefficients_at T.d_coefficients_at ["p", "x"] (spCoef T) := by
  refine T.F_coefficients_at.ok sc_coefficients_at (fun vs H Q E h => ?_) (fun cdv A outer s H vs Q E hr h => ?_)
  · obtain ⟨a, xa, p, x, rfl, _⟩ := h
    rfl
  obtain ⟨a, xa, p, x, rfl, hp, hx, bx, px, hS, q⟩ := h
  refine ⟨_, (pss_cons (ps_set (i := 2) sc_coefficients_at.nd rfl (by first | exact .inl rfl | exact .inr rfl) pe_dnewK)
      (pss_cons (ps_set (i := 3) sc_coefficients_at.nd rfl (by first | exact .inl rfl | exact .inr rfl) pe_dnewK)
      (pss_cons (ps_for PassesOwn.never rfl (pi_tup (pv 0)) (pg_tup rfl (pgs_cons (pg_tup rfl (pgs_cons (pg_name (i := 4) sc_coefficients_at.nd rfl (by first | exact .inl rfl | exact .inr rfl)) (pgs_cons (pg_name (i := 5) sc_coefficients_at.nd rfl (by first | exact .inl rfl | exact .inr rfl)) pgs_nil))) (pgs_cons (pg_name (i := 6) sc_coefficients_at.nd rfl (by first | exact .inl rfl | exact .inr rfl)) pgs_nil))) (C8.pss_cut (ps_if (pt_cmp (pc_dnotin (hu_of hr) (pv 4) (pv 2))) (pss_one (ps_dput (hu_of hr) (pv 2) (pv 4) (pe_call (ok_rp T) (hr.mono (by decide)) (by rfl) T.g_raised T.F_raised.kp T.b_raised .nil pass0 (pa_cons (pv 1) (pa_cons (pv 4) pa_nil))) rfl)) pss_nil)
      (pss_one (ps_dput (hu_of hr) (pv 3) (pv 5) (pe_call (ok_add T) (hr.mono (by decide)) (by rfl) T.g_add T.F_add.kp T.b_add .nil pass0 (pa_cons (pe_dget2 (hu_of hr) (pv 3) (pv 5) (pe_tup (pa_cons pe_int (pa_cons pe_int pa_nil))) ⟨rfl, rfl, rfl, rfl⟩) (pa_cons (pe_call (ok_multiply T) (hr.mono (by decide)) (by rfl) T.g_multiply T.F_multiply.kp T.b_multiply .nil pass0 (pa_cons (pe_tup (pa_cons (pv 6) (pa_cons pe_int pa_nil))) (pa_cons (pe_dget (hu_of hr) (pv 2) (pv 4) (fun _ _ => rfl)) pa_nil))) pa_nil))) rfl))))
      (pss_one (ps_ret (pv 3)))))), ?_⟩
  intro d1 hd1
  have nx : x ≠ 0 := fun h => Rat.lt_irrefl (h ▸ px)
  have nd1 := hd1
  have x1 := ext_upd (o := .dK []) hd1
  have k1 : upd H d1 (.dK []) d1 = some (.dK []) := upd_same
  dsimp only [gName]
  generalize upd H d1 (.dK []) = H1 at *
  intro d2 hd2
  have x2 := x1.trans (ext_upd (o := .dK []) hd2)
  have k2 : upd H1 d2 (.dK []) d2 = some (.dK []) := upd_same
  have k1' := (ext_upd (o := .dK []) hd2).keep _ _ k1 (fun _ z => by cases z)
  have n2 := x1.free hd2
  have n12 : d1 ≠ d2 := fun z => by
    rw [z, hd2] at k1
    cases k1
  dsimp only [gName]
  generalize upd H1 d2 (.dK []) = H2 at *
  obtain ⟨vs, hvs, hts⟩ := hp
  have lts := hts.length
  refine ⟨_, rfl, a, rfl, ⟨_, x2.tup hvs⟩, for_tup (xs := vs) (fun i σ HA => ∃ z4 z5 z6 kp pw kf, σ = [some (.ref a), some (.ref xa), some (.ref d1), some (.ref d2), z4, z5, z6] ∧ Ext H HA ∧ HA d1 = some (.dK kp) ∧ KvsG (intZ K) HA kp pw ∧ PowOk x pw ∧ pw.length ≤ i ∧ HA d2 = some (.dK kf) ∧ KvsG (intZ K) HA kf (addAll [] (coL x (p.take i)))) ⟨_, _, _, [], [], [], rfl, x2, k1', .nil, fun _ m => absurd m List.not_mem_nil, Nat.zero_le _, k2, .nil⟩ (fun i σ HA _ h => ?_) (fun i v σ HA hi hP => ?_) (fun σ HA hP => ?_)⟩
  · obtain ⟨_, _, _, _, _, _, _, sA, _⟩ := h
    exact sA.tup hvs
  · obtain ⟨z4, z5, z6, kp, pw, kf, rfl, sA, hk1, hpw, pok, lpw, hk2, hkf⟩ := hP
    obtain ⟨t, ht, a1, b1, rfl, g1, g2⟩ := paired_at hts hi
    have mt := List.mem_of_getElem? ht
    have hil := (List.getElem?_eq_some_iff.mp ht).1
    have l64 := hS.len
    refine ⟨a1, _, rfl, sA.tup g1, rfl, _, _, rfl, ?_⟩
    refine ⟨b1, _, rfl, sA.tup g2, rfl, _, _, rfl, _, _, rfl, rfl, _, _, rfl, rfl, ?_⟩
    dsimp only [gName]
    obtain ⟨v1, v2⟩ := kvsg_val (R := intZ K) t.1.1 hpw
    refine ⟨fun σ HB => ∃ kp pw kf, σ = [some (.ref a), some (.ref xa), some (.ref d1), some (.ref d2), some (.int t.1.1), some (.int t.1.2), some (.int t.2)] ∧ Ext H HB ∧ HB d1 = some (.dK kp) ∧ KvsG (intZ K) HB kp pw ∧ PowOk x pw ∧ pw.length ≤ i + 1 ∧ t.1.1 ∈ keysG pw ∧ HB d2 = some (.dK kf) ∧ KvsG (intZ K) HB kf (addAll [] (coL x (p.take i))), ?_, ?_⟩
    · refine ⟨_, rfl, _, rfl, d1, _, rfl, (intZ K).get (k := t.1.1) hk1 rfl, _, rfl, iteB (fun z => ?_) (fun z => ?_)⟩
      · refine ⟨_, rfl, _, rfl, xa, x, _, rfl, sm12_of bx, hS.ex t mt, fun _ => nx, sA.tup hx, fun p1 HB sB hp1 => ?_⟩
        have hk1B := sB.ext.keep _ _ hk1 (fun _ z => by cases z)
        have hk2B := sB.ext.keep _ _ hk2 (fun _ z => by cases z)
        have hpwB := kvsg_up sB.ext hpw
        have hkfB := kvsg_up sB.ext hkf
        have lkp := hpw.length
        refine ⟨_, rfl, _, rfl, d1, _, rfl, (intZ K).put (k := t.1.1) hk1B rfl (sl_lt (by omega)), ?_⟩
        refine ⟨_, _, _, rfl, (sA.trans sB.ext).own nd1, upd_same, kvsg_upd (R := intZ K) hk1B (kvsg_put (R := intZ K) t.1.1 ⟨p1, rfl, hp1⟩ hpwB), pow_put pok, ?_, ?_, ?_, kvsg_upd (R := intZ K) hk1B hkfB⟩
        · have := length_put pw t.1.1 (rp x t.1.1)
          omega
        · rw [keys_put]
          split
          · assumption
          · exact List.mem_append_right _ List.mem_cons_self
        · rw [upd_ne (Ne.symm n12)]
          exact hk2B
      · have hm : t.1.1 ∈ keysG pw := Decidable.byContradiction fun n => by
          have z : (!(valV kp ((intZ K).enc t.1.1)).isSome) = false := z
          rw [v1 n] at z
          cases z
        exact ⟨kp, pw, kf, rfl, sA, hk1, hpw, pok, by omega, hm, hk2, hkf⟩
    rintro σ HB ⟨kp, pw, kf, rfl, sB, hk1, hpw, pok, lpw, hm, hk2, hkf⟩
    obtain ⟨v, hv, av, rfl, hav⟩ := (kvsg_val (R := intZ K) t.1.1 hpw).2 hm
    rw [pow_get pok hm] at hav
    have lkf := hkf.length
    have lad := addAll_length (coL x (p.take i)) []
    have lco : (coL x (p.take i)).length ≤ 64 := by
      unfold coL
      rw [List.length_map, List.length_take]
      omega
    have hizL : ∀ e ∈ coL x (p.take i), Iz (gX x ^ 64) (64 * 2 ^ 512) e.2 := fun e me => by
      obtain ⟨t', mt', rfl⟩ := List.mem_map.mp me
      have mt'' := List.mem_of_mem_take mt'
      exact iz_co bx px (hS.co t' mt'') (hS.ex t' mt'')
    have hizA := addAll_iz (X := 0) (Y := 64 * 2 ^ 512) (coL x (p.take i)) (l := []) (c := 0) (fun e m => absurd m List.not_mem_nil) hizL
    have smA : ∀ b, Sm (getG (addAll [] (coL x (p.take i))) b) := fun b => get_all (P := Sm) sm_zero (fun e me => sm_co bx px (by
      rw [Nat.zero_add, ← Nat.mul_assoc]
      exact Nat.mul_le_mul_right _ (Nat.le_trans (Nat.mul_le_mul_right 64 lco) (by decide))) (hizA e me)) b
    have smC : Sm ((t.2 : Rat) * rp x t.1.1) := sm_co bx px (Nat.mul_le_mul_right _ (show 64 ≤ 2 ^ 20 by decide)) (iz_co bx px (hS.co t mt) (hS.ex t mt))
    have smc : Sm (t.2 : Rat) := ⟨by
      show t.2.natAbs < _
      exact Nat.lt_of_le_of_lt (hS.co t mt) (Nat.lt_of_lt_of_le (show 64 < 2 ^ 7 by decide) (Nat.pow_le_pow_right (by decide) (by decide))), by
      show (1 : Int).natAbs < _
      exact Nat.lt_of_lt_of_le (show 1 < 2 ^ 1 by decide) (Nat.pow_le_pow_right (by decide) (by decide))⟩
    have sne : coL x (p.take (i + 1)) = coL x (p.take i) ++ [(t.1.2, (t.2 : Rat) * rp x t.1.1)] := by
      unfold coL
      rw [take_snoc ht, List.map_append]
      rfl
    have smp : Sm (rp x t.1.1) := sm_rp (sm12_of bx) nx (hS.ex t mt)
    rw [sne, addAll_snoc]
    generalize hL : addAll [] (coL x (p.take i)) = L at *
    refine ⟨_, rfl, d2, rfl, (intZ K).isD hk2, _, rfl, sl2, fun t3 h3 => ⟨_, (intZ K).get (k := t.1.2) ((ext_upd h3).keep _ _ hk2 (fun _ z => by cases z)) rfl, ?_⟩⟩
    have w3 := ext_upd (o := .tup [.int 0, .int 1]) h3
    obtain ⟨a0, ea0, ha0⟩ := kvsg_get (R := intZ K) (zv := .ref t3) ⟨t3, rfl, SqT.of upd_same⟩ t.1.2 (kvsg_up w3 hkf)
    rw [ea0]
    refine ⟨_, rfl, sl2, fun t4 h4 => ?_⟩
    have w4 := ext_upd (o := .tup [.int t.2, .int 1]) h4
    have w34 := w3.trans w4
    refine ⟨_, rfl, _, rfl, d1, .ref av, rfl, ?_, t4, av, fq (t.2 : Rat), fq (rp x t.1.1), rfl, SqT.of upd_same, w34.tup hav, okA_of smc smp, fun pm HC sC nC hpm => ?_⟩
    · have := (intZ K).get (k := t.1.1) (w34.keep _ _ hk1 (fun _ z => by cases z)) (u := .int t.1.1) rfl
      rw [hv] at this
      exact this
    rw [SM.mulF_fq] at hpm
    refine ⟨a0, pm, _, _, rfl, (w4.trans sC.ext).tup ha0, SqT.of hpm, okA_of (smA _) smC, fun pn HD sD nD hpn => ?_⟩
    rw [SM.addF_fq] at hpn
    have wBD := w34.trans (sC.ext.trans sD.ext)
    have hk2D := wBD.keep _ _ hk2 (fun _ z => by cases z)
    refine ⟨_, rfl, _, rfl, d2, _, rfl, (intZ K).put (k := t.1.2) hk2D rfl (sl_lt (by simp only [List.length_nil] at lad; omega)), ?_⟩
    refine ⟨_, _, _, _, _, _, rfl, (sB.trans wBD).own n2, ?_, kvsg_upd (R := intZ K) hk2D (kvsg_up wBD hpw), pok, lpw, upd_same, kvsg_upd (R := intZ K) hk2D (kvsg_put (R := intZ K) _ ⟨pn, rfl, SqT.of hpn⟩ (kvsg_up wBD hkf))⟩
    rw [upd_ne n12]
    exact wBD.keep _ _ hk1 (fun _ z => by cases z)
  · obtain ⟨z4, z5, z6, kp, pw, kf, rfl, sA, hk1, hpw, pok, lpw, hk2, hkf⟩ := hP
    rw [lts, List.take_length] at hkf
    exact ⟨_, rfl, q d2 HA kf sA n2 hk2 hkf⟩
theorem dotG_iz {β : Type} [DecidableEq β] {F : β → Rat} {D X : Nat} : ∀ {l : List (β × Rat)}, (∀ e ∈ l, Iz D X (e.2 * F e.1)) → Iz D (l.length * X) (dotG F l)
  | [], _ => Iz.zero.le (Nat.zero_le _)
  | e :: l, h => by
    rw [dotG, List.length_cons, Nat.succ_mul, Nat.add_comm]
    exact (h e List.mem_cons_self).add (dotG_iz fun e' m => h e' (List.mem_cons_of_mem _ m))
theorem dotG_snoc {β : Type} [DecidableEq β] (F : β → Rat) (l : List (β × Rat)) (e : β × Rat) : dotG F (l ++ [e]) = dotG F l + e.2 * F e.1 := by
  rw [dotG_app]
  show dotG F l + (e.2 * F e.1 + 0) = _
  rw [Rat.add_zero]
theorem put_keys {β : Type} [DecidableEq β] {P : β → Prop} {l : List (β × Rat)} (h : ∀ k ∈ keysG l, P k) {k : β} {x : Rat} (hk : P k) : ∀ j ∈ keysG (putG l k x), P j := fun j m => by
  rw [keys_put] at m
  split at m
  · exact h j m
  · rcases List.mem_append.mp m with m | m
    · exact h j m
    · rw [List.mem_singleton.mp m]
      exact hk
theorem addAll_keysP {β : Type} [DecidableEq β] {P : β → Prop} : ∀ (es : List (β × Rat)) {l : List (β × Rat)}, (∀ k ∈ keysG l, P k) → (∀ e ∈ es, P e.1) → ∀ k ∈ keysG (addAll l es), P k
  | [], _, h, _ => h
  | e :: es, _, h, he => addAll_keysP es (put_keys h (he e List.mem_cons_self)) fun e' m => he e' (List.mem_cons_of_mem _ m)
theorem sqt_frz {H : Hp} {d a : Addr} {od : Obj} {kvs : List (Key × V)} {o : HO} {xs : List V} (hd : H d = some (.frz od (.dK kvs))) (g : SqT K H a xs) : SqT K (upd H d o) a xs := by
  rcases g with (g | ⟨o', g⟩) | g
  · exact .inl (.inl (by rw [upd_ne (fun z => by rw [z, hd] at g; cases g)]; exact g))
  · exact .inl (.inr ⟨o', by rw [upd_ne (fun z => by rw [z, hd] at g; cases g)]; exact g⟩)
  · exact .inr g
def spVal (T : Top K mg) : Sp := fun vs H Q _ => ∃ (a xa ya : Addr) (p : List Trm) (x y : Rat), vs = [.ref a, .ref xa, .ref ya] ∧ PolyAt K H a p ∧ Fr K H xa (fq x) ∧ Fr K H ya (fq y) ∧ Bz 4 x ∧ Bz 4 y ∧ 0 < x ∧ 0 < y ∧ PolS 64 64 p ∧
  ∀ pv H', Ext H H' → Fr K H' pv (fq (linR (valF x y) p)) → Q (.ref pv) H'
theorem ok_value (T : Top K mg) : FnOk P w K mg base CX0 6 T.f_value T.d_value ["p", "x", "y"] (spVal T) := by
  refine T.F_value.ok sc_value (fun vs H Q E h => ?_) (fun cdv A outer s H vs Q E hr h => ?_)
  · obtain ⟨a, xa, ya, p, x, y, rfl, _⟩ := h
    rfl
  obtain ⟨a, xa, ya, p, x, y, rfl, hp, hx, hy, bx, bY, px, py, hS, q⟩ := h
  refine ⟨_, (pss_cons (ps_set (i := 3) sc_value.nd rfl (by first | exact .inl rfl | exact .inr rfl) (pe_tup (pa_cons pe_int (pa_cons pe_int pa_nil))))
      (pss_cons (ps_set (i := 4) sc_value.nd rfl (by first | exact .inl rfl | exact .inr rfl) (pe_call (ok_coefficients_at T) (hr.mono (by decide)) (by rfl) T.g_coefficients_at T.F_coefficients_at.kp T.b_coefficients_at .nil pass0 (pa_cons (pv 0) (pa_cons (pv 1) pa_nil))))
      (pss_cons (ps_lock (ps_for PassesOwn.never rfl (pi_keys (pv 4)) (pg_name (i := 5) sc_value.nd rfl (by first | exact .inl rfl | exact .inr rfl)) (pss_one (ps_set (i := 3) sc_value.nd rfl (by first | exact .inl rfl | exact .inr rfl) (pe_call (ok_add T) (hr.mono (by decide)) (by rfl) T.g_add T.F_add.kp T.b_add .nil pass0 (pa_cons (pv 3) (pa_cons (pe_call (ok_multiply T) (hr.mono (by decide)) (by rfl) T.g_multiply T.F_multiply.kp T.b_multiply .nil pass0 (pa_cons (pe_dget (hu_of hr) (pv 4) (pv 5) (fun _ _ => rfl)) (pa_cons (pe_call (ok_rp T) (hr.mono (by decide)) (by rfl) T.g_raised T.F_raised.kp T.b_raised .nil pass0 (pa_cons (pv 2) (pa_cons (pv 5) pa_nil))) pa_nil))) pa_nil)))))))
      (pss_one (ps_ret (pv 3)))))), ?_⟩
  refine ⟨sl2, fun t0 ht0 => ?_⟩
  have x1 := ext_upd (o := .tup [.int 0, .int 1]) ht0
  have k1 : SqT K (upd H t0 (.tup [.int 0, .int 1])) t0 [.int 0, .int 1] := SqT.of upd_same
  dsimp only [gName]
  generalize upd H t0 (.tup [.int 0, .int 1]) = H1 at *
  obtain ⟨vs, hvs, hts⟩ := hp
  refine ⟨_, rfl, _, rfl, a, xa, p, x, rfl, ⟨vs, x1.tup hvs, x1.terms hts⟩, x1.tup hx, bx, px, hS, fun d H2 kvs s2 nd hd hk => ?_⟩
  have s02 := x1.trans s2
  have ny : y ≠ 0 := fun h => Rat.lt_irrefl (h ▸ py)
  dsimp only [gName]
  refine ⟨d, _, hd, trivial, fun od => ?_⟩
  have nd' := x1.free nd
  have s3 : Ext H (upd H2 d (.frz od (.dK kvs))) := s02.own nd'
  have k3 : upd H2 d (.frz od (.dK kvs)) d = some (.frz od (.dK kvs)) := upd_same
  have hk3 := kvsg_upd (R := intZ K) (o := .frz od (.dK kvs)) hd hk
  have t3 := (intZ K).sq (kvs := kvs) (o := .frz od (.dK kvs)) hd (s2.tup k1)
  generalize upd H2 d (.frz od (.dK kvs)) = H3 at *
  have eL : dotG (rp y) (addAll [] (coL x p)) = linR (valF x y) p := co_value x y p
  have ndL : (keysG (addAll [] (coL x p))).Nodup := addAll_nodup (by simp [keysG]) _
  have lco : (coL x p).length ≤ 64 := by
    unfold coL
    rw [List.length_map]
    exact hS.len
  have lad := addAll_length (coL x p) []
  have ky : ∀ k ∈ keysG (addAll [] (coL x p)), k.natAbs ≤ 8 := addAll_keysP (P := fun k : Int => k.natAbs ≤ 8) _ (fun k m => absurd m List.not_mem_nil) fun e m => by
    obtain ⟨t, mt, rfl⟩ := List.mem_map.mp m
    exact hS.ey t mt
  have hizA : ∀ e ∈ addAll [] (coL x p), Iz (gX x ^ 64) (2 ^ 524) e.2 := fun e me => by
    have := addAll_iz (X := 0) (Y := 64 * 2 ^ 512) (coL x p) (l := []) (c := 0) (fun e m => absurd m List.not_mem_nil) (fun e m => by
      obtain ⟨t', mt', rfl⟩ := List.mem_map.mp m
      exact iz_co bx px (hS.co t' mt') (hS.ex t' mt')) e me
    refine this.le ?_
    rw [Nat.zero_add, ← Nat.mul_assoc]
    refine Nat.le_trans (Nat.mul_le_mul_right _ (Nat.mul_le_mul_right 64 lco)) (Nat.le_of_eq ?_)
    show 64 * 64 * 2 ^ 512 = 2 ^ (12 + 512)
    rw [Nat.pow_add]
  have smE : ∀ e ∈ addAll [] (coL x p), Sm e.2 := fun e m => sm_co bx px (by rw [← Nat.pow_add]; exact Nat.pow_le_pow_right (by decide) (by decide)) (hizA e m)
  have smD : ∀ k, Sm (dotG (rp y) ((addAll [] (coL x p)).take k)) := fun k => by
    have h := dotG_iz (F := rp y) (D := gX x ^ 64 * gX y ^ 8) (X := 2 ^ 524 * 2 ^ 64) (l := (addAll [] (coL x p)).take k) fun e m => (hizA e (List.mem_of_mem_take m)).mul (iz_rpG bY py (ky _ (List.mem_map.mpr ⟨e, List.mem_of_mem_take m, rfl⟩)))
    have d1 := gX64 bx px
    refine SM.sm_of h (Nat.mul_ne_zero d1.1 (Nat.pos_iff_ne_zero.mp (Nat.pow_pos (Nat.pos_of_ne_zero (gX_ne py))))) (Nat.lt_of_le_of_lt (Nat.mul_le_mul d1.2 (gX_pow_le bY 8)) ?_) ?_
    · rw [← Nat.pow_add]
      exact Nat.pow_lt_pow_right (by decide) (by decide)
    · refine Nat.lt_of_le_of_lt (Nat.mul_le_mul_right _ (show _ ≤ 2 ^ 6 from ?_)) ?_
      · rw [List.length_take]
        simp only [List.length_nil] at lad
        have : (2 : Nat) ^ 6 = 64 := by decide
        omega
      · rw [← Nat.pow_add, ← Nat.pow_add]
        exact Nat.pow_lt_pow_right (by decide) (by decide)
  have smM : ∀ e ∈ addAll [] (coL x p), Sm (e.2 * rp y e.1) := fun e m => by
    have h := (hizA e m).mul (iz_rpG bY py (ky _ (List.mem_map.mpr ⟨e, m, rfl⟩)))
    have d1 := gX64 bx px
    refine SM.sm_of h (Nat.mul_ne_zero d1.1 (Nat.pos_iff_ne_zero.mp (Nat.pow_pos (Nat.pos_of_ne_zero (gX_ne py))))) (Nat.lt_of_le_of_lt (Nat.mul_le_mul d1.2 (gX_pow_le bY 8)) ?_) ?_
    · rw [← Nat.pow_add]
      exact Nat.pow_lt_pow_right (by decide) (by decide)
    · rw [← Nat.pow_add]
      exact Nat.pow_lt_pow_right (by decide) (by decide)
  generalize addAll [] (coL x p) = L at *
  have lkv := hk3.length
  refine ⟨_, rfl, d, od, rfl, .inl ⟨kvs, k3, for_keysK (fun i σ HA => (∃ ta z5, σ = [some (.ref a), some (.ref xa), some (.ref ya), some (.ref ta), some (.ref d), z5] ∧ Fr K HA ta (fq (dotG (rp y) (L.take i)))) ∧ Ext H HA ∧ HA d = some (.frz od (.dK kvs)) ∧ KvsG (intZ K) HA kvs L) ⟨⟨t0, _, rfl, t3⟩, s3, k3, hk3⟩ (fun i σ HA _ h => h.2.2.1) (fun i k v σ HA hi hP => ?_) (fun σ HA hP => ?_)⟩⟩
  · obtain ⟨⟨ta, z5, rfl, hta⟩, sA, hdA, hkA⟩ := hP
    obtain ⟨⟨b, c⟩, hLi, ek, av, rfl, hav⟩ := paired_at hkA hi
    have ek : k = Sum.inl b := ek
    subst ek
    have hav : Fr K HA av (fq c) := hav
    have mL := List.mem_of_getElem? hLi
    have hval := kvsg_at hkA ndL hi
    dsimp only [gName]
    have by8 : b.natAbs ≤ 64 := Nat.le_trans (ky b (List.mem_map.mpr ⟨(b, c), mL, rfl⟩)) (by decide)
    have sb : Sm (rp y b) := sm_rp (sm12_of bY) ny by8
    refine ⟨_, rfl, _, rfl, _, rfl, d, .ref av, rfl, .inl ⟨kvs, Sum.inl b, .inr ⟨od, hdA⟩, rfl, hval.symm⟩, ?_⟩
    refine ⟨_, rfl, _, rfl, ya, y, b, rfl, sm12_of bY, by8, fun _ => ny, sA.tup hy, fun p1 HB sB hp1 => ?_⟩
    refine ⟨av, p1, _, _, rfl, sB.ext.tup hav, hp1, okA_of (smE _ mL) sb, fun p2 HC sC nC hp2 => ?_⟩
    rw [SM.mulF_fq] at hp2
    have sBC := sB.ext.trans sC.ext
    refine ⟨ta, p2, _, _, rfl, sBC.tup hta, SqT.of hp2, okA_of (smD i) (smM _ mL), fun p3 HD sD nD hp3 => ?_⟩
    rw [SM.addF_fq] at hp3
    have sBD := sBC.trans sD.ext
    refine ⟨⟨p3, _, rfl, ?_⟩, sA.trans sBD, sBD.keep _ _ hdA (fun _ z => by cases z), kvsg_up sBD hkA⟩
    rw [take_snoc hLi, dotG_snoc]
    exact SqT.of hp3
  · obtain ⟨⟨ta, z5, rfl, hta⟩, sA, hdA, hkA⟩ := hP
    rw [lkv, List.take_length, eL] at hta
    exact ⟨hdA, _, rfl, q ta _ (sA.own nd') (sqt_frz hdA hta)⟩
open K04
theorem tbn (m v : Nat) : (Builtin.bitAnd (((m : Nat) : Int) / 2 ^ ((v : Nat) : Int).toNat) 1 != 0) = m.testBit v := by
  rw [Int.toNat_natCast]
  have h := PySem.W.kbt_mask (((m : Nat) : Int) / 2 ^ v) 1
  have e : (2 : Int) ^ 1 - 1 = 1 := by decide
  rw [e] at h
  rw [h]
  have e2 : (2 : Int) ^ 1 = 2 := by decide
  rw [e2]
  have e3 : ((m : Nat) : Int) / 2 ^ v = ((m / 2 ^ v : Nat) : Int) := by
    rw [Int.natCast_ediv, Int.natCast_pow]
    rfl
  rw [e3, Nat.testBit_eq_decide_div_mod_eq]
  by_cases z : m / 2 ^ v % 2 = 1
  · rw [decide_eq_true z]
    have : (((m / 2 ^ v : Nat) : Int) % 2) = 1 := by omega
    rw [this]
    rfl
  · rw [decide_eq_false z]
    have : (((m / 2 ^ v : Nat) : Int) % 2) = 0 := by omega
    rw [this]
    rfl
open ITT
def foldP (n : Nat) (ps : List (Nat × Nat)) : List Nat := ps.foldl (fun p e => lwJ p e.1 e.2) (List.range n)
theorem foldP_snoc (n : Nat) (ps : List (Nat × Nat)) (e : Nat × Nat) : foldP n (ps ++ [e]) = lwJ (foldP n ps) e.1 e.2 := by
  unfold foldP
  rw [List.foldl_append]
  rfl
theorem lwJ_len (p : List Nat) (u v : Nat) : (lwJ p u v).length = p.length := by
  unfold lwJ
  rw [List.length_map]
theorem foldP_len (n : Nat) : ∀ ps : List (Nat × Nat), (foldP n ps).length = n := fun ps => by
  have gen : ∀ (ps : List (Nat × Nat)) (p : List Nat), p.length = n → (ps.foldl (fun p e => lwJ p e.1 e.2) p).length = n := fun ps => by
    induction ps with
    | nil => exact fun p h => h
    | cons e ps ih => exact fun p h => ih _ ((lwJ_len p e.1 e.2).trans h)
  exact gen ps _ List.length_range
/-- two ends -/
def EndV (K : PySem.W.Frag) (H : Hp) (v : V) (e : Nat × Nat) : Prop := ∃ a, v = .ref a ∧ SqT K H a [.int ((e.1 : Nat) : Int), .int ((e.2 : Nat) : Int)]
def spParts (K : PySem.W.Frag) : Sp := fun vs H Q _ => ∃ (n : Nat) (pl : Addr) (ys : List V) (ps : List (Nat × Nat)), vs = [.int ((n : Nat) : Int), .ref pl] ∧ n ≤ 8 ∧ SqL K H pl ys ∧ Paired (EndV K H) ys ps ∧ (∀ e ∈ ps, e.1 < n ∧ e.2 < n) ∧
  ∀ l H', Ext H H' → H l = none → H' l = some (.lst (natV (foldP n ps))) → Q (.ref l) H'
theorem ok_law_parts (T : Top K mg) : FnOk P w K mg base CX0 2 T.f_law_parts T.d_law_parts ["count", "pairs"] (spParts K) := by
  refine T.F_law_parts.ok sc_law_parts (fun vs H Q E h => ?_) (fun cdv A outer s H vs Q E hr h => ?_)
  · obtain ⟨n, pl, ys, ps, rfl, _⟩ := h
    rfl
  obtain ⟨n, pl, ys, ps, rfl, n8, hl, hp, hin, q⟩ := h
  refine ⟨_, (pss_cons (ps_set (i := 2) sc_law_parts.nd rfl (by first | exact .inl rfl | exact .inr rfl) (pe_listRg rfl (by rfl) T.m_list (prg_1 (by rfl) T.m_range (pv 0))))
      (pss_cons (ps_for PassesOwn.never rfl (pi_list (pv 1)) (pg_tup rfl (pgs_cons (pg_name (i := 3) sc_law_parts.nd rfl (by first | exact .inl rfl | exact .inr rfl)) (pgs_cons (pg_name (i := 4) sc_law_parts.nd rfl (by first | exact .inl rfl | exact .inr rfl)) pgs_nil))) (pss_cons (ps_set (i := 5) sc_law_parts.nd rfl (by first | exact .inl rfl | exact .inr rfl) (pe_ix ix_list (pv 2) (pv 4) (fun _ _ => rfl)))
      (pss_one (ps_set (i := 2) sc_law_parts.nd rfl (by first | exact .inl rfl | exact .inr rfl) (pe_lc (own := [("part", 6)]) (g := gName 6) (tt := tYes) rfl sc_law_parts.nd (pi_list (pv 2)) (blkOk_by (own := [("part", 6)]) (N := n_law_parts) (sc := defScope s_law_parts) (by decide +kernel)) (fun _ _ _ _ _ => (pg_name (i := 6) sc_law_parts.nd rfl (by first | exact .inl rfl | exact .inr rfl))) (fun _ _ _ _ _ => pts_nil) (fun _ _ _ _ _ => (pe_ifExp (pt_cmpR op_eq (pv 6) (pv 5) (nomark _)) (pe_ix (r := rIxL K) ix_list (pv 2) (pv 3) (fun _ _ => rfl)) (pv 6))))))))
      (pss_one (ps_ret (pv 2))))), ?_⟩
  refine ⟨_, rfl, _, rfl, ⟨by decide, by decide, by omega, by omega, by omega⟩, fun l0 hl0 => ?_⟩
  have x1 := ext_upd (o := .lst (rgV 0 ((n : Nat) : Int))) hl0
  have er : rgV 0 ((n : Nat) : Int) = natV (List.range n) := by
    have e : ((n : Nat) : Int) - 0 = ((n : Nat) : Int) := by omega
    unfold natV rgV
    rw [e, Int.toNat_natCast]
    exact List.map_congr_left fun k _ => by rw [Int.zero_add]
  have k1 : upd H l0 (.lst (rgV 0 ((n : Nat) : Int))) l0 = some (.lst (natV (List.range n))) := by rw [upd_same, er]
  dsimp only [gName]
  generalize upd H l0 (.lst (rgV 0 ((n : Nat) : Int))) = H1 at *
  have lp := hp.length
  refine ⟨_, rfl, pl, rfl, ⟨_, x1.seq hl⟩, for_list (xs := ys) (fun i σ HA => ∃ la z3 z4 z5 z6, σ = [some (.int ((n : Nat) : Int)), some (.ref pl), some (.ref la), z3, z4, z5, z6] ∧ Ext H HA ∧ H la = none ∧ HA la = some (.lst (natV (foldP n (ps.take i))))) ⟨l0, _, _, _, _, rfl, x1, hl0, k1⟩ (fun i σ HA _ h => ?_) (fun i v σ HA hi hP => ?_) (fun σ HA hP => ?_)⟩
  · obtain ⟨_, _, _, _, _, _, sA, _⟩ := h
    exact sA.seq hl
  · obtain ⟨la, z3, z4, z5, z6, rfl, sA, nla, hla⟩ := hP
    obtain ⟨⟨u, v'⟩, hei, a1, rfl, g1⟩ := paired_at (paired_imp (fun _ _ ⟨a, e, h⟩ => ⟨a, e, sA.tup h⟩ : ∀ a b, EndV K H a b → EndV K HA a b) hp) hi
    obtain ⟨hu, hv⟩ := hin _ (List.mem_of_getElem? hei)
    have hu : u < n := hu
    have hv : v' < n := hv
    have fl := foldP_len n (ps.take i)
    have eN := foldP_snoc n (ps.take i) (u, v')
    rw [take_snoc hei]
    generalize hP : foldP n (ps.take i) = P at *
    refine ⟨a1, _, rfl, g1, rfl, _, _, rfl, _, _, rfl, rfl, ?_⟩
    dsimp only [gName]
    refine ⟨_, rfl, _, rfl, la, _, _, _, rfl, rfl, SqL.of hla, nat_at (Int.natCast_nonneg v') (by omega), ?_⟩
    dsimp only [gName]
    refine ⟨_, rfl, la, rfl, ⟨_, SqL.of hla⟩, fun D hD => lc_list (xs := natV P) (fun j HB => Ext HA HB ∧ HB D = some (.lst (natV ((P.take j).map fun a => if a = P.getD v' 0 then P.getD u 0 else a)))) ⟨ext_upd hD, upd_same⟩ (fun j HB _ h => SqL.of (h.1.lst hla)) (fun j x0 HB hj hP2 => ?_) (fun HB hP2 => ?_)⟩
    · obtain ⟨sB, hDB⟩ := hP2
      obtain ⟨c, hc, rfl⟩ : ∃ c : Nat, P[j]? = some c ∧ x0 = V.int ((c : Nat) : Int) := by
        unfold natV at hj
        rw [List.getElem?_map] at hj
        obtain ⟨o, h1, h2⟩ := Option.map_eq_some_iff.mp hj
        exact ⟨o, h1, h2.symm⟩
      have tk : natV ((P.take (j + 1)).map fun a => if a = P.getD v' 0 then P.getD u 0 else a) = natV ((P.take j).map fun a => if a = P.getD v' 0 then P.getD u 0 else a) ++ [V.int ((if c = P.getD v' 0 then P.getD u 0 else c : Nat) : Int)] := by
        rw [take_snoc hc]
        unfold natV
        rw [List.map_append, List.map_append]
        rfl
      have lz : (natV ((P.take j).map fun a => if a = P.getD v' 0 then P.getD u 0 else a)).length < 1000 := by
        unfold natV
        rw [List.length_map, List.length_map, List.length_take]
        omega
      refine ⟨rfl, _, rfl, _, rfl, rfl, _, rfl, iteB (fun z => ?_) (fun z => ?_)⟩
      · have z : c = P.getD v' 0 := Int.ofNat.inj (V.int.inj (of_decide_eq_true z))
        refine ⟨_, rfl, _, rfl, la, _, _, _, rfl, rfl, SqL.of (sB.lst hla), nat_at (Int.natCast_nonneg u) (by omega), _, hDB, sl_lt (by omega), sB.own hD, ?_⟩
        rw [tk, if_pos z, upd_same, Int.toNat_natCast]
      · have z : ¬ c = P.getD v' 0 := fun h => of_decide_eq_false z (by rw [h, Int.toNat_natCast])
        refine ⟨_, rfl, _, hDB, sl_lt (by omega), sB.own hD, ?_⟩
        rw [tk, if_neg z, upd_same]
    · obtain ⟨sB, hDB⟩ := hP2
      rw [show (natV P).length = P.length from List.length_map _, List.take_length] at hDB
      refine ⟨D, _, _, _, _, rfl, sA.trans sB, sA.free hD, ?_⟩
      rw [eN]
      exact hDB
  · obtain ⟨la, z3, z4, z5, z6, rfl, sA, nla, hla⟩ := hP
    rw [lp, List.take_length] at hla
    exact ⟨_, rfl, q la HA sA nla hla⟩
def bitsF (mask n : Nat) : List Nat := (List.range n).filter fun k => mask.testBit k
def spBitsF (K : PySem.W.Frag) : Sp := fun vs H Q _ => ∃ (mask n : Nat), vs = [.int ((mask : Nat) : Int), .int ((n : Nat) : Int)] ∧ n ≤ 30 ∧ ∀ l H', Ext H H' → H l = none → H' l = some (.lst (natV (bitsF mask n))) → Q (.ref l) H'
theorem ok_law_bits (T : Top K mg) : FnOk P w K mg base CX0 2 T.f_law_bits T.d_law_bits ["mask", "count"] (spBitsF K) := by
  refine T.F_law_bits.ok sc_law_bits (fun vs H Q E h => ?_) (fun cdv A outer s H vs Q E hr h => ?_)
  · obtain ⟨mask, n, rfl, _⟩ := h
    rfl
  obtain ⟨mask, n, rfl, n30, q⟩ := h
  refine ⟨_, (pss_one (ps_ret (pe_lc (own := [("k", 2)]) (g := gName 2) rfl sc_law_bits.nd (pi_range1 (by rfl) T.m_range (pa_cons (pv 1) pa_nil)) (blkOk_by (own := [("k", 2)]) (N := n_law_bits) (sc := defScope s_law_bits) (by decide +kernel)) (fun _ _ _ _ _ => (pg_name (i := 2) sc_law_bits.nd rfl (by first | exact .inl rfl | exact .inr rfl))) (fun _ _ _ _ _ => pts_one (AUG.pt_truthI (pe_op op_and (pe_op op_shr (pv 0) (pv 2)) pe_int) (by intro _; rfl))) (fun _ _ _ _ _ => (pv 2))))), ?_⟩
  refine ⟨_, rfl, _, rfl, by omega, by omega, fun D hD => lc_range (lo := 0) (n := n) (fun i H3 => Ext H H3 ∧ H3 D = some (.lst (natV (bitsF mask i)))) ⟨ext_upd hD, upd_same⟩ (fun i H3 hi hP => ?_) (fun H3 hP => ?_)⟩
  · obtain ⟨s3, h3⟩ := hP
    have z0 : (0 : Int) + ((i : Nat) : Int) = ((i : Nat) : Int) := Int.zero_add _
    have sn : bitsF mask (i + 1) = bitsF mask i ++ if mask.testBit i = true then [i] else [] := by
      unfold bitsF
      rw [List.range_succ, List.filter_append]
      congr 1
      cases h : mask.testBit i <;> simp [h]
    have lb : (bitsF mask i).length ≤ i := by
      unfold bitsF
      refine Nat.le_trans (List.length_filter_le _ _) ?_
      rw [List.length_range]
      exact Nat.le_refl _
    dsimp only [gName]
    rw [z0]
    refine ⟨rfl, _, rfl, _, rfl, _, _, rfl, rfl, by omega, _, _, rfl, rfl, _, rfl, ?_⟩
    dsimp only
    rw [tbn]
    refine iteB (fun z => ?_) (fun z => ?_)
    · refine ⟨_, rfl, _, h3, sl_lt (by unfold natV; rw [List.length_map]; omega), s3.own hD, ?_⟩
      rw [upd_same, sn, if_pos z]
      unfold natV
      rw [List.map_append]
      rfl
    · refine ⟨s3, ?_⟩
      rw [sn, if_neg (by rw [z]; decide), List.append_nil]
      exact h3
  · exact q D H3 hP.1 hD hP.2
theorem in_bitsF {mask n k : Nat} (hk : k < n) : inV (.int ((k : Nat) : Int)) (natV (bitsF mask n)) = mask.testBit k := by
  unfold inV natV bitsF
  rw [List.any_map]
  cases h : mask.testBit k with
  | true =>
    refine List.any_eq_true.mpr ⟨k, List.mem_filter.mpr ⟨List.mem_range.mpr hk, h⟩, ?_⟩
    show eqV (.int ((k : Nat) : Int)) (.int ((k : Nat) : Int)) = true
    simp [eqV]
  | false =>
    refine List.any_eq_false.mpr fun j hj z => ?_
    have z : eqV (.int ((j : Nat) : Int)) (.int ((k : Nat) : Int)) = true := z
    have e : j = k := by
      have : ((j : Nat) : Int) = ((k : Nat) : Int) := by simpa [eqV] using z
      omega
    rw [e] at hj
    have := (List.mem_filter.mp hj).2
    rw [h] at this
    cases this
theorem partsK_fold (n : Nat) (es : List Eg) (mask : Nat) : ∀ K, partsK n es K mask = foldP n ((bitsF mask K).map fun k => ((egA es k).1.toNat, (egA es k).2.1.toNat))
  | 0 => rfl
  | K + 1 => by
    have sn : bitsF mask (K + 1) = bitsF mask K ++ if mask.testBit K = true then [K] else [] := by
      unfold bitsF
      rw [List.range_succ, List.filter_append]
      congr 1
      cases h : mask.testBit K <;> simp [h]
    rw [partsK, partsK_fold n es mask K, sn]
    by_cases h : mask.testBit K = true
    · rw [if_pos h, if_pos h, List.map_append]
      exact (foldP_snoc n ((bitsF mask K).map fun k => ((egA es k).1.toNat, (egA es k).2.1.toNat)) ((egA es K).1.toNat, (egA es K).2.1.toNat)).symm
    · rw [if_neg h, if_neg h, List.append_nil]
/-! ### what the law has for a set of edges -/
def whF (fs : List Int) (x y : Rat) (p : List Nat) (a : Nat) : Rat := if ownL fs.length p a = [] then 1 else 1 + wO fs x y (ownL fs.length p a)
theorem wO_izJ {fs : List Int} {x y : Rat} (bx : Bz 4 x) (bY : Bz 4 y) (px : 0 < x) (py : 0 < y) (hs : ∀ f ∈ fs, -2 ≤ f ∧ f ≤ 2) {own : List Nat} (hi : ∀ k ∈ own, k < fs.length) (l5 : own.length ≤ 5) : Iz (gX x ^ 10 * gX y ^ 5) (2 ^ 120) (wO fs x y own) ∧ (own.map fun k => fs.getD k 0).sum.natAbs ≤ 10 := by
  have sb := sum_bound (c := 2) (l := own.map fun j => fs.getD j 0) fun z hz => by
    obtain ⟨j, mj, rfl⟩ := List.mem_map.mp hz
    have hj := hi j mj
    rw [List.getD_eq_getElem?_getD, List.getElem?_eq_getElem hj]
    exact hs _ (List.getElem_mem hj)
  rw [List.length_map] at sb
  have hb : (own.map fun k => fs.getD k 0).sum.natAbs ≤ 10 := by omega
  have h := (iz_rpG bx px hb).mul (iz_rpG bY py (e := ((own.length : Nat) : Int)) (E := 5) (by omega))
  rw [← Nat.pow_add] at h
  exact ⟨h, hb⟩
theorem own_le {fs : List Int} {p : List Nat} (a : Nat) : (ownL fs.length p a).length ≤ fs.length ∧ ∀ k ∈ ownL fs.length p a, k < fs.length := by
  refine ⟨?_, fun k m => List.mem_range.mp (List.mem_filter.mp m).1⟩
  refine Nat.le_trans (List.length_filter_le _ _) ?_
  rw [List.length_range]
  exact Nat.le_refl _
theorem one_izJ {x y : Rat} (bx : Bz 4 x) (bY : Bz 4 y) : Iz (gX x ^ 10 * gX y ^ 5) (2 ^ 120) 1 := by
  have h := (iz_one bx 10).mul (iz_one bY 5)
  rw [← Nat.pow_add, Rat.mul_one] at h
  exact h
theorem whF_iz {fs : List Int} {x y : Rat} (bx : Bz 4 x) (bY : Bz 4 y) (px : 0 < x) (py : 0 < y) (hs : ∀ f ∈ fs, -2 ≤ f ∧ f ≤ 2) (l5 : fs.length ≤ 5) (p : List Nat) (a : Nat) : Iz (gX x ^ 10 * gX y ^ 5) (2 ^ 121) (whF fs x y p a) := by
  have one := one_izJ (x := x) (y := y) bx bY
  unfold whF
  split
  · exact one.le (Nat.pow_le_pow_right (by decide) (by decide))
  · exact one.add (wO_izJ bx bY px py hs (own_le a).2 (Nat.le_trans (own_le a).1 l5)).1
def lwD (x y : Rat) (e k : Nat) : Nat := gX x ^ (9 * e) * (gX x ^ 10 * gX y ^ 5) ^ k
theorem lw_iz {fs : List Int} {x y : Rat} (bx : Bz 4 x) (bY : Bz 4 y) (px : 0 < x) (py : 0 < y) (hs : ∀ f ∈ fs, -2 ≤ f ∧ f ≤ 2) (l5 : fs.length ≤ 5) (p : List Nat) {es : List Eg} (h9 : ∀ e ∈ es, -9 ≤ e.2.2 ∧ e.2.2 ≤ 9) (mask : Nat) {e : Nat} (he : e ≤ es.length) : ∀ k, Iz (lwD x y e k) (2 ^ (73 * e) * (2 ^ 121) ^ k) (setK x es e mask * lprod ((List.range k).map (whF fs x y p)))
  | 0 => by
    show Iz (gX x ^ (9 * e) * 1) (2 ^ (73 * e) * 1) (setK x es e mask * 1)
    rw [Nat.mul_one, Nat.mul_one, Rat.mul_one]
    exact setK_iz bx px h9 mask e he
  | k + 1 => by
    have ih := lw_iz bx bY px py hs l5 p h9 mask he k
    rw [List.range_succ, List.map_append, List.map_singleton, lprod_snoc, ← Rat.mul_assoc]
    have h2 := whF_iz bx bY px py hs l5 p k
    unfold lwD at ih ⊢
    generalize gX x ^ 10 * gX y ^ 5 = M at *
    generalize 2 ^ 121 = M2 at *
    rw [Nat.pow_succ, Nat.pow_succ, ← Nat.mul_assoc, ← Nat.mul_assoc]
    exact ih.mul h2
theorem lw_sm {fs : List Int} {x y : Rat} (bx : Bz 4 x) (bY : Bz 4 y) (px : 0 < x) (py : 0 < y) (hs : ∀ f ∈ fs, -2 ≤ f ∧ f ≤ 2) (l5 : fs.length ≤ 5) (p : List Nat) {es : List Eg} (h9 : ∀ e ∈ es, -9 ≤ e.2.2 ∧ e.2.2 ≤ 9) (mask : Nat) {e : Nat} (he : e ≤ es.length) (e8 : e ≤ 8) {k : Nat} (hk : k ≤ 5) : Sm (setK x es e mask * lprod ((List.range k).map (whF fs x y p))) := by
  have gx : 0 < gX x := Nat.pos_of_ne_zero (gX_ne px)
  have gy : 0 < gX y := Nat.pos_of_ne_zero (gX_ne py)
  refine SM.sm_of (lw_iz bx bY px py hs l5 p h9 mask he k) (Nat.pos_iff_ne_zero.mp (Nat.mul_pos (Nat.pow_pos gx) (Nat.pow_pos (Nat.mul_pos (Nat.pow_pos gx) (Nat.pow_pos gy))))) ?_ ?_
  · have h : lwD x y e k ≤ 2 ^ (8 * (9 * e)) * (2 ^ (8 * 10) * 2 ^ (8 * 5)) ^ k := Nat.mul_le_mul (gX_pow_le bx _) (Nat.pow_le_pow_left (Nat.mul_le_mul (gX_pow_le bx _) (gX_pow_le bY _)) _)
    rw [← Nat.pow_add, ← Nat.pow_mul, ← Nat.pow_add] at h
    exact Nat.lt_of_le_of_lt h (Nat.pow_lt_pow_right (by decide) (by omega))
  · rw [← Nat.pow_mul, ← Nat.pow_add]
    exact Nat.pow_lt_pow_right (by decide) (by omega)
def spLSW (K : PySem.W.Frag) : Sp := fun vs H Q _ => ∃ (fa ea cl xa ya : Addr) (fs : List Int) (xs : List V) (es : List Eg) (mask : Nat) (x y : Rat), vs = [.ref fa, .ref ea, .ref cl, .ref xa, .ref ya] ∧ SqL K H fa (fs.map V.int) ∧ SqL K H ea xs ∧ Paired (EdgeAt K H) xs es ∧ SqL K H cl (natV (bitsF mask es.length)) ∧ Fr K H xa (fq x) ∧ Fr K H ya (fq y) ∧ Bz 4 x ∧ Bz 4 y ∧ 0 < x ∧ 0 < y ∧ (∀ f ∈ fs, -2 ≤ f ∧ f ≤ 2) ∧ fs.length ≤ 5 ∧ es.length ≤ 8 ∧ (∀ e ∈ es, -9 ≤ e.2.2 ∧ e.2.2 ≤ 9) ∧ (∀ e ∈ es, 0 ≤ e.1 ∧ e.1 < (fs.length : Int) ∧ 0 ≤ e.2.1 ∧ e.2.1 < (fs.length : Int)) ∧
  ∀ q H', Ext H H' → Fr K H' q (fq (setK x es es.length mask * whole fs x y (partsK fs.length es es.length mask))) → Q (.ref q) H'
theorem ok_law_set_weight (T : Top K mg) : FnOk P w K mg base CX0 5 T.f_law_set_weight T.d_law_set_weight ["fields", "edges", "chosen", "x", "y"] (spLSW K) := by
  refine T.F_law_set_weight.ok sc_law_set_weight (fun vs H Q E h => ?_) (fun cdv A outer s H vs Q E hr h => ?_)
  · obtain ⟨fa, ea, cl, xa, ya, fs, xs, es, mask, x, y, rfl, _⟩ := h
    rfl
  obtain ⟨fa, ea, cl, xa, ya, fs, xs, es, mask, x, y, rfl, hfa, hea, hes, hcl, hx, hy, bx, bY, px, py, hs, n5, l8, h9, hin, q⟩ := h
  refine ⟨_, (pss_cons (ps_set (i := 5) sc_law_set_weight.nd rfl (by first | exact .inl rfl | exact .inr rfl) (pe_tup (pa_cons pe_int (pa_cons pe_int pa_nil))))
      (pss_cons (ps_for PassesOwn.never rfl (pi_range1 (by rfl) T.m_range (pa_cons (pe_callB call_len_seq (by rfl) T.m_len (by decide +kernel) (pa_cons (pv 1) pa_nil)) pa_nil)) (pg_name (i := 6) sc_law_set_weight.nd rfl (by first | exact .inl rfl | exact .inr rfl)) (pss_cons (ps_set (i := 7) sc_law_set_weight.nd rfl (by first | exact .inl rfl | exact .inr rfl) (pe_call (ok_law_rp T) (hr.mono (by decide)) (by rfl) T.g_law_pow T.F_law_pow.kp T.b_law_pow .nil pass0 (pa_cons (pv 3) (pa_cons (pe_ix ix_tup (pe_ix ix_list (pv 1) (pv 6) (fun _ _ => rfl)) pe_int (fun _ _ => rfl)) pa_nil))))
      (pss_one (ps_set (i := 5) sc_law_set_weight.nd rfl (by first | exact .inl rfl | exact .inr rfl) (pe_call (ok_law_mul T) (hr.mono (by decide)) (by rfl) T.g_law_mul T.F_law_mul.kp T.b_law_mul .nil pass0 (pa_cons (pv 5) (pa_cons (pe_ifExp (pt_cmpR op_in_seq (pv 6) (pv 2) (by rfl)) (pe_call (ok_law_add T) (hr.mono (by decide)) (by rfl) T.g_law_add T.F_law_add.kp T.b_law_add .nil pass0 (pa_cons (pe_tup (pa_cons pe_int (pa_cons pe_int pa_nil))) (pa_cons (pe_tup (pa_cons (pe_un un_neg (pe_ix ix_tup (pv 7) pe_int (fun _ _ => rfl))) (pa_cons (pe_ix ix_tup (pv 7) pe_int (fun _ _ => rfl)) pa_nil))) pa_nil))) (pv 7)) pa_nil)))))))
      (pss_cons (ps_set (i := 8) sc_law_set_weight.nd rfl (by first | exact .inl rfl | exact .inr rfl) (pe_call (ok_law_parts T) (hr.mono (by decide)) (by rfl) T.g_law_parts T.F_law_parts.kp T.b_law_parts .nil pass0 (pa_cons (pe_callB call_len_seq (by rfl) T.m_len (by decide +kernel) (pa_cons (pv 0) pa_nil)) (pa_cons (pe_lc (own := [("k", 6)]) (g := gName 6) (tt := tYes) rfl sc_law_set_weight.nd (pi_list (pv 2)) (blkOk_by (own := [("k", 6)]) (N := n_law_set_weight) (sc := defScope s_law_set_weight) (by decide +kernel)) (fun _ _ _ _ _ => (pg_name (i := 6) sc_law_set_weight.nd rfl (by first | exact .inl rfl | exact .inr rfl))) (fun _ _ _ _ _ => pts_nil) (fun _ _ _ _ _ => (pe_slice (r := rSlA K) sl_tupA (pe_ix (r := rIxL K) ix_list (pv 1) (pv 6) (fun _ _ => rfl)) po_none (po_some pe_int)))) pa_nil))))
      (pss_cons (ps_for PassesOwn.never rfl (pi_range1 (by rfl) T.m_range (pa_cons (pe_callB call_len_seq (by rfl) T.m_len (by decide +kernel) (pa_cons (pv 8) pa_nil)) pa_nil)) (pg_name (i := 9) sc_law_set_weight.nd rfl (by first | exact .inl rfl | exact .inr rfl)) (pss_cons (ps_setLc (i := 10) (own := [("k", 6)]) (g := gName 6) rfl sc_law_set_weight.nd rfl rfl (sw_true rfl rfl rfl (by decide +kernel)) (pi_range1 (by rfl) T.m_range (pa_cons (pe_callB call_len_seq (by rfl) T.m_len (by decide +kernel) (pa_cons (pv 8) pa_nil)) pa_nil)) (blkOk_by (own := [("k", 6)]) (N := n_law_set_weight) (sc := defScope s_law_set_weight) (by decide +kernel)) (fun _ _ _ _ _ => (pg_name (i := 6) sc_law_set_weight.nd rfl (by first | exact .inl rfl | exact .inr rfl))) (fun _ _ _ _ _ => pts_one (pt_cmpR op_eq (pe_ix (r := rIxL K) ix_list (pv 8) (pv 6) (fun _ _ => rfl)) (pv 9) (nomark _))) (fun _ _ _ _ _ => (pv 6)))
      (pss_one (ps_if (pt_cmpR op_gt (pe_callB call_len_seq (by rfl) T.m_len (by decide +kernel) (pa_cons (pv 10) pa_nil)) pe_int (nomark _)) (pss_cons (ps_set (i := 11) sc_law_set_weight.nd rfl (by first | exact .inl rfl | exact .inr rfl) (pe_call (ok_law_mul T) (hr.mono (by decide)) (by rfl) T.g_law_mul T.F_law_mul.kp T.b_law_mul .nil pass0 (pa_cons (pe_call (ok_law_rp T) (hr.mono (by decide)) (by rfl) T.g_law_pow T.F_law_pow.kp T.b_law_pow .nil pass0 (pa_cons (pv 3) (pa_cons (pe_callB (cr_sum rfl) (by rfl) T.m_sum (by decide +kernel) (pa_cons (pe_lc (own := [("k", 6)]) (g := gName 6) (tt := tYes) rfl sc_law_set_weight.nd (pi_list (pv 10)) (blkOk_by (own := [("k", 6)]) (N := n_law_set_weight) (sc := defScope s_law_set_weight) (by decide +kernel)) (fun _ _ _ _ _ => (pg_name (i := 6) sc_law_set_weight.nd rfl (by first | exact .inl rfl | exact .inr rfl))) (fun _ _ _ _ _ => pts_nil) (fun _ _ _ _ _ => (pe_ix (r := rIxL K) ix_list (pv 0) (pv 6) (fun _ _ => rfl)))) pa_nil)) pa_nil))) (pa_cons (pe_call (ok_law_rp T) (hr.mono (by decide)) (by rfl) T.g_law_pow T.F_law_pow.kp T.b_law_pow .nil pass0 (pa_cons (pv 4) (pa_cons (pe_callB call_len_seq (by rfl) T.m_len (by decide +kernel) (pa_cons (pv 10) pa_nil)) pa_nil))) pa_nil))))
      (pss_one (ps_set (i := 5) sc_law_set_weight.nd rfl (by first | exact .inl rfl | exact .inr rfl) (pe_call (ok_law_mul T) (hr.mono (by decide)) (by rfl) T.g_law_mul T.F_law_mul.kp T.b_law_mul .nil pass0 (pa_cons (pv 5) (pa_cons (pe_call (ok_law_add T) (hr.mono (by decide)) (by rfl) T.g_law_add T.F_law_add.kp T.b_law_add .nil pass0 (pa_cons (pe_tup (pa_cons pe_int (pa_cons pe_int pa_nil))) (pa_cons (pv 11) pa_nil))) pa_nil)))))) pss_nil))))
      (pss_one (ps_ret (pv 5))))))), ?_⟩
  have nx : x ≠ 0 := fun h => Rat.lt_irrefl (h ▸ px)
  have ny : y ≠ 0 := fun h => Rat.lt_irrefl (h ▸ py)
  have lx := hes.length
  refine ⟨sl2, fun t0 h0 => ?_⟩
  have x0 := ext_upd (o := .tup [.int 1, .int 1]) h0
  have k0 : SqT K (upd H t0 (.tup [.int 1, .int 1])) t0 [.int 1, .int 1] := SqT.of upd_same
  dsimp only [gName]
  generalize upd H t0 (.tup [.int 1, .int 1]) = H0 at *
  refine ⟨_, rfl, ea, _, rfl, .inl (x0.seq hea), _, rfl, by omega, by omega, for_range (n := xs.length) (fun k σ HA => (∃ ca z6 z7 z8 z9 z10 z11, σ = [some (.ref fa), some (.ref ea), some (.ref cl), some (.ref xa), some (.ref ya), some (.ref ca), z6, z7, z8, z9, z10, z11] ∧ Fr K HA ca (fq (setK x es k mask))) ∧ Ext H HA) ⟨⟨t0, _, _, _, _, _, _, rfl, k0⟩, x0⟩ (fun k σ HA hk hP => ?_) (fun σ HA hP => ?_)⟩
  · obtain ⟨⟨ca, z6, z7, z8, z9, z10, z11, rfl, hca⟩, sA⟩ := hP
    have z0 : (0 : Int) + ((k : Nat) : Int) = ((k : Nat) : Int) := Int.zero_add _
    have hk' : k < es.length := by omega
    have eA : egA es k = es[k] := by
      unfold egA
      rw [List.getD_eq_getElem?_getD, List.getElem?_eq_getElem hk']
      rfl
    obtain ⟨ve, hve⟩ : ∃ ve, xs[k]? = some ve := ⟨_, List.getElem?_eq_getElem (by omega)⟩
    obtain ⟨⟨u, v, j⟩, hek, a1, rfl, g1⟩ := paired_at (sA.edges hes) hve
    have ek : es[k] = (u, v, j) := Option.some.inj ((List.getElem?_eq_getElem hk').symm.trans hek)
    obtain ⟨j0, j9⟩ := h9 _ (List.mem_of_getElem? hek)
    have j0 : -9 ≤ j := j0
    have j9 : j ≤ 9 := j9
    have g1 : SqT K HA a1 [.int u, .int v, .int j] := g1
    have ksm : Sm (setK x es k mask) := by
      have := lw_sm bx bY px py hs n5 [] h9 mask (Nat.le_of_lt hk') (by omega) (k := 0) (by decide)
      have e : lprod ((List.range 0).map (whF fs x y [])) = 1 := rfl
      rwa [e, Rat.mul_one] at this
    have kstep : setK x es (k + 1) mask = setK x es k mask * if mask.testBit k = true then 1 - rp x j else rp x j := by
      rw [setK, eA, ek]
    have smL : Sm (rp x j) := sm_rp (sm12_of bx) nx (by omega)
    have smF : Sm (1 - rp x j) := by
      have hb := (set_fizJ bx px (h9 _ (List.mem_of_getElem? hek))).2
      exact SM.sm_of hb (Nat.pos_iff_ne_zero.mp (Nat.pow_pos (Nat.pos_of_ne_zero (gX_ne px)))) (Nat.lt_of_le_of_lt (gX_pow_le bx 9) (Nat.pow_lt_pow_right (by decide) (by decide))) (Nat.pow_lt_pow_right (by decide) (by decide))
    dsimp only [gName]
    rw [z0]
    refine ⟨_, rfl, _, rfl, _, rfl, ea, _, _, .ref a1, rfl, rfl, sA.seq hea, atI_nat hve, a1, _, _, _, rfl, rfl, g1, atI_nat (j := 2) rfl, xa, x, j, rfl, sm12_of bx, by omega, fun _ => nx, sA.tup hx, fun lf HB sB hlf => ?_⟩
    have sAB := sA.trans sB.ext
    dsimp only [gName]
    have flat : (natV (bitsF mask es.length)).all flatV = true := List.all_eq_true.mpr fun x hx => by
      obtain ⟨k, _, rfl⟩ := List.mem_map.mp hx
      rfl
    refine ⟨_, rfl, _, rfl, _, rfl, cl, _, rfl, .inl (sAB.seq hcl), rfl, flat, _, rfl, ?_⟩
    refine iteB (fun zb => ?_) (fun zb => ?_)
    · have zb : mask.testBit k = true := (in_bitsF hk').symm.trans zb
      rw [zb, if_pos rfl] at kstep
      refine ⟨sl2, fun t1 h1 => ⟨_, rfl, lf, _, _, _, rfl, rfl, (ext_upd h1).tup hlf, atI_nat (j := 0) rfl, _, rfl, _, rfl, lf, _, _, _, rfl, rfl, (ext_upd h1).tup hlf, atI_nat (j := 1) rfl, sl2, fun t2 h2 => ?_⟩⟩
      have y1 := ext_upd (o := .tup [.int 1, .int 1]) h1
      have m1 : upd HB t1 (.tup [.int 1, .int 1]) t1 = some (.tup [.int 1, .int 1]) := upd_same
      generalize upd HB t1 (.tup [.int 1, .int 1]) = HC at *
      have y2 := ext_upd (o := .tup [.int (-(fq (rp x j)).1), .int (fq (rp x j)).2]) h2
      have m2 : upd HC t2 (.tup [.int (-(fq (rp x j)).1), .int (fq (rp x j)).2]) t2 = some (.tup [.int (-(fq (rp x j)).1), .int (fq (rp x j)).2]) := upd_same
      have smN : Sm (-(rp x j)) := ⟨by show (-(fq (rp x j)).1).natAbs < _; rw [Int.natAbs_neg]; exact smL.1, smL.2⟩
      refine ⟨t1, t2, fq 1, fq (-(rp x j)), rfl, y2.tup (SqT.of m1), SqT.of m2, okA_of sm_one smN, fun pm HD sD nD hpm => ?_⟩
      rw [SM.addF_fq, ← Rat.sub_eq_add_neg] at hpm
      have sCD := (y1.trans y2).trans sD.ext
      refine ⟨ca, pm, _, _, rfl, (sB.ext.trans sCD).tup hca, SqT.of hpm, okA_of ksm smF, fun pn HE sE nE hpn => ?_⟩
      rw [SM.mulF_fq, ← kstep] at hpn
      exact ⟨⟨pn, _, _, _, _, _, _, rfl, SqT.of hpn⟩, sAB.trans (sCD.trans sE.ext)⟩
    · have zb : mask.testBit k = false := (in_bitsF hk').symm.trans zb
      rw [zb, if_neg (by decide)] at kstep
      refine ⟨_, rfl, ca, lf, _, _, rfl, sB.fr hca, hlf, okA_of ksm smL, fun pn HE sE nE hpn => ?_⟩
      rw [SM.mulF_fq, ← kstep] at hpn
      exact ⟨⟨pn, _, _, _, _, _, _, rfl, SqT.of hpn⟩, sAB.trans sE.ext⟩
  · obtain ⟨⟨ca, z6, z7, z8, z9, z10, z11, rfl, hca⟩, sA⟩ := hP
    rw [lx] at hca
    dsimp only [gName]
    have lfv : (fs.map V.int).length = fs.length := List.length_map _
    have hclA := sA.seq hcl
    have hesA := sA.edges hes
    have heaA := sA.seq hea
    refine ⟨_, rfl, fa, _, rfl, .inl (sA.seq hfa), _, rfl, cl, rfl, ⟨_, hclA⟩, fun D hD => lc_list (xs := natV (bitsF mask es.length)) (fun j2 HG => Ext HA HG ∧ ∃ zs, HG D = some (.lst zs) ∧ Paired (EndV K HG) zs (((bitsF mask es.length).take j2).map fun k => ((egA es k).1.toNat, (egA es k).2.1.toNat))) ⟨ext_upd hD, [], upd_same, .nil⟩ (fun j2 HG _ h => h.1.seq hclA) (fun j2 x9 HG hj2 hP3 => ?_) (fun HG hP3 => ?_)⟩
    · obtain ⟨sG, zs, hzs, hpz⟩ := hP3
      obtain ⟨k, hk, rfl⟩ : ∃ k : Nat, (bitsF mask es.length)[j2]? = some k ∧ x9 = V.int ((k : Nat) : Int) := by
        unfold natV at hj2
        rw [List.getElem?_map] at hj2
        obtain ⟨o, h1, h2⟩ := Option.map_eq_some_iff.mp hj2
        exact ⟨o, h1, h2.symm⟩
      have kl : k < es.length := List.mem_range.mp (List.mem_filter.mp (List.mem_of_getElem? hk)).1
      have eA' : egA es k = es[k] := by
        unfold egA
        rw [List.getD_eq_getElem?_getD, List.getElem?_eq_getElem kl]
        rfl
      obtain ⟨ve, hve⟩ : ∃ ve, xs[k]? = some ve := ⟨_, List.getElem?_eq_getElem (by omega)⟩
      obtain ⟨⟨u, v, j⟩, hek, ae, rfl, g1⟩ := paired_at (sG.edges hesA) hve
      have ek : es[k] = (u, v, j) := Option.some.inj ((List.getElem?_eq_getElem kl).symm.trans hek)
      obtain ⟨u0, u1, v0, v1⟩ := hin _ (List.mem_of_getElem? hek)
      have u0 : 0 ≤ u := u0
      have v0 : 0 ≤ v := v0
      have g1 : SqT K HG ae [.int u, .int v, .int j] := g1
      have lb : (bitsF mask es.length).length ≤ es.length := by
        unfold bitsF
        refine Nat.le_trans (List.length_filter_le _ _) ?_
        rw [List.length_range]
        exact Nat.le_refl _
      have lz := hpz.length
      rw [List.length_map, List.length_take] at lz
      refine ⟨rfl, _, rfl, _, rfl, ea, _, _, .ref ae, rfl, rfl, sG.seq heaA, atI_nat hve, ?_⟩
      unfold tNoPart
      refine ⟨_, rfl, ae, _, rfl, g1, fun w => absurd w cut2, fun _ p9 hp9 => ?_⟩
      have w9 := ext_upd (o := .tup (cutV [V.int u, .int v, .int j] none (some 2))) hp9
      have hzs9 := w9.lst hzs
      refine ⟨zs, hzs9, sl_lt (by omega), (sG.trans w9).own hD, zs ++ [.ref p9], upd_same, ?_⟩
      rw [take_snoc hk, List.map_append]
      refine paired_imp (fun _ _ ⟨a, e, g⟩ => ⟨a, e, sqt_updL hzs9 g⟩ : ∀ a b, EndV K _ a b → EndV K _ a b) (paired_snoc (paired_imp (fun _ _ ⟨a, e, g⟩ => ⟨a, e, w9.tup g⟩ : ∀ a b, EndV K _ a b → EndV K _ a b) hpz) ⟨p9, rfl, SqT.of ?_⟩)
      dsimp only
      rw [upd_same, eA', ek]
      show some (HO.tup [V.int u, V.int v]) = some (HO.tup [V.int ((u.toNat : Nat) : Int), .int ((v.toNat : Nat) : Int)])
      rw [Int.toNat_of_nonneg u0, Int.toNat_of_nonneg v0]
    · obtain ⟨sG, zs, hzs, hpz⟩ := hP3
      rw [show (natV (bitsF mask es.length)).length = (bitsF mask es.length).length from List.length_map _, List.take_length] at hpz
      refine ⟨fs.length, D, zs, _, by rw [lfv]; rfl, by omega, SqL.of hzs, hpz, fun e me => ?_, fun pl HH sH npl hpl => ?_⟩
      · obtain ⟨k, mk, rfl⟩ := List.mem_map.mp me
        have kl : k < es.length := List.mem_range.mp (List.mem_filter.mp mk).1
        have eA' : egA es k = es[k] := by
          unfold egA
          rw [List.getD_eq_getElem?_getD, List.getElem?_eq_getElem kl]
          rfl
        obtain ⟨u0, u1, v0, v1⟩ := hin _ (List.getElem_mem kl)
        rw [eA']
        exact ⟨by omega, by omega⟩
      rw [← partsK_fold] at hpl
      have lP : (partsK fs.length es es.length mask).length = fs.length := by
        rw [partsK_fold]
        exact foldP_len fs.length _
      have q2 : ∀ q' H', Ext H H' → Fr K H' q' (fq (setK x es es.length mask * lprod ((List.range fs.length).map (whF fs x y (partsK fs.length es es.length mask))))) → Q (.ref q') H' := q
      generalize partsK fs.length es es.length mask = p at *
      have sAH := sA.trans (sG.trans sH)
      have hca2 := (sG.trans sH).tup hca
      have smw : ∀ k ≤ 5, Sm (setK x es es.length mask * lprod ((List.range k).map (whF fs x y p))) := fun k hk => lw_sm bx bY px py hs n5 p h9 mask (Nat.le_refl _) l8 hk
      have smh : ∀ a, Sm (whF fs x y p a) := fun a => by
        have h := whF_iz bx bY px py hs n5 p a
        have gx : 0 < gX x := Nat.pos_of_ne_zero (gX_ne px)
        have gy : 0 < gX y := Nat.pos_of_ne_zero (gX_ne py)
        refine SM.sm_of h (Nat.pos_iff_ne_zero.mp (Nat.mul_pos (Nat.pow_pos gx) (Nat.pow_pos gy))) (Nat.lt_of_le_of_lt (Nat.mul_le_mul (gX_pow_le bx 10) (gX_pow_le bY 5)) ?_) (Nat.pow_lt_pow_right (by decide) (by decide))
        rw [← Nat.pow_add]
        exact Nat.pow_lt_pow_right (by decide) (by decide)
      have lnv : (natV p).length = fs.length := (List.length_map _).trans lP
      have q3 : ∀ q' H', Ext H H' → Fr K H' q' (fq (setK x es es.length mask * lprod ((List.range fs.length).map (whF fs x y p)))) → Q (.ref q') H' := q2
      generalize setK x es es.length mask = S at *
      dsimp only [gName]
      refine ⟨_, rfl, pl, _, rfl, .inl (SqL.of hpl), _, rfl, by omega, by omega, for_range (n := (natV p).length) (fun k σ HI => (∃ ca z6 z7 z9 z10 z11, σ = [some (.ref fa), some (.ref ea), some (.ref cl), some (.ref xa), some (.ref ya), some (.ref ca), z6, z7, some (.ref pl), z9, z10, z11] ∧ Fr K HI ca (fq (S * lprod ((List.range k).map (whF fs x y p))))) ∧ Ext H HI ∧ HI pl = some (.lst (natV p))) ⟨⟨ca, _, _, _, _, _, rfl, ?_⟩, sAH, hpl⟩ (fun k σ HI hk hP => ?_) (fun σ HI hP => ?_)⟩
      · have e : lprod ((List.range 0).map (whF fs x y p)) = 1 := rfl
        rw [e, Rat.mul_one]
        exact hca2
      · obtain ⟨⟨ca, z6, z7, z9, z10, z11, rfl, hca⟩, sI, hplI⟩ := hP
        have z0 : (0 : Int) + ((k : Nat) : Int) = ((k : Nat) : Int) := Int.zero_add _
        dsimp only [gName]
        rw [z0]
        have hplA : SqL K HI pl (natV p) := SqL.of hplI
        refine ⟨_, rfl, pl, _, rfl, .inl hplA, _, rfl, by omega, by omega, fun D hD => lc_range (lo := 0) (n := (natV p).length) (fun i HB => Ext HI HB ∧ HB D = some (.lst (natV ((List.range i).filter fun j => decide (p.getD j 0 = k))))) ⟨ext_upd hD, upd_same⟩ (fun i HB hi hP2 => ?_) (fun HB hP2 => ?_)⟩
        · obtain ⟨sB, hDB⟩ := hP2
          have zi : (0 : Int) + ((i : Nat) : Int) = ((i : Nat) : Int) := Int.zero_add _
          dsimp only [gName]
          rw [zi]
          have lf : ((List.range i).filter fun j => decide (p.getD j 0 = k)).length ≤ i := by
            refine Nat.le_trans (List.length_filter_le _ _) ?_
            rw [List.length_range]
            exact Nat.le_refl _
          have lf2 : (natV ((List.range i).filter fun j => decide (p.getD j 0 = k))).length = ((List.range i).filter fun j => decide (p.getD j 0 = k)).length := List.length_map _
          refine ⟨rfl, _, rfl, _, rfl, pl, _, _, _, rfl, rfl, sB.seq hplA, nat_at (Int.natCast_nonneg i) (by omega), _, rfl, rfl, _, rfl, iteB (fun z => ?_) (fun z => ?_)⟩
          · have z : p.getD i 0 = k := Int.ofNat.inj (V.int.inj (of_decide_eq_true z))
            refine ⟨_, rfl, _, hDB, sl_lt (by omega), sB.own hD, ?_⟩
            rw [upd_same, List.range_succ, List.filter_append, List.filter_cons_of_pos (by exact decide_eq_true z)]
            unfold natV
            rw [List.map_append]
            rfl
          · have z : ¬ p.getD i 0 = k := fun h => of_decide_eq_false z (by rw [Int.toNat_natCast, h])
            refine ⟨sB, ?_⟩
            rw [List.range_succ, List.filter_append, List.filter_cons_of_neg (by rw [decide_eq_false z]; decide), List.filter_nil, List.append_nil]
            exact hDB
        · obtain ⟨sB, hDB⟩ := hP2
          rw [lnv] at hDB
          have hDB : HB D = some (.lst (natV (ownL fs.length p k))) := hDB
          obtain ⟨lo5, hm⟩ := own_le (fs := fs) (p := p) k
          have hwF : whF fs x y p k = if ownL fs.length p k = [] then 1 else 1 + wO fs x y (ownL fs.length p k) := rfl
          obtain ⟨izO, b10⟩ := wO_izJ bx bY px py hs hm (by omega)
          have wstep : S * lprod ((List.range (k + 1)).map (whF fs x y p)) = S * lprod ((List.range k).map (whF fs x y p)) * whF fs x y p k := by
            rw [List.range_succ, List.map_append, List.map_singleton, lprod_snoc, Rat.mul_assoc]
          have smk := smw k (by omega)
          have smhk := smh k
          generalize ownL fs.length p k = own at *
          have lnO : (natV own).length = own.length := List.length_map _
          have sIB := sI.trans sB
          have hcaB := sB.tup hca
          have hplB := sB.lst hplI
          dsimp only [gName]
          refine ⟨_, rfl, D, _, rfl, .inl (SqL.of hDB), _, _, rfl, rfl, _, rfl, iteB (fun z => ?_) (fun z => ?_)⟩
          · have z : 0 < own.length := by
              have := of_decide_eq_true z
              omega
            have hne : own ≠ [] := fun h => by
              rw [h] at z
              exact absurd z (by decide)
            rw [if_neg hne] at hwF
            have hfaB := sIB.seq hfa
            have hxB := sIB.tup hx
            have hyB := sIB.tup hy
            refine ⟨_, rfl, _, rfl, D, rfl, ⟨_, SqL.of hDB⟩, fun D3 hD3 => lc_list (xs := natV own) (fun i HE => Ext HB HE ∧ HE D3 = some (.lst (((own.take i).map fun j => fs.getD j 0).map V.int))) ⟨ext_upd hD3, upd_same⟩ (fun i HE _ h => SqL.of (h.1.lst hDB)) (fun i v HE hi hP4 => ?_) (fun HE hP4 => ?_)⟩
            · obtain ⟨sE, hDE⟩ := hP4
              obtain ⟨j, hj, rfl⟩ : ∃ j : Nat, own[i]? = some j ∧ v = V.int ((j : Nat) : Int) := by
                unfold natV at hi
                rw [List.getElem?_map] at hi
                obtain ⟨o, h1, h2⟩ := Option.map_eq_some_iff.mp hi
                exact ⟨o, h1, h2.symm⟩
              have hjm := hm j (List.mem_of_getElem? hj)
              have il := (List.getElem?_eq_some_iff.mp hj).1
              have hfj : (fs.map V.int)[j]? = some (.int (fs.getD j 0)) := by
                rw [List.getElem?_map, List.getD_eq_getElem?_getD, List.getElem?_eq_getElem hjm]
                rfl
              refine ⟨rfl, _, rfl, _, rfl, fa, _, _, _, rfl, rfl, sE.seq hfaB, atI_nat hfj, _, hDE, sl_lt (by rw [List.length_map, List.length_map, List.length_take]; omega), sE.own hD3, ?_⟩
              rw [upd_same, take_snoc hj, List.map_append, List.map_append]
              rfl
            · obtain ⟨sE, hDE⟩ := hP4
              rw [lnO, List.take_length] at hDE
              have hDE2 := sE.lst hDB
              refine ⟨D3, _, rfl, SqL.of hDE, xa, x, _, rfl, sm12_of bx, by omega, fun _ => nx, sE.tup hxB, fun p1 HF sF hp1 => ?_⟩
              have hDF := sF.ext.lst hDE2
              refine ⟨_, rfl, _, rfl, D, _, rfl, .inl (SqL.of hDF), ya, y, _, rfl, sm12_of bY, by omega, fun _ => ny, (sE.trans sF.ext).tup hyB, fun p2 HG9 sG9 hp2 => ?_⟩
              rw [lnO] at hp2
              have smx : Sm (rp x (own.map fun j => fs.getD j 0).sum) := sm_rp (sm12_of bx) nx (by omega)
              have smy : Sm (rp y ((own.length : Nat) : Int)) := sm_rp (sm12_of bY) ny (by omega)
              have smO : Sm (wO fs x y own) := by
                have gx : 0 < gX x := Nat.pos_of_ne_zero (gX_ne px)
                have gy : 0 < gX y := Nat.pos_of_ne_zero (gX_ne py)
                refine SM.sm_of izO (Nat.pos_iff_ne_zero.mp (Nat.mul_pos (Nat.pow_pos gx) (Nat.pow_pos gy))) (Nat.lt_of_le_of_lt (Nat.mul_le_mul (gX_pow_le bx 10) (gX_pow_le bY 5)) ?_) (Nat.pow_lt_pow_right (by decide) (by decide))
                rw [← Nat.pow_add]
                exact Nat.pow_lt_pow_right (by decide) (by decide)
              refine ⟨p1, p2, _, _, rfl, sG9.fr hp1, hp2, okA_of smx smy, fun pw H6 s6 n6 hpw => ?_⟩
              rw [SM.mulF_fq] at hpw
              have hpw : SqT K H6 pw [.int (fq (wO fs x y own)).1, .int (fq (wO fs x y own)).2] := SqT.of hpw
              have sE6 := sE.trans ((sF.ext.trans sG9.ext).trans s6.ext)
              dsimp only [gName]
              refine ⟨_, rfl, sl2, fun t1 h1 => ⟨_, rfl, t1, pw, fq 1, fq (wO fs x y own), rfl, SqT.of upd_same, (ext_upd h1).tup hpw, okA_of sm_one smO, fun ps H7 s7 n7 hps => ?_⟩⟩
              rw [SM.addF_fq, ← hwF] at hps
              have x67 := sE6.trans ((ext_upd (o := .tup [.int 1, .int 1]) h1).trans s7.ext)
              refine ⟨ca, ps, _, _, rfl, x67.tup hcaB, SqT.of hps, okA_of smk smhk, fun pn H8 s8 n8 hpn => ?_⟩
              rw [SM.mulF_fq, ← wstep] at hpn
              have x68 := x67.trans s8.ext
              exact ⟨⟨pn, _, _, _, _, _, rfl, SqT.of hpn⟩, sIB.trans x68, x68.lst hplB⟩
          · have z : own = [] := by
              have := of_decide_eq_false z
              exact List.length_eq_zero_iff.mp (by omega)
            rw [if_pos z] at hwF
            rw [hwF, Rat.mul_one] at wstep
            refine ⟨⟨ca, _, _, _, _, _, rfl, ?_⟩, sIB, hplB⟩
            rw [wstep]
            exact hcaB
      · obtain ⟨⟨ca, z6, z7, z9, z10, z11, rfl, hca⟩, sI, hplI⟩ := hP
        rw [lnv] at hca
        exact ⟨_, rfl, q3 ca HI sI hca⟩
/-! ### data that may be laid -/
def Gd (n : Nat) (d : PyData) : Prop := d.canLay0 = true ∧ d.depth ≤ n
theorem gd_int (i : Int) : Gd 3 (.int i) := ⟨by simp [PyData.canLay0], by simp [PyData.depth]⟩
theorem gd_all {n : Nat} : ∀ {ds : List PyData}, (∀ x ∈ ds, Gd n x) → PyData.canLayAll0 ds = true ∧ PyData.depthAll ds ≤ n
  | [], _ => ⟨by simp [PyData.canLayAll0], by simp [PyData.depthAll]⟩
  | d :: ds, h => by
    obtain ⟨h1, h2⟩ := h d List.mem_cons_self
    obtain ⟨h3, h4⟩ := gd_all fun x m => h x (List.mem_cons_of_mem _ m)
    simp only [PyData.canLayAll0, PyData.depthAll, h1, h3, Bool.and_self, true_and]
    omega
theorem gd_tup {n : Nat} {ds : List PyData} (h : ∀ x ∈ ds, Gd n x) : Gd (n + 1) (.tuple ds) := by
  obtain ⟨h1, h2⟩ := gd_all h
  refine ⟨by simp only [PyData.canLay0, h1], ?_⟩
  simp only [PyData.depth]
  omega
theorem gd_lst {n : Nat} {ds : List PyData} (h : ∀ x ∈ ds, Gd n x) : Gd (n + 1) (.list ds) := by
  obtain ⟨h1, h2⟩ := gd_all h
  refine ⟨by simp only [PyData.canLay0, h1], ?_⟩
  simp only [PyData.depth]
  omega
theorem Gd.up {n m : Nat} {d : PyData} (h : Gd n d) (k : n ≤ m) : Gd m d := ⟨h.1, Nat.le_trans h.2 k⟩
theorem Gd.sh {n : Nat} {d : PyData} (h : Gd n d) (k : n ≤ 64 := by decide) : SeqAt.shaped d = true := by
  unfold SeqAt.shaped
  rw [h.1, Bool.true_and]
  exact decide_eq_true (Nat.le_trans h.2 k)
theorem eqv_self {n : Nat} {d : PyData} (h : Gd n d) : PyData.eqv d d = true := SeqAt.eqv_refl d h.1
def frD (r : Rat) : PyData := .tuple [.int (fq r).1, .int (fq r).2]
theorem gd_frD (r : Rat) : Gd 4 (frD r) := gd_tup fun x m => by
  simp only [List.mem_cons, List.not_mem_nil, or_false] at m
  rcases m with rfl | rfl <;> exact gd_int _
theorem fr_dp {H : Hp} {v : V} {r : Rat} (h : FrV K H v r) : Dp K H v (frD r) := by
  obtain ⟨a, rfl, g⟩ := h
  exact .tup g (.cons (.int _) (.cons (.int _) .nil))
theorem fq_inj {r s : Rat} (h : fq r = fq s) : r = s := by
  have h1 : r.num = s.num := (Prod.mk.inj h).1
  have h2 : r.den = s.den := Int.ofNat.inj (Prod.mk.inj h).2
  exact Rat.ext h1 h2
theorem eqv_fr (r s : Rat) : PyData.eqv (frD r) (frD s) = decide (r = s) := by
  by_cases h : r = s
  · subst h
    rw [eqv_self (gd_frD r), decide_eq_true rfl]
  · rw [decide_eq_false h]
    unfold frD
    have : ¬ ((fq r).1 = (fq s).1 ∧ (fq r).2 = (fq s).2) := fun z => h (fq_inj (Prod.ext z.1 z.2))
    simp only [PyData.eqv, PyData.eqvAll]
    simp
    omega
theorem ne_zero_test {H : Hp} {v : V} {r : Rat} {t : Addr} {Q : VK} (h : FrV K H v r) (ht : H t = some (.tup [.int 0, .int 1])) (q : Q (.bl (decide (r ≠ 0))) H) : rNeD K v (.ref t) H Q := by
  refine ⟨frD r, frD 0, fr_dp h, .tup (SqT.of ht) (.cons (.int _) (.cons (.int _) .nil)), (gd_frD _).sh, (gd_frD _).sh, ?_⟩
  rw [eqv_fr]
  have : (!decide (r = 0)) = decide (r ≠ 0) := by by_cases h : r = 0 <;> simp [h]
  rw [this]
  exact q
def serD (rs : List Rat) : PyData := .tuple (rs.map frD)
theorem frs_dp {H : Hp} {vs : List V} {rs : List Rat} (h : FrsV K H vs rs) : DpAll K H vs (rs.map frD) := dpAll_of (fun v r ⟨a, e, g⟩ => e ▸ .tup g (.cons (.int _) (.cons (.int _) .nil))) h
theorem ser_dp {H : Hp} {p : Addr} {vs : List V} {rs : List Rat} (hp : SqT K H p vs) (h : FrsV K H vs rs) : Dp K H (.ref p) (serD rs) := .tup hp (frs_dp h)
theorem gd_ser (rs : List Rat) : Gd 5 (serD rs) := gd_tup fun x m => by
  obtain ⟨r, _, rfl⟩ := List.mem_map.mp m
  exact gd_frD r
theorem ser_tup {rs : List Rat} (h : rs.length ≤ 1000) : tupD 4 (serD rs) := by
  refine ⟨by rw [List.length_map]; omega, fun x m => ?_⟩
  obtain ⟨r, _, rfl⟩ := List.mem_map.mp m
  refine ⟨by simp, fun y n => ?_⟩
  simp only [List.mem_cons, List.not_mem_nil, or_false] at n
  rcases n with rfl | rfl <;> trivial
def wWhen (p : Prop) (t : TS) : TS := fun D σ H => p ∧ t D σ H
theorem pss_when {X : Cx} {p : Prop} {b : List Stmt} {t : TS} (h : p → PSs X b t) : PSs X b (wWhen p t) := ⟨fun pins s σ H D I q => (h q.1).run pins s σ H D I q.2⟩
def adV : Value → Addr
  | .ref a => a
  | _ => 0
theorem zc_of {K : PySem.W.Frag} {cls : Value} {d : Option Addr} {oe : Obj} (hq : cls = .ref (adV cls) ∧ d = none ∧ ExcC K (adV cls)) (hz : Zc cls d oe) : Zc (.ref (adV cls)) none oe := by
  obtain ⟨h1, h2, _⟩ := hq
  rw [← h1]
  subst h2
  exact hz
theorem Drawn.goodE {most : Int} {fs : List Int} {es : List Eg} (h : Drawn most fs es) (l : es.length ≤ 24) : goodE fs.length es := ⟨l, h.ok, fun i x y hx hy => by
  obtain ⟨h1, rfl⟩ := List.getElem?_eq_some_iff.mp hx
  obtain ⟨h2, rfl⟩ := List.getElem?_eq_some_iff.mp hy
  exact List.pairwise_iff_getElem.mp h.asc i (i + 1) h1 h2 (Nat.lt_succ_self i)⟩
theorem Drawn.goodF {most : Int} {fs : List Int} {es : List Eg} (h : Drawn most fs es) (l : most ≤ 12) : goodF fs := ⟨h.one, by have := h.most; omega, fun f m => by have := h.small f m; omega⟩
theorem init_at (T : Top K mg) {H : Hp} {R : VK} {E : XK} {fa ea : Addr} {fs : List Int} {xs : List V} {es : List Eg} (hf : Sq K H fa (fs.map V.int)) (he : Sq K H ea xs) (hes : Paired (EdgeAt K H) xs es) (le : es.length < 1000000) (lf : fs.length < 1000000) (G : Tg T H) (gf : goodF fs) (ge : goodE fs.length es)
    {x dx : Addr} (hx : H x = none) (hdx : H dx = none) (q : ∀ H', Ext H H' → SpAt T H' x fs es → R .non H') : spInit T [.ref x, .ref fa, .ref ea] (upd (upd H dx (.own x)) x (.ins T.C_Spins dx [])) R E := by
  have x5 : Ext H (upd (upd H dx (.own x)) x (.ins T.C_Spins dx [])) := (ext_upd hdx).own hx
  exact ⟨x, dx, fa, ea, fs, xs, es, H, rfl, upd_same, hx, x5, hf, he, hes, le, lf, G, fun gf ge H' fc ec ys s h1 h2 h3 h4 => q H' s ⟨gf, ge, dx, fc, ec, ys, h1, h2, h3, h4⟩, fun bad => absurd ⟨gf, ge⟩ bad⟩
open K04
/-! ### both sums are the value of the partition polynomial -/
theorem sumN_swap (f : Nat → Nat → Rat) (a : Nat) : ∀ b, sumN (fun i => sumN (f i) a) b = sumN (fun j => sumN (fun i => f i j) b) a
  | 0 => by
    have : ∀ n, sumN (fun _ => (0 : Rat)) n = 0 := fun n => by
      induction n with
      | zero => rfl
      | succ n ih => rw [sumN, ih, Rat.add_zero]
    exact (this a).symm
  | b + 1 => by
    rw [sumN, sumN_swap f a b, ← sumN_add]
    rfl
theorem states_map {α : Type} (n : Nat) (f : List Int → α) : (states n).map f = (List.range (2 ^ n)).map fun t => f (stA n t) := by
  refine List.ext_getElem? fun i => ?_
  rw [List.getElem?_map, List.getElem?_map]
  by_cases hi : i < 2 ^ n
  · rw [stA_at hi, List.getElem?_range hi]
    rfl
  · rw [List.getElem?_eq_none (by rw [length_states]; omega), List.getElem?_eq_none (by rw [List.length_range]; omega)]
    rfl
def setL (fs : List Int) (x y : Rat) (es : List Eg) : List Rat := (List.range (2 ^ es.length)).map fun m => setK x es es.length m * whole fs x y (partsK fs.length es es.length m)
def wtL (fs : List Int) (x y : Rat) (es : List Eg) : List Rat := (states fs.length).map (wtR fs es x y)
theorem both_sums {fs : List Int} {x y : Rat} (px : 0 < x) (py : 0 < y) {es : List Eg} (he : ∀ e ∈ es, 0 ≤ e.1 ∧ e.1 < fs.length ∧ 0 ≤ e.2.1 ∧ e.2.1 < fs.length) : sumL (wtL fs x y es) = sumL (setL fs x y es) := by
  have nx : x ≠ 0 := fun h => Rat.lt_irrefl (h ▸ px)
  unfold wtL setL
  rw [states_map, sumL_range, sumL_range]
  have h1 : sumN (fun t => wtR fs es x y (stA fs.length t)) (2 ^ fs.length) = sumN (fun t => sumN (fun m => payR fs x y (stA fs.length t) * jwK x (stA fs.length t) es es.length m) (2 ^ es.length)) (2 ^ fs.length) := sumN_congr fun t _ => (states_sum nx y es).symm
  have h2 : sumN (fun m => setK x es es.length m * whole fs x y (partsK fs.length es es.length m)) (2 ^ es.length) = sumN (fun m => sumN (fun t => payR fs x y (stA fs.length t) * jwK x (stA fs.length t) es es.length m) (2 ^ fs.length)) (2 ^ es.length) := sumN_congr fun m _ => (sets_sum px py he m).symm
  rw [h1, h2]
  exact sumN_swap _ _ _
theorem lsum_sumL : ∀ l : List Rat, sumL l = lsum l := fun l => by
  have gen : ∀ (l : List Rat) (a : Rat), l.foldl (· + ·) a = a + lsum l := fun l => by
    induction l with
    | nil => exact fun a => (Rat.add_zero a).symm
    | cons r l ih =>
      intro a
      rw [List.foldl_cons, ih, lsum]
      grind
  have := gen l 0
  rw [Rat.zero_add] at this
  exact this
theorem value_is {fs : List Int} {x y : Rat} {es : List Eg} : linR (valF x y) (canon (zraw fs es)) = sumL (wtL fs x y es) := by
  rw [value_sum, lsum_sumL]
  rfl
theorem mem_canon : ∀ {ts : List Trm} {s : Trm}, s ∈ canon ts → ∃ t ∈ ts, s.1 = t.1
  | [], s, h => absurd h List.not_mem_nil
  | t :: r, s, h => by
    rcases PM.mem_ins (show s ∈ PM.ins t (canon r) from h) with e | m
    · exact ⟨t, List.mem_cons_self, e⟩
    · obtain ⟨t', m', e⟩ := mem_canon m
      exact ⟨t', List.mem_cons_of_mem _ m', e⟩
theorem cost_le {fs st : List Int} {es : List Eg} (hs : ∀ f ∈ fs, -2 ≤ f ∧ f ≤ 2) (n5 : fs.length ≤ 5) {c : Int} (hc : ∀ e ∈ es, -c ≤ e.2.2 ∧ e.2.2 ≤ c) (c0 : 0 ≤ c) (hl : c * es.length ≤ 54) : (costZ fs es st).natAbs ≤ 64 := by
  have h1 := fieldC_le hs n5 st
  unfold costZ
  have h2 : (edgeC es st).natAbs ≤ 54 := by
    unfold edgeC
    have hb : ∀ z ∈ ((es.filter fun e => decide (atS st e.1 ≠ atS st e.2.1)).map fun e => e.2.2), -c ≤ z ∧ z ≤ c := fun z m => by
      obtain ⟨e, me, rfl⟩ := List.mem_map.mp m
      exact hc e (List.mem_filter.mp me).1
    have := sum_bound (c := c) hb
    have l1 : ((es.filter fun e => decide (atS st e.1 ≠ atS st e.2.1)).map fun e => e.2.2).length ≤ es.length := by
      rw [List.length_map]
      exact List.length_filter_le _ _
    have l2 : c * (((es.filter fun e => decide (atS st e.1 ≠ atS st e.2.1)).map fun e => e.2.2).length : Int) ≤ c * es.length := Int.mul_le_mul_of_nonneg_left (Int.ofNat_le.mpr l1) c0
    omega
  omega
theorem pol_small {fs : List Int} {es : List Eg} (n5 : fs.length ≤ 5) (hc : ∀ st ∈ states fs.length, (costZ fs es st).natAbs ≤ 64) : PolS 64 64 (canon (zraw fs es)) := by
  have lz := length_zraw fs es
  have n32 : 2 ^ fs.length ≤ 32 := Nat.pow_le_pow_right (by decide) (show fs.length ≤ 5 by omega)
  have hn : PM.norm (zraw fs es) ≤ 32 := by
    have : ∀ l : List (List Int), PM.norm (l.map (termS fs es)) = l.length := fun l => by
      induction l with
      | nil => rfl
      | cons st l ih =>
        show (1 : Int).natAbs + PM.norm (l.map (termS fs es)) = _
        rw [ih, List.length_cons]
        have : (1 : Int).natAbs = 1 := rfl
        omega
    unfold zraw
    rw [this, length_states]
    exact n32
  have key : ∀ s ∈ canon (zraw fs es), s.1.1.natAbs ≤ 64 ∧ s.1.2.natAbs ≤ 8 := fun s m => by
    obtain ⟨t, mt, e⟩ := mem_canon m
    obtain ⟨st, ms, rfl⟩ := List.mem_map.mp mt
    obtain ⟨ln, hb⟩ := states_ok _ _ ms
    have := sum01_le hb (by omega)
    rw [e]
    refine ⟨hc st ms, ?_⟩
    show st.sum.natAbs ≤ 8
    omega
  refine ⟨Nat.le_trans (PM.length_canon_le _) (by omega), fun t m => ?_, fun t m => (key t m).1, fun t m => (key t m).2⟩
  have := PM.norm_mem m
  have := PM.norm_canon (zraw fs es)
  omega
/-! ### sizes of the sums of a list -/
theorem wtR_iz {fs : List Int} {x y : Rat} (bx : Bz 4 x) (bY : Bz 4 y) (px : 0 < x) (py : 0 < y) {es : List Eg} {st : List Int} (n5 : st.length ≤ 5) (hb : bits st) (hc : (costZ fs es st).natAbs ≤ 64) : Iz (gX x ^ 64 * gX y ^ 5) (2 ^ 512 * 2 ^ 40) (wtR fs es x y st) := by
  have h2 := sum01_le hb n5
  exact (iz_rpG bx px hc).mul (iz_rpG bY py (e := st.sum) (E := 5) (by omega))
theorem wtL_sm {fs : List Int} {x y : Rat} (bx : Bz 4 x) (bY : Bz 4 y) (px : 0 < x) (py : 0 < y) {es : List Eg} (n5 : fs.length ≤ 5) (hc : ∀ st ∈ states fs.length, (costZ fs es st).natAbs ≤ 64) : (∀ r ∈ wtL fs x y es, Sm r) ∧ ∀ k, Sm (sumL ((wtL fs x y es).take k)) := by
  have hz : ∀ r ∈ wtL fs x y es, Iz (gX x ^ 64 * gX y ^ 5) (2 ^ 512 * 2 ^ 40) r := fun r m => by
    obtain ⟨st, ms, rfl⟩ := List.mem_map.mp m
    obtain ⟨ln, hb⟩ := states_ok _ _ ms
    exact wtR_iz bx bY px py (by omega) hb (hc st ms)
  have d1 := gX64 bx px
  have dn : gX x ^ 64 * gX y ^ 5 ≠ 0 := Nat.mul_ne_zero d1.1 (Nat.pos_iff_ne_zero.mp (Nat.pow_pos (Nat.pos_of_ne_zero (gX_ne py))))
  have dl : gX x ^ 64 * gX y ^ 5 < 2 ^ 1900 := by
    refine Nat.lt_of_le_of_lt (Nat.mul_le_mul d1.2 (gX_pow_le bY 5)) ?_
    rw [← Nat.pow_add]
    exact Nat.pow_lt_pow_right (by decide) (by decide)
  have lw : (wtL fs x y es).length ≤ 32 := by
    unfold wtL
    rw [List.length_map, length_states]
    exact Nat.pow_le_pow_right (by decide) (show fs.length ≤ 5 by omega)
  refine ⟨fun r m => SM.sm_of (hz r m) dn dl ?_, fun k => ?_⟩
  · rw [← Nat.pow_add]
    exact Nat.pow_lt_pow_right (by decide) (by decide)
  · refine SM.sm_of (sumL_izJ ((wtL fs x y es).take k) fun r m => hz r (List.mem_of_mem_take m)) dn dl (Nat.lt_of_le_of_lt (Nat.mul_le_mul_right _ (show _ ≤ 2 ^ 5 from ?_)) ?_)
    · rw [List.length_take]
      have : (2 : Nat) ^ 5 = 32 := by decide
      omega
    · rw [← Nat.pow_add, ← Nat.pow_add]
      exact Nat.pow_lt_pow_right (by decide) (by decide)
theorem setL_sm {fs : List Int} {x y : Rat} (bx : Bz 4 x) (bY : Bz 4 y) (px : 0 < x) (py : 0 < y) (hs : ∀ f ∈ fs, -2 ≤ f ∧ f ≤ 2) (n5 : fs.length ≤ 5) {es : List Eg} (h9 : ∀ e ∈ es, -9 ≤ e.2.2 ∧ e.2.2 ≤ 9) (he : ∀ e ∈ es, 0 ≤ e.1 ∧ e.1 < fs.length ∧ 0 ≤ e.2.1 ∧ e.2.1 < fs.length) (l8 : es.length ≤ 8) : (∀ r ∈ setL fs x y es, Sm r) ∧ ∀ k, Sm (sumL ((setL fs x y es).take k)) := by
  have n32 : 2 ^ fs.length ≤ 32 := Nat.pow_le_pow_right (by decide) (show fs.length ≤ 5 by omega)
  have hz : ∀ r ∈ setL fs x y es, Iz (wD x y es.length) (32 * wX es.length) r := fun r mr => by
    obtain ⟨m, _, rfl⟩ := List.mem_map.mp mr
    rw [← sets_sum px py he m]
    refine (sumN_iz (D := wD x y es.length) (X := wX es.length) _ fun t ht => ?_).le (Nat.mul_le_mul_right _ n32)
    obtain ⟨lnt, hbtt⟩ := states_ok _ _ (List.mem_of_getElem? (stA_at ht))
    exact jwt_iz bx bY px py hs n5 lnt hbtt h9 m (Nat.le_refl _)
  have l256 : (setL fs x y es).length ≤ 256 := by
    unfold setL
    rw [List.length_map, List.length_range]
    exact Nat.pow_le_pow_right (by decide) (show es.length ≤ 8 by omega)
  refine ⟨fun r m => wsm bx bY px py (k := es.length) l8 (by decide) (hz r m), fun k => ?_⟩
  have h := sumL_izJ ((setL fs x y es).take k) fun r m => hz r (List.mem_of_mem_take m)
  rw [← Nat.mul_assoc] at h
  refine wsm bx bY px py (k := es.length) l8 ?_ h
  rw [List.length_take]
  have : (2 : Nat) ^ 20 = 1048576 := by decide
  omega
open K04
def spLaw (T : Top K mg) : Sp := fun vs H Q _ => ∃ (a : Addr) (ns : List Int), vs = [.ref a] ∧ SqL K H a (ns.map V.int) ∧ Tg T H ∧ ∀ H', Q (.bl true) H'
theorem law_in (T : Top K mg) (H : Hp) (a : Addr) (ns : List Int) (hl : ns.length ≤ 63) (hb : ∀ z ∈ ns, Builtin.Int.intBits z ≤ 1048576) (G : Tg T H) (hS : SqL K H a (ns.map V.int)) : spLaw T [.ref a] H (fun v _ => v = .bl true) fun _ _ _ => False := ⟨a, ns, rfl, hS, G, fun _ => rfl⟩
theorem cutN (xs : List V) (k : Nat) : cutV xs none (some ((k : Nat) : Int)) = xs.take k := by
  unfold cutV
  rw [HT.sIx_none, HT.sIx_nat, List.drop_zero, Nat.sub_zero]
  rw [List.take_eq_take_iff]
  omega
theorem paired_take {α β : Type} {R : α → β → Prop} : ∀ {as : List α} {bs : List β}, Paired R as bs → ∀ k, Paired R (as.take k) (bs.take k)
  | _, _, .nil, k => by rw [List.take_nil, List.take_nil]; exact .nil
  | _, _, .cons x t, 0 => .nil
  | _, _, .cons x t, k + 1 => .cons x (paired_take t k)
theorem take_good {n : Int} {es : List Eg} (g : goodE n es) (k : Nat) : goodE n (es.take k) := by
  refine ⟨by rw [List.length_take]; have := g.1; omega, fun e m => g.2.1 e (List.mem_of_mem_take m), fun i x y hx hy => ?_⟩
  rw [List.getElem?_take] at hx hy
  split at hx
  · split at hy
    · exact g.2.2 i x y hx hy
    · cases hy
  · cases hx
def rowT (i : Nat) : List Eg := (List.range (5 - (i + 1))).map fun j => (((i : Nat) : Int), ((i + 1 + j : Nat) : Int), (1 : Int))
def prT (i : Nat) : List Eg := (List.range i).flatMap rowT
theorem prT_succ (i : Nat) : prT (i + 1) = prT i ++ rowT i := by
  unfold prT
  rw [List.range_succ, List.flatMap_append]
  simp
instance (n : Int) (e : Eg) : Decidable (okE n e) := inferInstanceAs (Decidable (_ ∧ _))
instance (x y : Eg) : Decidable (ltEg x y) := inferInstanceAs (Decidable (_ ∨ _))
theorem dr5 : Drawn 5 [0, 1, 0, -1, 0] (prT 5) := ⟨by decide, by decide, by decide, by decide, by decide +kernel, by decide +kernel, by decide⟩
theorem len5 : (prT 5).length = 10 ∧ ∀ e ∈ prT 5, e.2.2 = 1 := by decide +kernel
structure Dat (K : PySem.W.Frag) (H : Hp) (fb eb : Addr) (many : Int) (gs : List Int) (xs : List V) (es : List Eg) : Prop where
  f : H fb = some (.lst (gs.map V.int))
  e : H eb = some (.lst xs)
  ee : Paired (EdgeAt K H) xs es
  gf : goodF gs
  ge : goodE gs.length es
  l1 : 1 ≤ gs.length
  l5 : gs.length ≤ 5
  sm : ∀ f ∈ gs, -2 ≤ f ∧ f ≤ 2
  cost : ∀ st ∈ states gs.length, (costZ gs es st).natAbs ≤ 64
  m : (many = 9 ∧ es.length = 9) ∨ (many ≠ 9 ∧ es.length ≤ 8)
theorem Dat.up {H H' : Hp} {fb eb : Addr} {many : Int} {gs : List Int} {xs : List V} {es : List Eg} (h : Dat K H fb eb many gs xs es) (s : Ext H H') : Dat K H' fb eb many gs xs es := ⟨s.lst h.f, s.lst h.e, s.edges h.ee, h.gf, h.ge, h.l1, h.l5, h.sm, h.cost, h.m⟩
theorem paired_set {α β : Type} {R : α → β → Prop} : ∀ {as : List α} {bs : List β}, Paired R as bs → ∀ {i : Nat} {v : α} {b : β}, R v b → Paired R (as.set i v) (bs.set i b)
  | _, _, .nil, _, _, _, _ => .nil
  | _, _, .cons x t, 0, _, _, h => .cons h t
  | _, _, .cons x t, i + 1, _, _, h => .cons x (paired_set t h)
/-- what stands in the two totals on side i after k entries -/
def tvL (L : Nat → List Rat) (i k j : Nat) : Rat := if j < i then sumL (L j) else if j = i then sumL ((L j).take k) else 0
theorem tv_set (L : Nat → List Rat) {i k : Nat} (hi : i < 2) : [tvL L i k 0, tvL L i k 1].set i (tvL L i (k + 1) i) = [tvL L i (k + 1) 0, tvL L i (k + 1) 1] := by
  obtain rfl | rfl : i = 0 ∨ i = 1 := by omega
  · rfl
  · rfl
theorem tv_at (L : Nat → List Rat) {i k : Nat} (hi : i < 2) : [tvL L i k 0, tvL L i k 1][i]? = some (sumL ((L i).take k)) := by
  obtain rfl | rfl : i = 0 ∨ i = 1 := by omega
  · rfl
  · rfl
theorem tv_self (L : Nat → List Rat) (i k : Nat) : tvL L i k i = sumL ((L i).take k) := by
  unfold tvL
  rw [if_neg (Nat.lt_irrefl _), if_pos rfl]
theorem tv_next (L : Nat → List Rat) (i j : Nat) : tvL L i (L i).length j = tvL L (i + 1) 0 j := by
  unfold tvL
  by_cases h1 : j < i
  · rw [if_pos h1, if_pos (show j < i + 1 by omega)]
  · rw [if_neg h1]
    by_cases h2 : j = i
    · rw [if_pos h2, if_pos (show j < i + 1 by omega), h2, List.take_length]
    · rw [if_neg h2, if_neg (show ¬ j < i + 1 by omega), List.take_zero]
      split <;> rfl
theorem ok_law {f : Addr} {d : FuncData} (F : Fun K "law" "law" s_law f d) (T : Top K mg) (B : Tb T base) : FnOk P w K mg base CX0 8 f d ["script"] (spLaw T) := by
  refine F.ok sc_law (fun vs H Q E h => ?_) (fun cdv A outer s H vs Q E hr h => ?_)
  · obtain ⟨a, ns, rfl, _⟩ := h
    rfl
  obtain ⟨a, ns, rfl, hS, G, q⟩ := h
  refine ⟨_, (pss_cons (ps_set (i := 1) sc_law.nd rfl (by first | exact .inl rfl | exact .inr rfl) (pe_callB call_abs (by rfl) T.m_abs (by decide +kernel) (pa_cons (pe_call (ok_law_cell T) (hr.mono (by decide)) (by rfl) T.g_law_cell T.F_law_cell.kp T.b_law_cell .nil pass0 (pa_cons (pv 0) (pa_cons pe_int pa_nil))) pa_nil)))
      (pss_cons (ps_asg (pe_call (ok_law_spins T) (hr.mono (by decide)) (by rfl) T.g_law_spins T.F_law_spins.kp T.b_law_spins .nil pass0 (pa_cons (pv 0) (pa_cons pe_int (pa_cons pe_int (pa_cons pe_int pa_nil))))) (pg_tup rfl (pgs_cons (pg_name (i := 2) sc_law.nd rfl (by first | exact .inl rfl | exact .inr rfl)) (pgs_cons (pg_name (i := 3) sc_law.nd rfl (by first | exact .inl rfl | exact .inr rfl)) pgs_nil))))
      (pss_cons (ps_set (i := 3) sc_law.nd rfl (by first | exact .inl rfl | exact .inr rfl) (pe_slice sl_list (pv 3) po_none (po_some pe_int)))
      (pss_cons (ps_asg (pe_call (ok_law_fractions T) (hr.mono (by decide)) (by rfl) T.g_law_fractions T.F_law_fractions.kp T.b_law_fractions .nil pass0 (pa_cons (pe_callB call_abs (by rfl) T.m_abs (by decide +kernel) (pa_cons (pe_call (ok_law_cell T) (hr.mono (by decide)) (by rfl) T.g_law_cell T.F_law_cell.kp T.b_law_cell .nil pass0 (pa_cons (pv 0) (pa_cons pe_int pa_nil))) pa_nil)) (pa_cons pe_bl pa_nil))) (pg_tup rfl (pgs_cons (pg_name (i := 4) sc_law.nd rfl (by first | exact .inl rfl | exact .inr rfl)) (pgs_cons (pg_name (i := 5) sc_law.nd rfl (by first | exact .inl rfl | exact .inr rfl)) pgs_nil))))
      (pss_cons (ps_set (i := 6) sc_law.nd rfl (by first | exact .inl rfl | exact .inr rfl) pe_int)
      (C8.pss_cut (ps_if (pt_cmpR op_eq (pe_op op_mod (pv 1) pe_int) pe_int (nomark _)) (pss_cons (ps_set (i := 6) sc_law.nd rfl (by first | exact .inl rfl | exact .inr rfl) (pe_op op_add pe_int (pe_op op_mod (pe_op op_fdivZ (pv 1) pe_int) pe_int)))
      (pss_cons (ps_set (i := 2) sc_law.nd rfl (by first | exact .inl rfl | exact .inr rfl) (pe_lst (pa_cons pe_int (pa_cons pe_int (pa_cons pe_int (pa_cons (pe_un un_neg pe_int) (pa_cons pe_int pa_nil)))))))
      (pss_cons (ps_set (i := 7) sc_law.nd rfl (by first | exact .inl rfl | exact .inr rfl) (pe_lst pa_nil))
      (pss_cons (ps_for PassesOwn.never rfl (pi_range1 (by rfl) T.m_range (pa_cons pe_int pa_nil)) (pg_name (i := 8) sc_law.nd rfl (by first | exact .inl rfl | exact .inr rfl)) (pss_one (ps_aug (i := 7) sc_law.nd rfl (by first | exact .inl rfl | exact .inr rfl) (pe_lc (own := [("v", 9)]) (g := gName 9) (tt := tYes) rfl sc_law.nd (pi_range2 (by rfl) T.m_range (pa_cons (pe_op op_add (pv 8) pe_int) (pa_cons pe_int pa_nil))) (blkOk_by (own := [("v", 9)]) (N := n_law) (sc := defScope s_law) (by decide +kernel)) (fun _ _ _ _ _ => (pg_name (i := 9) sc_law.nd rfl (by first | exact .inl rfl | exact .inr rfl))) (fun _ _ _ _ _ => pts_nil) (fun _ _ _ _ _ => (pe_tup (pa_cons (pv 8) (pa_cons (pv 9) (pa_cons pe_int pa_nil)))))) iop_ext)))
      (pss_one (ps_set (i := 3) sc_law.nd rfl (by first | exact .inl rfl | exact .inr rfl) (pe_slice sl_list (pv 7) po_none (po_some (pv 6))))))))) pss_nil)
      (pss_cons (ps_set (i := 10) sc_law.nd rfl (by first | exact .inl rfl | exact .inr rfl) (pe_make T.mk_Spins (ok_Spins_init T B) (hr.mono (by decide)) (by rfl) T.g_Spins T.b_Spins_init .nil passes_no (pa_cons (pv 2) (pa_cons (pv 3) pa_nil))))
      (C8.pss_cut (ps_try_as (i := 12) (tb := fun W => tAsg (tCallS (spJs T) (WE W) _) (gName 11)) (ts := fun a cls d => wWhen (cls = .ref (adV cls) ∧ d = none ∧ ExcC K (adV cls)) _) (Wout := fun _ _ _ _ => False) rfl rfl sc_law.nd rfl rfl ⟨rfl, by decide, Or.inl T.g_FieldError⟩ takes0 (fun W pn xe tk _ => pss_one (ps_set (i := 11) sc_law.nd rfl (Or.inl rfl) (pe_callS (ok_joint_sums T B) (hr.mono (by decide)) (by rfl) T.g_joint_sums T.F_joint_sums.kp T.b_joint_sums (fun σ => passAt tk σ) (pa_cons (pv 10) (pa_cons (pv 4) (pa_cons (pv 5) pa_nil)))))) (fun a oe cls d pn hz hf => pss_when fun hq => (pss_one (ps_ret (pe_and (pe_callB (r := rIsE K (adV cls) a) (call_isE hq.2.2 (zc_of hq hz) hf) (by rfl) T.m_isinstance (by decide +kernel) (pa_cons (pv 12) (pa_cons (pe_glob (v := .ref T.f_TooLarge) (by rfl) T.g_TooLarge rfl) pa_nil))) (pe_one (pe_cmpR op_eq (pv 6) pe_int (nomark _))))))))
      (pss_cons (ps_if (PW.pt (pw_or (pt_cmpR op_eq (pv 6) pe_int (nomark _)) (pw_or (pt_not (pt_val (pe_callB call_isi (by rfl) T.m_isinstance (by decide +kernel) (pa_cons (pv 11) (pa_cons (pe_bltn (v := .ty "tuple") (by rfl) T.m_tuple boot_tuple rfl) pa_nil))))) (pw_or (pt_cmpR op_ne (pe_callB call_len_seq (by rfl) T.m_len (by decide +kernel) (pa_cons (pv 11) pa_nil)) pe_int (nomark _)) (pw_or1 (pt_not (pt_val (pe_call (ok_law_tuples T 5) (hr.mono (by decide)) (by rfl) T.g_law_tuples T.F_law_tuples.kp T.b_law_tuples .nil pass0 (pa_cons (pv 11) pa_nil))))))))) (pss_one (ps_ret pe_bl)) pss_nil)
      (pss_cons (ps_if (PW.pt (pw_or (pt_cmpR (op_neD hr.units) (pe_ix ix_tup (pv 11) pe_int (fun _ _ => rfl)) (pe_callTy call_tuple_of (by rfl) T.m_tuple (by decide +kernel) (pa_cons (pe_call (ok_law_weights T) (hr.mono (by decide)) (by rfl) T.g_law_weights T.F_law_weights.kp T.b_law_weights .nil pass0 (pa_cons (pv 2) (pa_cons (pv 3) (pa_cons (pv 4) (pa_cons (pv 5) pa_nil))))) pa_nil)) (nomark _)) (pw_or1 (pt_cmpR op_ne (pe_callB call_len_seq (by rfl) T.m_len (by decide +kernel) (pa_cons (pe_ix ix_tup (pv 11) pe_int (fun _ _ => rfl)) pa_nil)) (pe_op op_shl pe_int (pe_callB call_len_seq (by rfl) T.m_len (by decide +kernel) (pa_cons (pv 3) pa_nil))) (nomark _))))) (pss_one (ps_ret pe_bl)) pss_nil)
      (pss_cons (ps_set (i := 13) sc_law.nd rfl (by first | exact .inl rfl | exact .inr rfl) (pe_lst (pa_cons (pe_tup (pa_cons pe_int (pa_cons pe_int pa_nil))) (pa_cons (pe_tup (pa_cons pe_int (pa_cons pe_int pa_nil))) pa_nil))))
      (pss_cons (ps_for PassesOwn.never rfl (pi_range1 (by rfl) T.m_range (pa_cons pe_int pa_nil)) (pg_name (i := 14) sc_law.nd rfl (by first | exact .inl rfl | exact .inr rfl)) (pss_one (ps_for PassesOwn.never rfl (pi_tup (pe_ix ix_tup (pv 11) (pv 14) (fun _ _ => rfl))) (pg_name (i := 15) sc_law.nd rfl (by first | exact .inl rfl | exact .inr rfl)) (pss_one (ps_asg (pe_call (ok_law_add T) (hr.mono (by decide)) (by rfl) T.g_law_add T.F_law_add.kp T.b_law_add .nil pass0 (pa_cons (pe_ix ix_list (pv 13) (pv 14) (fun _ _ => rfl)) (pa_cons (pv 15) pa_nil))) (pg_sub (pv 13) (pv 14) set_list))))))
      (pss_cons (ps_if (PW.pt (pw_or (pt_cmpR (op_neD hr.units) (pe_ix ix_list (pv 13) pe_int (fun _ _ => rfl)) (pe_ix ix_list (pv 13) pe_int (fun _ _ => rfl)) (nomark _)) (pw_or1 (pt_cmpR (op_neD hr.units) (pe_call (ok_value T) (hr.mono (by decide)) (by rfl) T.g_value T.F_value.kp T.b_value .nil pass0 (pa_cons (pe_call (ok_sum_by_states T B) (hr.mono (by decide)) (by rfl) T.g_sum_by_states T.F_sum_by_states.kp T.b_sum_by_states .nil pass0 (pa_cons (pv 10) pa_nil)) (pa_cons (pv 4) (pa_cons (pv 5) pa_nil)))) (pe_ix ix_list (pv 13) pe_int (fun _ _ => rfl)) (nomark _))))) (pss_one (ps_ret pe_bl)) pss_nil)
      (pss_cons (ps_if (pt_cmpR op_eq (pv 6) pe_int (nomark _)) (pss_one (ps_ret pe_bl)) pss_nil)
      (pss_cons (ps_for PassesOwn.never rfl (pi_range1 (by rfl) T.m_range (pa_cons (pe_op op_shl pe_int (pe_callB call_len_seq (by rfl) T.m_len (by decide +kernel) (pa_cons (pv 3) pa_nil))) pa_nil)) (pg_name (i := 16) sc_law.nd rfl (by first | exact .inl rfl | exact .inr rfl)) (pss_one (ps_if (pt_cmpR (op_neD hr.units) (pe_ix ix_tup (pe_ix ix_tup (pv 11) pe_int (fun _ _ => rfl)) (pv 16) (fun _ _ => rfl)) (pe_call (ok_law_set_weight T) (hr.mono (by decide)) (by rfl) T.g_law_set_weight T.F_law_set_weight.kp T.b_law_set_weight .nil pass0 (pa_cons (pv 2) (pa_cons (pv 3) (pa_cons (pe_call (ok_law_bits T) (hr.mono (by decide)) (by rfl) T.g_law_bits T.F_law_bits.kp T.b_law_bits .nil pass0 (pa_cons (pv 16) (pa_cons (pe_callB call_len_seq (by rfl) T.m_len (by decide +kernel) (pa_cons (pv 3) pa_nil)) pa_nil))) (pa_cons (pv 4) (pa_cons (pv 5) pa_nil)))))) (nomark _)) (pss_one (ps_ret pe_bl)) pss_nil)))
      (pss_one (ps_ret pe_bl))))))))))))))))), ?_⟩
  refine ⟨_, rfl, a, ns, 0, rfl, hS, cellZ ns 0, rfl, ?_⟩
  have c0 : 0 ≤ (if cellZ ns 0 < 0 then -cellZ ns 0 else cellZ ns 0) := by split <;> omega
  dsimp only [gName]
  generalize (if cellZ ns 0 < 0 then -cellZ ns 0 else cellZ ns 0) = cc at *
  refine ⟨_, rfl, a, ns, 1, 5, 0, rfl, hS, by decide, by decide, fun l1 H1 fb eb fs xs0 es0 s1 n1 hl1 nf hf ne he0 hes0 dr => ⟨l1, _, rfl, SqT.of hl1, rfl, _, _, rfl, _, _, rfl, rfl, ?_⟩⟩
  have f5 : fs.length ≤ 5 := by have := dr.most; omega
  have f1 := dr.one
  have gf := dr.goodF (by decide)
  have ge := take_good (dr.goodE (by have := dr.len; omega)) 6
  dsimp only [gName]
  refine ⟨_, rfl, _, rfl, eb, _, rfl, SqL.of he0, fun e5 he5 => ?_⟩
  have x5 := ext_upd (o := .lst (cutV xs0 none (some ((6 : Nat) : Int)))) he5
  have h5 : upd H1 e5 (.lst (cutV xs0 none (some ((6 : Nat) : Int)))) e5 = some (.lst (xs0.take 6)) := by rw [upd_same, cutN]
  have hes5 := paired_take (x5.edgesT hes0) 6
  have hf5 := x5.lst hf
  have s5 := s1.trans x5
  have l6 : (es0.take 6).length ≤ 6 := by rw [List.length_take]; omega
  dsimp only [gName]
  have eC : upd H1 e5 (.lst (cutV xs0 none (some 6))) = upd H1 e5 (.lst (cutV xs0 none (some ((6 : Nat) : Int)))) := rfl
  rw [eC]
  generalize upd H1 e5 (.lst (cutV xs0 none (some ((6 : Nat) : Int)))) = H2 at *
  generalize xs0.take 6 = xs at *
  generalize es0.take 6 = es at *
  refine ⟨_, rfl, a, ns, 4, rfl, s5.seq hS, cellZ ns 4, rfl, _, _, rfl, by split <;> omega, fun l2 H3 xa ya x y s3 hl2 hxa hya bx bY px py hx1 => ⟨l2, _, rfl, SqT.of hl2, rfl, _, _, rfl, _, _, rfl, rfl, ?_⟩⟩
  have s03 := s5.trans s3
  dsimp only [gName]
  have hf3 := s3.lst hf5
  have he3 := s3.lst h5
  have hes3 := s3.edgesT hes5
  refine ⟨fun σ H5 => ∃ fb e5 gs xs es many y7 y8 y9, σ = [some (.ref a), some (.int cc), some (.ref fb), some (.ref e5), some (.ref xa), some (.ref ya), some (.int many), y7, y8, y9, none, none, none, none, none, none, none] ∧ Ext H H5 ∧ Dat K H5 fb e5 many gs xs es ∧ Fr K H5 xa (fq x) ∧ Fr K H5 ya (fq y), ?_, ?_⟩
  · refine ⟨_, rfl, _, _, rfl, rfl, (by decide : (0 : Int) < 32), rfl, _, rfl, iteB (fun _ => ?_) (fun _ => ?_)⟩
    · refine ⟨_, rfl, _, _, rfl, rfl, ⟨by decide, by decide⟩, _, _, rfl, rfl, (by decide : (0 : Int) < 2), _, _, rfl, rfl, ?_⟩
      have hm : ∃ m : Nat, (8 : Int) + cc.fdiv 32 % 2 = ((m : Nat) : Int) ∧ (m = 8 ∨ m = 9) := by
        obtain e | e : cc.fdiv 32 % 2 = 0 ∨ cc.fdiv 32 % 2 = 1 := by omega
        · exact ⟨8, by rw [e]; rfl, .inl rfl⟩
        · exact ⟨9, by rw [e]; rfl, .inr rfl⟩
      obtain ⟨m, em, hm⟩ := hm
      dsimp only [gName]
      rw [em]
      refine ⟨1, rfl, by rw [sizeLine_eq]; simp, fun f0 hf0 => ?_⟩
      have xF := ext_upd (o := .lst ([0, 1, 0, -1, 0].map V.int)) hf0
      have kF : upd H3 f0 (.lst ([0, 1, 0, -1, 0].map V.int)) f0 = some (.lst ([0, 1, 0, -1, 0].map V.int)) := upd_same
      have eF : upd H3 f0 (.lst [V.int 0, .int 1, .int 0, .int (-1), .int 0]) = upd H3 f0 (.lst ([0, 1, 0, -1, 0].map V.int)) := rfl
      rw [eF]
      generalize upd H3 f0 (.lst ([0, 1, 0, -1, 0].map V.int)) = H5 at *
      refine ⟨by rw [sizeLine_eq]; simp, fun pl hpl => ?_⟩
      have sP := ext_upd (o := .lst []) hpl
      have kP : upd H5 pl (.lst []) pl = some (.lst []) := upd_same
      dsimp only [gName]
      generalize upd H5 pl (.lst []) = H6 at *
      refine ⟨5, rfl, by decide, by decide, for_range (n := 5) (fun i σ H7 => ∃ (y8 y9 : Option V) (xs : List V), σ = [some (.ref a), some (.int cc), some (.ref f0), some (.ref e5), some (.ref xa), some (.ref ya), some (.int ((m : Nat) : Int)), some (.ref pl), y8, y9, none, none, none, none, none, none, none] ∧ Ext H5 H7 ∧ H7 pl = some (.lst xs) ∧ Paired (EdgeT H7) xs (prT i) ∧ xs.length ≤ 5 * i) ⟨_, _, [], rfl, sP, kP, .nil, Nat.zero_le _⟩ (fun i σ H7 hi hP => ?_) (fun σ H7 hP => ?_)⟩
      · obtain ⟨y8, y9, xs9, rfl, s7, hxs, hpr, lxs⟩ := hP
        have rl : (rowT i).length ≤ 5 := by
          unfold rowT
          rw [List.length_map, List.length_range]
          omega
        refine ⟨_, rfl, _, rfl, _, _, rfl, rfl, _, _, rfl, ⟨by omega, by omega, by omega, by omega⟩, fun D hD => lc_range (lo := 0 + (i : Int) + 1) (n := ((5 : Int) - (0 + (i : Int) + 1)).toNat) (fun j H8 => Ext H7 H8 ∧ ∃ ys, H8 D = some (.lst ys) ∧ Paired (EdgeT H8) ys ((rowT i).take j)) ⟨ext_upd hD, [], upd_same, .nil⟩ (fun j H8 hj hP => ?_) (fun H8 hP => ?_)⟩
        · obtain ⟨s8, ys, hys, hp8⟩ := hP
          have hj : j < 5 - (i + 1) := by omega
          have hg : (rowT i)[j]? = some (0 + (i : Int), 0 + (i : Int) + 1 + (j : Int), 1) := by
            unfold rowT
            rw [List.getElem?_map, List.getElem?_range hj]
            show some ((i : Int), ((i + 1 + j : Nat) : Int), (1 : Int)) = _
            congr 1
            refine Prod.ext ?_ (Prod.ext ?_ rfl)
            · show (i : Int) = 0 + i
              omega
            · show ((i + 1 + j : Nat) : Int) = 0 + (i : Int) + 1 + j
              omega
          refine ⟨rfl, _, rfl, _, rfl, (sl_of (by simp)), fun p hp => ?_⟩
          have hys2 := (ext_upd (o := .tup [V.int (0 + (i : Int)), .int (0 + (i : Int) + 1 + (j : Int)), .int 1]) hp).lst hys
          refine ⟨ys, hys2, ?_, (s8.new hp).own hD, ys ++ [.ref p], upd_same, ?_⟩
          · have l4 := hp8.length
            rw [List.length_take] at l4
            exact sl_lt (by omega)
          · rw [take_snoc hg]
            exact edgesT_upd hys2 (paired_snoc ((ext_upd hp).edgesT hp8) ⟨p, rfl, upd_same⟩)
        · obtain ⟨s8, ys, hys, hp8⟩ := hP
          have el : ((5 : Int) - (0 + (i : Int) + 1)).toNat = (rowT i).length := by
            unfold rowT
            rw [List.length_map, List.length_range]
            omega
          rw [el, List.take_length] at hp8
          have hx8 := s8.lst hxs
          refine ⟨pl, D, xs9, ys, rfl, rfl, hx8, hys, ?_, ?_⟩
          · have := hp8.length
            exact sl_of (by omega)
          · refine ⟨_, _, _, rfl, (s7.trans s8).own hpl, upd_same, ?_, ?_⟩
            · rw [prT_succ]
              exact edgesT_upd hx8 (paired_app (s8.edgesT hpr) hp8)
            · have := hp8.length
              rw [List.length_append]
              omega
      · obtain ⟨y8, y9, xs9, rfl, s7, hxs, hpr, _⟩ := hP
        refine ⟨_, rfl, _, rfl, _, rfl, pl, _, rfl, SqL.of hxs, fun e6 he6 => ?_⟩
        have w6 := ext_upd (o := .lst (cutV xs9 none (some ((m : Nat) : Int)))) he6
        have sAll := (xF.trans s7).trans w6
        have lm : ((prT 5).take m).length = m := by
          rw [List.length_take, len5.1]
          omega
        refine ⟨f0, e6, [0, 1, 0, -1, 0], xs9.take m, (prT 5).take m, _, _, _, _, rfl, s03.trans sAll, ⟨(s7.trans w6).lst kF, ?_, edges_at (paired_take (w6.edgesT hpr) m), dr5.goodF (by decide), take_good (dr5.goodE (by decide)) m, by decide, by decide, by decide, fun st hst => cost_le (fs := [0, 1, 0, -1, 0]) (by decide) (by decide) (c := 1) (fun e me => ?_) (by decide) (by rw [lm]; omega), ?_⟩, sAll.tup hxa, sAll.tup hya⟩
        · show upd H7 e6 (.lst (cutV xs9 none (some ((m : Nat) : Int)))) e6 = _
          rw [upd_same, cutN]
        · rw [len5.2 e (List.mem_of_mem_take me)]
          decide
        · rw [lm]
          rcases hm with e | e
          · exact .inr ⟨by omega, by omega⟩
          · exact .inl ⟨by omega, by omega⟩
    · exact ⟨fb, e5, fs, xs, es, 0, none, none, none, rfl, s03, ⟨hf3, he3, edges_at hes3, gf, ge, f1, f5, dr.small, fun st hst => cost_le dr.small f5 (c := 9) (fun e m => by
        obtain ⟨_, _, _, _, a5, a6⟩ := ge.2.1 e m
        exact ⟨a5, a6⟩) (by decide) (by omega), .inr ⟨by decide, by omega⟩⟩, hxa, hya⟩
  clear s1 he0 hes0 hf he5 hf5 hes5 s5 s3 s03 hf3 he3 hes3 hxa hya f5 f1 gf ge dr l6
  rintro σ H5 ⟨fb, e5, gs, xs, es, many, y7, y8, y9, rfl, s5, D5, hx5, hy5⟩
  have n12 := D5.l5
  have le24 := D5.ge.1
  refine ⟨_, rfl, _, rfl, fun sp dx hx' hdx hne => init_at T (fs := gs) (es := es) (.inl (SqL.of D5.f)) (.inl (SqL.of D5.e)) D5.ee (by omega) (by omega) (G.ext s5) D5.gf D5.ge hx' hdx (fun H6 s6 hsp => ⟨rfl, ?_⟩)⟩
  dsimp only [gName]
  have D6 := D5.up s6
  have s06 := s5.trans s6
  have hx6 := s6.tup hx5
  have hy6 := s6.tup hy5
  have h9 : ∀ e ∈ es, -9 ≤ e.2.2 ∧ e.2.2 ≤ 9 := fun e m => by
    obtain ⟨_, _, _, _, a5, a6⟩ := D5.ge.2.1 e m
    exact ⟨a5, a6⟩
  have hin : ∀ e ∈ es, 0 ≤ e.1 ∧ e.1 < (gs.length : Int) ∧ 0 ≤ e.2.1 ∧ e.2.1 < (gs.length : Int) := fun e m => by
    obtain ⟨a1, a2, a3, _, _, _⟩ := D5.ge.2.1 e m
    exact ⟨a1, by omega, by omega, a3⟩
  refine ⟨fun σ H7 => ∃ tl ta tb xs1 xs2 y12, σ = [some (.ref a), some (.int cc), some (.ref fb), some (.ref e5), some (.ref xa), some (.ref ya), some (.int many), y7, y8, y9, some (.ref sp), some (.ref tl), y12, none, none, none, none] ∧ Ext H6 H7 ∧ many ≠ 9 ∧ es.length ≤ 8 ∧ SqT K H7 tl [.ref ta, .ref tb] ∧ SqT K H7 ta xs1 ∧ SqT K H7 tb xs2 ∧ FrsV K H7 xs1 (wtL gs x y es) ∧ FrsV K H7 xs2 (setL gs x y es), ?_, ?_⟩
  · refine ⟨_, rfl, _, rfl, _, rfl, sp, xa, ya, gs, es, x, y, rfl, hsp, hx6, hy6, bx, bY, px, py, D5.l5, D5.sm, G.ext s06, fun l8 tl H7 ta tb xs1 xs2 s7 h1 h2 h3 h4 h5 => ?_, fun l8 H7 s7 => ?_⟩
    · refine ⟨tl, ta, tb, xs1, xs2, none, rfl, s7, ?_, l8, h1, h2, h3, h4, h5⟩
      rcases D5.m with ⟨_, e⟩ | ⟨e, _⟩
      · omega
      · exact e
    · refine ⟨true, T.xm_TooLarge, fun _ a0 ha0 => ⟨⟨rfl, rfl, T.ec_TooLarge⟩, ?_⟩, fun z => Bool.noConfusion z⟩
      have m9 : many = 9 := by
        rcases D5.m with ⟨e, _⟩ | ⟨_, e⟩
        · exact e
        · omega
      refine ⟨_, rfl, _, .ref T.f_TooLarge, true, rfl, fun u r => r, T.ki_TooLarge, _, rfl, iteT ?_⟩
      exact ⟨_, rfl, rfl, by rw [m9]; exact q _⟩
  rintro σ H7 ⟨tl, ta, tb, xs1, xs2, y12, rfl, s7, m9, l8, htl, hta, htb, hws, hss⟩
  have D7 := D6.up s7
  have s07 := s06.trans s7
  have hx7 := s7.tup hx6
  have hy7 := s7.tup hy6
  have hsp7 := hsp.up s7
  have n32 : 2 ^ gs.length ≤ 32 := Nat.pow_le_pow_right (by decide) (show gs.length ≤ 5 from D5.l5)
  have l256 : 2 ^ es.length ≤ 256 := Nat.pow_le_pow_right (by decide) (show es.length ≤ 8 from l8)
  have lW : (wtL gs x y es).length = 2 ^ gs.length := by
    unfold wtL
    rw [List.length_map, length_states]
  have lS : (setL gs x y es).length = 2 ^ es.length := by
    unfold setL
    rw [List.length_map, List.length_range]
  have nx : x ≠ 0 := fun h => Rat.lt_irrefl (h ▸ px)
  have ny : y ≠ 0 := fun h => Rat.lt_irrefl (h ▸ py)
  have tupP : tupD 5 (.tuple [serD (wtL gs x y es), serD (setL gs x y es)]) := by
    refine ⟨(by decide : 2 < 1000000), fun d m => ?_⟩
    simp only [List.mem_cons, List.not_mem_nil, or_false] at m
    rcases m with rfl | rfl
    · exact ser_tup (by omega)
    · exact ser_tup (by omega)
  have dpP : ∀ {HH : Hp}, Ext H7 HH → Dp K HH (.ref tl) (.tuple [serD (wtL gs x y es), serD (setL gs x y es)]) := fun s => .tup (s.tup htl) (.cons (ser_dp (s.tup hta) (frs_up s hws)) (.cons (ser_dp (s.tup htb) (frs_up s hss)) .nil))
  refine ⟨_, rfl, rfl, _, rfl, iteB (fun z => absurd (V.int.inj (of_decide_eq_true z)) m9) (fun _ => ?_)⟩
  refine ⟨_, rfl, _, _, _, _, _, rfl, .ty _, sqt_ty htl, kit_ty (r := true) (by decide +kernel), _, rfl, iteF ?_⟩
  refine ⟨_, rfl, tl, _, rfl, .inr htl, rfl, _, rfl, iteF ?_⟩
  refine ⟨_, rfl, _, _, rfl, dpP (Ext.refl _), tupP, fun H8 s8 => ⟨_, rfl, iteF ?_⟩⟩
  have x8 := s8.ext
  have D8 := D7.up x8
  refine ⟨_, rfl, tl, _, _, _, rfl, rfl, x8.tup htl, atI_nat (j := 0) rfl, ?_⟩
  refine ⟨_, rfl, _, rfl, _, rfl, _, rfl, fb, e5, xa, ya, gs, xs, es, x, y, rfl, SqL.of D8.f, SqL.of D8.e, D8.ee, D8.gf, D8.ge, x8.tup hx7, x8.tup hy7, sm12_of bx, sm12_of bY, nx, ny, by omega, D5.cost, fun wl H9 ws s9 nw hw hfw => ?_⟩
  refine ⟨wl, ws, rfl, .inl ⟨SqL.of hw, fun tw htw => ?_⟩⟩
  have x9 := s9.trans (ext_upd (o := .tup ws) htw)
  have hfw' := frs_up (ext_upd (o := .tup ws) htw) hfw
  have ktw : upd H9 tw (.tup ws) tw = some (.tup ws) := upd_same
  generalize upd H9 tw (.tup ws) = H10 at *
  have x79 := x8.trans x9
  refine ⟨serD (wtL gs x y es), serD (wtL gs x y es), ser_dp (x79.tup hta) (frs_up x79 hws), ser_dp (SqT.of ktw) hfw', (gd_ser _).sh, (gd_ser _).sh, ?_⟩
  rw [eqv_self (gd_ser _)]
  refine ⟨_, rfl, iteF ?_⟩
  have D10 := D8.up x9
  have lss := hss.length
  have lx := D5.ee.length
  have e2k : (1 : Int) * 2 ^ ((xs.length : Nat) : Int).toNat = ((2 ^ es.length : Nat) : Int) := by
    rw [Int.toNat_natCast, lx, Int.one_mul, Int.natCast_pow]
    rfl
  refine ⟨_, rfl, tl, _, _, _, rfl, rfl, x79.tup htl, atI_nat (j := 1) rfl, tb, _, rfl, .inr (x79.tup htb), ?_⟩
  refine ⟨_, rfl, e5, _, rfl, .inl (SqL.of D10.e), _, _, rfl, rfl, ⟨by omega, by omega, by decide⟩, rfl, _, rfl, iteB (fun z => ?_) (fun _ => ?_)⟩
  · exfalso
    have z : (!decide (V.int ((xs2.length : Nat) : Int) = V.int ((1 : Int) * 2 ^ ((xs.length : Nat) : Int).toNat))) = true := z
    rw [e2k, lss, lS, decide_eq_true rfl] at z
    cases z
  have hside : ∀ i, i < 2 → ∃ tX xsX, [V.ref ta, V.ref tb][i]? = some (.ref tX) ∧ SqT K H7 tX xsX ∧ FrsV K H7 xsX ((fun j => if j = 0 then wtL gs x y es else setL gs x y es) i) ∧ (∀ r ∈ (fun j => if j = 0 then wtL gs x y es else setL gs x y es) i, Sm r) ∧ ∀ k, Sm (sumL (((fun j => if j = 0 then wtL gs x y es else setL gs x y es) i).take k)) := fun i hi => by
    obtain rfl | rfl : i = 0 ∨ i = 1 := by omega
    · have h := wtL_sm bx bY px py (es := es) D5.l5 D5.cost
      exact ⟨ta, xs1, rfl, hta, hws, h.1, h.2⟩
    · have h := setL_sm bx bY px py D5.sm D5.l5 h9 hin l8
      exact ⟨tb, xs2, rfl, htb, hss, h.1, h.2⟩
  have e0 : (fun j => if j = 0 then wtL gs x y es else setL gs x y es) 0 = wtL gs x y es := rfl
  have e1 : (fun j => if j = 0 then wtL gs x y es else setL gs x y es) 1 = setL gs x y es := rfl
  generalize (fun j => if j = 0 then wtL gs x y es else setL gs x y es) = L at *
  refine ⟨sl2, fun u0 hu0 => ⟨sl2, fun u1 hu1 => ⟨by rw [sizeLine_eq]; simp, fun tt htt => ?_⟩⟩⟩
  have y0 := ext_upd (o := .tup [.int 0, .int 1]) hu0
  have q0 : SqT K (upd H10 u0 (.tup [.int 0, .int 1])) u0 [.int 0, .int 1] := SqT.of upd_same
  generalize upd H10 u0 (.tup [.int 0, .int 1]) = H11 at *
  have y1 := ext_upd (o := .tup [.int 0, .int 1]) hu1
  have q1 : SqT K (upd H11 u1 (.tup [.int 0, .int 1])) u1 [.int 0, .int 1] := SqT.of upd_same
  generalize upd H11 u1 (.tup [.int 0, .int 1]) = H12 at *
  have y2 := ext_upd (o := .lst [V.ref u0, .ref u1]) htt
  have q2 : upd H12 tt (.lst [V.ref u0, .ref u1]) tt = some (.lst [V.ref u0, .ref u1]) := upd_same
  have ntt := (x79.trans (y0.trans y1)).free htt
  have z2 : FrsV K (upd H12 tt (.lst [V.ref u0, .ref u1])) [V.ref u0, .ref u1] [tvL L 0 0 0, tvL L 0 0 1] := .cons ⟨u0, rfl, (y1.trans y2).tup q0⟩ (.cons ⟨u1, rfl, y2.tup q1⟩ .nil)
  dsimp only [gName]
  generalize upd H12 tt (.lst [V.ref u0, .ref u1]) = H13 at *
  have x7D := (x79.trans (y0.trans y1)).trans y2
  refine ⟨2, rfl, by decide, by decide, for_range (n := 2) (fun i σ HA => ∃ z12 z14 z15 us, σ = [some (.ref a), some (.int cc), some (.ref fb), some (.ref e5), some (.ref xa), some (.ref ya), some (.int many), y7, y8, y9, some (.ref sp), some (.ref tl), z12, some (.ref tt), z14, z15, none] ∧ Ext H7 HA ∧ HA tt = some (.lst us) ∧ FrsV K HA us [tvL L i 0 0, tvL L i 0 1]) ⟨_, _, _, _, rfl, x7D, q2, z2⟩ (fun i σ HA hi hP => ?_) (fun σ HA hP => ?_)⟩
  · obtain ⟨z12, z14, z15, us, rfl, sA, hus, hfu⟩ := hP
    have hi2 : i < 2 := hi
    obtain ⟨tX, xsX, hX1, hX2, hX3, hX4, hX5⟩ := hside i hi2
    have zi : (0 : Int) + ((i : Nat) : Int) = ((i : Nat) : Int) := Int.zero_add _
    have lX := hX3.length
    dsimp only [gName]
    rw [zi]
    refine ⟨_, rfl, _, rfl, tl, _, _, _, rfl, rfl, sA.tup htl, atI_nat hX1, tX, rfl, ⟨_, sA.tup hX2⟩, for_tup (xs := xsX) (fun k σ HB => ∃ z12 z15 us, σ = [some (.ref a), some (.int cc), some (.ref fb), some (.ref e5), some (.ref xa), some (.ref ya), some (.int many), y7, y8, y9, some (.ref sp), some (.ref tl), z12, some (.ref tt), some (.int ((i : Nat) : Int)), z15, none] ∧ Ext H7 HB ∧ HB tt = some (.lst us) ∧ FrsV K HB us [tvL L i k 0, tvL L i k 1]) ⟨_, _, us, rfl, sA, hus, hfu⟩ (fun k σ HB _ h => ?_) (fun k v σ HB hk hP => ?_) (fun σ HB hP => ?_)⟩
    · obtain ⟨_, _, _, _, sB, _⟩ := h
      exact sB.tup hX2
    · obtain ⟨z12, z15, us, rfl, sB, hus, hfu⟩ := hP
      obtain ⟨r, hr1, a9, rfl, ha9⟩ := paired_at (frs_up sB hX3) hk
      obtain ⟨v0, hv0, a0, rfl, ha0⟩ := paired_at' hfu (tv_at L hi2)
      have lus := hfu.length
      have lus : us.length = 2 := lus
      dsimp only [gName]
      refine ⟨_, rfl, _, rfl, tt, us, _, _, rfl, rfl, SqL.of hus, atI_nat hv0, _, rfl, a0, a9, _, _, rfl, ha0, ha9, okA_of (hX5 k) (hX4 r (List.mem_of_getElem? hr1)), fun pn HC sC nC hpn => ?_⟩
      rw [SM.addF_fq, ← sumL_snoc, ← take_snoc hr1] at hpn
      have husC := sC.ext.lst hus
      refine ⟨_, rfl, _, rfl, tt, us, _, i, rfl, rfl, husC, ?_, _, _, _, rfl, (sB.trans sC.ext).own ntt, upd_same, ?_⟩
      · unfold ixN
        rw [if_pos (by omega), if_pos (by omega)]
        simp
      · rw [← tv_set L hi2]
        refine frs_upd husC (paired_set (frs_up sC.ext hfu) ⟨pn, rfl, ?_⟩)
        rw [tv_self]
        exact SqT.of hpn
    · obtain ⟨z12, z15, us, rfl, sB, hus, hfu⟩ := hP
      rw [lX, tv_next, tv_next] at hfu
      exact ⟨_, _, _, us, rfl, sB, hus, hfu⟩
  obtain ⟨z12, z14, z15, us, rfl, sA, hus, hfu⟩ := hP
  have hfu : FrsV K HA us [sumL (L 0), sumL (L 1)] := hfu
  have eB : sumL (L 0) = sumL (L 1) := by
    rw [e0, e1]
    exact both_sums px py hin
  obtain ⟨w0, hw0, b0, rfl, hb0⟩ := paired_at' hfu (i := 0) rfl
  obtain ⟨w1, hw1, b1, rfl, hb1⟩ := paired_at' hfu (i := 1) rfl
  rw [← eB] at hb1
  refine ⟨_, rfl, tt, us, _, _, rfl, rfl, SqL.of hus, atI_nat (j := 0) hw0, _, rfl, tt, us, _, _, rfl, rfl, SqL.of hus, atI_nat (j := 1) hw1, ?_⟩
  refine ⟨frD (sumL (L 0)), frD (sumL (L 0)), fr_dp ⟨b0, rfl, hb0⟩, fr_dp ⟨b1, rfl, hb1⟩, (gd_frD _).sh, (gd_frD _).sh, ?_⟩
  rw [eqv_self (gd_frD _)]
  refine ⟨_, rfl, iteF ?_⟩
  have s0A := s07.trans sA
  refine ⟨_, rfl, sp, gs, es, rfl, hsp7.up sA, by omega, G.ext s0A, fun pp HB sB hpp npp => ?_⟩
  refine ⟨_, rfl, _, rfl, pp, xa, ya, canon (zraw gs es), x, y, rfl, hpp.at, (sA.trans sB).tup hx7, (sA.trans sB).tup hy7, bx, bY, px, py, pol_small D5.l5 D5.cost, fun pv HC sC hpv => ?_⟩
  rw [value_is, ← e0] at hpv
  have husC := sC.lst (sB.lst hus)
  refine ⟨_, rfl, tt, us, _, _, rfl, rfl, SqL.of husC, atI_nat (j := 0) hw0, ?_⟩
  refine ⟨frD (sumL (L 0)), frD (sumL (L 0)), fr_dp ⟨pv, rfl, hpv⟩, fr_dp ⟨b0, rfl, (sB.trans sC).tup hb0⟩, (gd_frD _).sh, (gd_frD _).sh, ?_⟩
  rw [eqv_self (gd_frD _)]
  refine ⟨_, rfl, iteF ?_⟩
  refine ⟨_, rfl, rfl, _, rfl, iteB (fun _ => q _) (fun _ => ?_)⟩
  have s7C := sA.trans (sB.trans sC)
  have DC := D7.up s7C
  refine ⟨_, rfl, e5, _, rfl, .inl (SqL.of DC.e), _, _, rfl, rfl, ⟨by omega, by omega, by decide⟩, ((2 ^ es.length : Nat) : Int), congrArg (fun z => [V.int z]) e2k, Int.le_trans (by decide) (Int.natCast_nonneg _), Int.lt_of_le_of_lt (Int.ofNat_le.mpr l256) (by decide), for_range (n := 2 ^ es.length) (fun m σ HA => ∃ z12 z14 z15 z16, σ = [some (.ref a), some (.int cc), some (.ref fb), some (.ref e5), some (.ref xa), some (.ref ya), some (.int many), y7, y8, y9, some (.ref sp), some (.ref tl), z12, some (.ref tt), z14, z15, z16] ∧ Ext H7 HA) ⟨_, _, _, _, rfl, s7C⟩ (fun m σ HD hm hP => ?_) (fun σ HD hP => ?_)⟩
  · obtain ⟨z12, z14, z15, z16, rfl, sD⟩ := hP
    have zm : (0 : Int) + ((m : Nat) : Int) = ((m : Nat) : Int) := Int.zero_add _
    have hm' : m < 2 ^ es.length := hm
    have DD := D7.up sD
    have hSm : (setL gs x y es)[m]? = some (setK x es es.length m * whole gs x y (partsK gs.length es es.length m)) := by
      unfold setL
      rw [List.getElem?_map, List.getElem?_range hm']
      rfl
    obtain ⟨vm, hvm, am, rfl, ham⟩ := paired_at' (frs_up sD hss) hSm
    dsimp only [gName]
    rw [zm]
    refine ⟨_, rfl, tl, _, _, _, rfl, rfl, sD.tup htl, atI_nat (j := 1) rfl, _, rfl, tb, _, _, _, rfl, rfl, sD.tup htb, atI_nat hvm, ?_⟩
    refine ⟨_, rfl, _, rfl, _, rfl, _, rfl, e5, _, rfl, .inl (SqL.of DD.e), m, es.length, congrArg (fun z : Nat => [V.int ((m : Nat) : Int), V.int ((z : Nat) : Int)]) lx, by omega, fun cl HE sE ncl hcl => ?_⟩
    have DE := DD.up sE
    refine ⟨_, rfl, _, rfl, fb, e5, cl, xa, ya, gs, xs, es, m, x, y, rfl, SqL.of DE.f, SqL.of DE.e, DE.ee, SqL.of hcl, (sD.trans sE).tup hx7, (sD.trans sE).tup hy7, bx, bY, px, py, D5.sm, D5.l5, l8, h9, hin, fun pq HF sF hpq => ?_⟩
    refine ⟨frD _, frD _, fr_dp ⟨am, rfl, (sE.trans sF).tup ham⟩, fr_dp ⟨pq, rfl, hpq⟩, (gd_frD _).sh, (gd_frD _).sh, ?_⟩
    rw [eqv_self (gd_frD _)]
    refine ⟨_, rfl, iteF ?_⟩
    exact ⟨_, _, _, _, rfl, sD.trans (sE.trans sF)⟩
  · exact q _
theorem tabG0 {H : Hp} {p : Addr} (h : H p = some (.tbl #[])) : GxR.TabG H p := ⟨#[], h, by simp [TriplesOk]⟩
end
theorem all_mk {l : PySem.W.OpenLaw} {q : Program} {w : World} {K : PySem.W.Frag} {h : Heap} {mg : Str → Option Value} {fa : Addr} (X : K.In h) (G : h.Ns mainGlobals mg) (hfa : mg "law" = some (.ref fa)) (AT : LamX.AllTab q K h)
    {f0 f1 f2 f3 f4 f5 f6 f7 f8 f9 c9 P9 f10 f11 f12 C_Spins c12 P12 f13 c13 P13 f14 f15 f16 c16 P16 f17 f18 f19 f20 f21 f22 c22 P22 f23 f24 f25 f26 f27 f28 f29 f30 f31 f32 f33 f34 f35 f36 f37 f38 f39 f40 f41 X_FieldError X_InvalidSpins X_InvalidWeight X_TooLarge : Addr}
    {oc0 kV0 dc0 pm0 ct0 cd0 oc1 kV1 dc1 pm1 ct1 cd1 oc2 kV2 dc2 pm2 ct2 cd2 oc3 kV3 dc3 pm3 ct3 cd3 oc4 kV4 dc4 pm4 ct4 cd4 oc5 kV5 dc5 pm5 ct5 cd5 oc6 kV6 dc6 pm6 ct6 cd6 oc7 kV7 dc7 pm7 ct7 cd7 oc8 kV8 dc8 pm8 ct8 cd8 oc9 kV9 dc9 pm9 ct9 ge9 oc10 kV10 dc10 pm10 ct10 cd10 oc11 kV11 dc11 pm11 ct11 cd11 oc12 kV12 dc12 pm12 ct12 ge12 oc13 kV13 dc13 pm13 ct13 ge13 oc14 kV14 dc14 pm14 ct14 cd14 oc15 kV15 dc15 pm15 ct15 cd15 oc16 kV16 dc16 pm16 ct16 ge16 oc17 kV17 dc17 pm17 ct17 cd17 oc18 kV18 dc18 pm18 ct18 cd18 oc19 kV19 dc19 pm19 ct19 cd19 oc20 kV20 dc20 pm20 ct20 cd20 oc21 kV21 dc21 pm21 ct21 cd21 oc22 kV22 dc22 pm22 ct22 ge22 oc23 kV23 dc23 pm23 ct23 cd23 oc24 kV24 dc24 pm24 ct24 cd24 oc25 kV25 dc25 pm25 ct25 cd25 oc26 kV26 dc26 pm26 ct26 cd26 oc27 kV27 dc27 pm27 ct27 cd27 oc28 kV28 dc28 pm28 ct28 cd28 oc29 kV29 dc29 pm29 ct29 cd29 oc30 kV30 dc30 pm30 ct30 cd30 oc31 kV31 dc31 pm31 ct31 cd31 oc32 kV32 dc32 pm32 ct32 cd32 oc33 kV33 dc33 pm33 ct33 cd33 oc34 kV34 dc34 pm34 ct34 cd34 oc35 kV35 dc35 pm35 ct35 cd35 oc36 kV36 dc36 pm36 ct36 cd36 oc37 kV37 dc37 pm37 ct37 cd37 oc38 kV38 dc38 pm38 ct38 cd38 oc39 kV39 dc39 pm39 ct39 cd39 oc40 kV40 dc40 pm40 ct40 cd40 oc41 kV41 dc41 pm41 ct41 cd41 : Value}
    {od0 an0 od1 an1 od2 an2 od3 an3 od4 an4 od5 an5 od6 an6 od7 an7 od8 an8 od9 an9 gd9 od10 an10 od11 an11 od12 an12 gd12 od13 an13 gd13 od14 an14 od15 an15 od16 an16 gd16 od17 an17 od18 an18 od19 an19 od20 an20 od21 an21 od22 an22 gd22 od23 an23 od24 an24 od25 an25 od26 an26 od27 an27 od28 an28 od29 an29 od30 an30 od31 an31 od32 an32 od33 an33 od34 an34 od35 an35 od36 an36 od37 an37 od38 an38 od39 an39 od40 an40 od41 an41 : Option Addr}
    {sl0 sl1 sl2 sl3 sl4 sl5 sl6 sl7 sl8 sl9 gs9 sl10 sl11 sl12 gs12 sl13 gs13 sl14 sl15 sl16 gs16 sl17 sl18 sl19 sl20 sl21 sl22 gs22 sl23 sl24 sl25 sl26 sl27 sl28 sl29 sl30 sl31 sl32 sl33 sl34 sl35 sl36 sl37 sl38 sl39 sl40 sl41 : Array (Option Value)}
    {gv9 gv12 gv13 gv16 gv22 : Array Value}
    {tk_MOST_VERTICES_spins tk_MOST_EDGES tk_MOST_SIZE tk_MOST_VERTICES_distributions tk_MOST_JOINT_EDGES : Tok}
    (a0 : PySem.W.nsIn K mainGlobals "fraction" = some (some (.ref f0)))
    (l0 : K.lookup f0 = some ⟨oc0, od0, .func (PySem.W.fnOf "fraction" "fraction" (defArgs s_fraction) (defBody s_fraction) (defScope s_fraction) .none kV0 dc0 pm0 an0 cd0 ct0), sl0⟩)
    (x0 : PySem.W.codeIn K cd0 "fraction" = true)
    (k0 : PySem.W.keepIn K (.ref f0) = true)
    (a1 : PySem.W.nsIn K mainGlobals "add" = some (some (.ref f1)))
    (l1 : K.lookup f1 = some ⟨oc1, od1, .func (PySem.W.fnOf "add" "add" (defArgs s_add) (defBody s_add) (defScope s_add) .none kV1 dc1 pm1 an1 cd1 ct1), sl1⟩)
    (x1 : PySem.W.codeIn K cd1 "add" = true)
    (k1 : PySem.W.keepIn K (.ref f1) = true)
    (a2 : PySem.W.nsIn K mainGlobals "subtract" = some (some (.ref f2)))
    (l2 : K.lookup f2 = some ⟨oc2, od2, .func (PySem.W.fnOf "subtract" "subtract" (defArgs s_subtract) (defBody s_subtract) (defScope s_subtract) .none kV2 dc2 pm2 an2 cd2 ct2), sl2⟩)
    (x2 : PySem.W.codeIn K cd2 "subtract" = true)
    (k2 : PySem.W.keepIn K (.ref f2) = true)
    (a3 : PySem.W.nsIn K mainGlobals "multiply" = some (some (.ref f3)))
    (l3 : K.lookup f3 = some ⟨oc3, od3, .func (PySem.W.fnOf "multiply" "multiply" (defArgs s_multiply) (defBody s_multiply) (defScope s_multiply) .none kV3 dc3 pm3 an3 cd3 ct3), sl3⟩)
    (x3 : PySem.W.codeIn K cd3 "multiply" = true)
    (k3 : PySem.W.keepIn K (.ref f3) = true)
    (a4 : PySem.W.nsIn K mainGlobals "divide" = some (some (.ref f4)))
    (l4 : K.lookup f4 = some ⟨oc4, od4, .func (PySem.W.fnOf "divide" "divide" (defArgs s_divide) (defBody s_divide) (defScope s_divide) .none kV4 dc4 pm4 an4 cd4 ct4), sl4⟩)
    (x4 : PySem.W.codeIn K cd4 "divide" = true)
    (k4 : PySem.W.keepIn K (.ref f4) = true)
    (a5 : PySem.W.nsIn K mainGlobals "compare" = some (some (.ref f5)))
    (l5 : K.lookup f5 = some ⟨oc5, od5, .func (PySem.W.fnOf "compare" "compare" (defArgs s_compare) (defBody s_compare) (defScope s_compare) .none kV5 dc5 pm5 an5 cd5 ct5), sl5⟩)
    (x5 : PySem.W.codeIn K cd5 "compare" = true)
    (k5 : PySem.W.keepIn K (.ref f5) = true)
    (a6 : PySem.W.nsIn K mainGlobals "raised" = some (some (.ref f6)))
    (l6 : K.lookup f6 = some ⟨oc6, od6, .func (PySem.W.fnOf "raised" "raised" (defArgs s_raised) (defBody s_raised) (defScope s_raised) .none kV6 dc6 pm6 an6 cd6 ct6), sl6⟩)
    (x6 : PySem.W.codeIn K cd6 "raised" = true)
    (k6 : PySem.W.keepIn K (.ref f6) = true)
    (a7 : PySem.W.nsIn K mainGlobals "repeated" = some (some (.ref f7)))
    (l7 : K.lookup f7 = some ⟨oc7, od7, .func (PySem.W.fnOf "repeated" "repeated" (defArgs s_repeated) (defBody s_repeated) (defScope s_repeated) .none kV7 dc7 pm7 an7 cd7 ct7), sl7⟩)
    (x7 : PySem.W.codeIn K cd7 "repeated" = true)
    (k7 : PySem.W.keepIn K (.ref f7) = true)
    (a8 : PySem.W.nsIn K mainGlobals "polynomial" = some (some (.ref f8)))
    (l8 : K.lookup f8 = some ⟨oc8, od8, .func (PySem.W.fnOf "polynomial" "polynomial" (defArgs s_polynomial) (defBody s_polynomial) (defScope s_polynomial) .none kV8 dc8 pm8 an8 cd8 ct8), sl8⟩)
    (x8 : PySem.W.codeIn K cd8 "polynomial" = true)
    (k8 : PySem.W.keepIn K (.ref f8) = true)
    (a9 : PySem.W.nsIn K mainGlobals "_in_order" = some (some (.ref f9)))
    (l9 : K.lookup f9 = some ⟨oc9, od9, .func (PySem.W.fnOf "_in_order" "_in_order" (defArgs s_in_order) (defBody s_in_order) (defScope s_in_order) .none kV9 dc9 pm9 an9 (.ref c9) ct9), sl9⟩)
    (x9 : PySem.W.codeIn K (.ref c9) "_in_order" = true)
    (k9 : PySem.W.keepIn K (.ref f9) = true)
    (h9 : K.lookup c9 = some ⟨ge9, gd9, .fields gv9, gs9⟩)
    (v9 : gv9[11]? = some (.ref P9))
    (n9 : K.lookup P9 = none)
    (e9 : PySem.W.codeHdIn K c9 P9 = true)
    (r9 : ((recsOf q).any fun r => r.name == ("_in_order" : Str)) = true)
    (a10 : PySem.W.nsIn K mainGlobals "value" = some (some (.ref f10)))
    (l10 : K.lookup f10 = some ⟨oc10, od10, .func (PySem.W.fnOf "value" "value" (defArgs s_value) (defBody s_value) (defScope s_value) .none kV10 dc10 pm10 an10 cd10 ct10), sl10⟩)
    (x10 : PySem.W.codeIn K cd10 "value" = true)
    (k10 : PySem.W.keepIn K (.ref f10) = true)
    (a11 : PySem.W.nsIn K mainGlobals "_coefficients_at" = some (some (.ref f11)))
    (l11 : K.lookup f11 = some ⟨oc11, od11, .func (PySem.W.fnOf "_coefficients_at" "_coefficients_at" (defArgs s_coefficients_at) (defBody s_coefficients_at) (defScope s_coefficients_at) .none kV11 dc11 pm11 an11 cd11 ct11), sl11⟩)
    (x11 : PySem.W.codeIn K cd11 "_coefficients_at" = true)
    (k11 : PySem.W.keepIn K (.ref f11) = true)
    (ac_Spins : PySem.W.nsIn K mainGlobals "Spins" = some (some (.ref C_Spins)))
    (a12 : PySem.W.findIn K (.ref C_Spins) "__init__" = some (some (.ref f12)))
    (i12 : PySem.W.isFn K (.ref f12) = true)
    (l12 : K.lookup f12 = some ⟨oc12, od12, .func (PySem.W.fnOf "__init__" "Spins.__init__" (defArgs s_Spins_init) (defBody s_Spins_init) (defScope s_Spins_init) .none kV12 dc12 pm12 an12 (.ref c12) ct12), sl12⟩)
    (x12 : PySem.W.codeIn K (.ref c12) "Spins.__init__" = true)
    (k12 : PySem.W.keepIn K (.ref f12) = true)
    (h12 : K.lookup c12 = some ⟨ge12, gd12, .fields gv12, gs12⟩)
    (v12 : gv12[11]? = some (.ref P12))
    (n12 : K.lookup P12 = none)
    (e12 : PySem.W.codeHdIn K c12 P12 = true)
    (t12 : h.get? P12 = some { cls := .none, data := .fields #[] })
    (a13 : PySem.W.nsIn K mainGlobals "_check_fields" = some (some (.ref f13)))
    (l13 : K.lookup f13 = some ⟨oc13, od13, .func (PySem.W.fnOf "_check_fields" "_check_fields" (defArgs s_check_fields) (defBody s_check_fields) (defScope s_check_fields) .none kV13 dc13 pm13 an13 (.ref c13) ct13), sl13⟩)
    (x13 : PySem.W.codeIn K (.ref c13) "_check_fields" = true)
    (k13 : PySem.W.keepIn K (.ref f13) = true)
    (h13 : K.lookup c13 = some ⟨ge13, gd13, .fields gv13, gs13⟩)
    (v13 : gv13[11]? = some (.ref P13))
    (n13 : K.lookup P13 = none)
    (e13 : PySem.W.codeHdIn K c13 P13 = true)
    (r13 : ((recsOf q).any fun r => r.name == ("_check_fields" : Str)) = true)
    (a14 : PySem.W.nsIn K mainGlobals "_check_edges" = some (some (.ref f14)))
    (l14 : K.lookup f14 = some ⟨oc14, od14, .func (PySem.W.fnOf "_check_edges" "_check_edges" (defArgs s_check_edges) (defBody s_check_edges) (defScope s_check_edges) .none kV14 dc14 pm14 an14 cd14 ct14), sl14⟩)
    (x14 : PySem.W.codeIn K cd14 "_check_edges" = true)
    (k14 : PySem.W.keepIn K (.ref f14) = true)
    (a15 : PySem.W.nsIn K mainGlobals "all_states" = some (some (.ref f15)))
    (l15 : K.lookup f15 = some ⟨oc15, od15, .func (PySem.W.fnOf "all_states" "all_states" (defArgs s_all_states) (defBody s_all_states) (defScope s_all_states) .none kV15 dc15 pm15 an15 cd15 ct15), sl15⟩)
    (x15 : PySem.W.codeIn K cd15 "all_states" = true)
    (k15 : PySem.W.keepIn K (.ref f15) = true)
    (a16 : PySem.W.nsIn K mainGlobals "cost" = some (some (.ref f16)))
    (l16 : K.lookup f16 = some ⟨oc16, od16, .func (PySem.W.fnOf "cost" "cost" (defArgs s_cost) (defBody s_cost) (defScope s_cost) .none kV16 dc16 pm16 an16 (.ref c16) ct16), sl16⟩)
    (x16 : PySem.W.codeIn K (.ref c16) "cost" = true)
    (k16 : PySem.W.keepIn K (.ref f16) = true)
    (h16 : K.lookup c16 = some ⟨ge16, gd16, .fields gv16, gs16⟩)
    (v16 : gv16[11]? = some (.ref P16))
    (n16 : K.lookup P16 = none)
    (e16 : PySem.W.codeHdIn K c16 P16 = true)
    (r16 : ((recsOf q).any fun r => r.name == ("cost" : Str)) = true)
    (a17 : PySem.W.nsIn K mainGlobals "ups" = some (some (.ref f17)))
    (l17 : K.lookup f17 = some ⟨oc17, od17, .func (PySem.W.fnOf "ups" "ups" (defArgs s_ups) (defBody s_ups) (defScope s_ups) .none kV17 dc17 pm17 an17 cd17 ct17), sl17⟩)
    (x17 : PySem.W.codeIn K cd17 "ups" = true)
    (k17 : PySem.W.keepIn K (.ref f17) = true)
    (a18 : PySem.W.nsIn K mainGlobals "sum_by_states" = some (some (.ref f18)))
    (l18 : K.lookup f18 = some ⟨oc18, od18, .func (PySem.W.fnOf "sum_by_states" "sum_by_states" (defArgs s_sum_by_states) (defBody s_sum_by_states) (defScope s_sum_by_states) .none kV18 dc18 pm18 an18 cd18 ct18), sl18⟩)
    (x18 : PySem.W.codeIn K cd18 "sum_by_states" = true)
    (k18 : PySem.W.keepIn K (.ref f18) = true)
    (a19 : PySem.W.nsIn K mainGlobals "check_above_zero" = some (some (.ref f19)))
    (l19 : K.lookup f19 = some ⟨oc19, od19, .func (PySem.W.fnOf "check_above_zero" "check_above_zero" (defArgs s_check_above_zero) (defBody s_check_above_zero) (defScope s_check_above_zero) .none kV19 dc19 pm19 an19 cd19 ct19), sl19⟩)
    (x19 : PySem.W.codeIn K cd19 "check_above_zero" = true)
    (k19 : PySem.W.keepIn K (.ref f19) = true)
    (a20 : PySem.W.nsIn K mainGlobals "check_small" = some (some (.ref f20)))
    (l20 : K.lookup f20 = some ⟨oc20, od20, .func (PySem.W.fnOf "check_small" "check_small" (defArgs s_check_small) (defBody s_check_small) (defScope s_check_small) .none kV20 dc20 pm20 an20 cd20 ct20), sl20⟩)
    (x20 : PySem.W.codeIn K cd20 "check_small" = true)
    (k20 : PySem.W.keepIn K (.ref f20) = true)
    (a21 : PySem.W.nsIn K mainGlobals "joint_sums" = some (some (.ref f21)))
    (l21 : K.lookup f21 = some ⟨oc21, od21, .func (PySem.W.fnOf "joint_sums" "joint_sums" (defArgs s_joint_sums) (defBody s_joint_sums) (defScope s_joint_sums) .none kV21 dc21 pm21 an21 cd21 ct21), sl21⟩)
    (x21 : PySem.W.codeIn K cd21 "joint_sums" = true)
    (k21 : PySem.W.keepIn K (.ref f21) = true)
    (a22 : PySem.W.nsIn K mainGlobals "_joint_weights" = some (some (.ref f22)))
    (l22 : K.lookup f22 = some ⟨oc22, od22, .func (PySem.W.fnOf "_joint_weights" "_joint_weights" (defArgs s_joint_weights) (defBody s_joint_weights) (defScope s_joint_weights) .none kV22 dc22 pm22 an22 (.ref c22) ct22), sl22⟩)
    (x22 : PySem.W.codeIn K (.ref c22) "_joint_weights" = true)
    (k22 : PySem.W.keepIn K (.ref f22) = true)
    (h22 : K.lookup c22 = some ⟨ge22, gd22, .fields gv22, gs22⟩)
    (v22 : gv22[11]? = some (.ref P22))
    (n22 : K.lookup P22 = none)
    (e22 : PySem.W.codeHdIn K c22 P22 = true)
    (r22 : ((recsOf q).any fun r => r.name == ("_joint_weights" : Str)) = true)
    (a23 : PySem.W.nsIn K mainGlobals "_sum_of" = some (some (.ref f23)))
    (l23 : K.lookup f23 = some ⟨oc23, od23, .func (PySem.W.fnOf "_sum_of" "_sum_of" (defArgs s_sum_of) (defBody s_sum_of) (defScope s_sum_of) .none kV23 dc23 pm23 an23 cd23 ct23), sl23⟩)
    (x23 : PySem.W.codeIn K cd23 "_sum_of" = true)
    (k23 : PySem.W.keepIn K (.ref f23) = true)
    (a24 : PySem.W.nsIn K mainGlobals "_law_cell" = some (some (.ref f24)))
    (l24 : K.lookup f24 = some ⟨oc24, od24, .func (PySem.W.fnOf "_law_cell" "_law_cell" (defArgs s_law_cell) (defBody s_law_cell) (defScope s_law_cell) .none kV24 dc24 pm24 an24 cd24 ct24), sl24⟩)
    (x24 : PySem.W.codeIn K cd24 "_law_cell" = true)
    (k24 : PySem.W.keepIn K (.ref f24) = true)
    (a25 : PySem.W.nsIn K mainGlobals "_law_mix" = some (some (.ref f25)))
    (l25 : K.lookup f25 = some ⟨oc25, od25, .func (PySem.W.fnOf "_law_mix" "_law_mix" (defArgs s_law_mix) (defBody s_law_mix) (defScope s_law_mix) .none kV25 dc25 pm25 an25 cd25 ct25), sl25⟩)
    (x25 : PySem.W.codeIn K cd25 "_law_mix" = true)
    (k25 : PySem.W.keepIn K (.ref f25) = true)
    (a26 : PySem.W.nsIn K mainGlobals "_law_row" = some (some (.ref f26)))
    (l26 : K.lookup f26 = some ⟨oc26, od26, .func (PySem.W.fnOf "_law_row" "_law_row" (defArgs s_law_row) (defBody s_law_row) (defScope s_law_row) .none kV26 dc26 pm26 an26 cd26 ct26), sl26⟩)
    (x26 : PySem.W.codeIn K cd26 "_law_row" = true)
    (k26 : PySem.W.keepIn K (.ref f26) = true)
    (a27 : PySem.W.nsIn K mainGlobals "_law_tuples" = some (some (.ref f27)))
    (l27 : K.lookup f27 = some ⟨oc27, od27, .func (PySem.W.fnOf "_law_tuples" "_law_tuples" (defArgs s_law_tuples) (defBody s_law_tuples) (defScope s_law_tuples) .none kV27 dc27 pm27 an27 cd27 ct27), sl27⟩)
    (x27 : PySem.W.codeIn K cd27 "_law_tuples" = true)
    (k27 : PySem.W.keepIn K (.ref f27) = true)
    (a28 : PySem.W.nsIn K mainGlobals "_law_gcd" = some (some (.ref f28)))
    (l28 : K.lookup f28 = some ⟨oc28, od28, .func (PySem.W.fnOf "_law_gcd" "_law_gcd" (defArgs s_law_gcd) (defBody s_law_gcd) (defScope s_law_gcd) .none kV28 dc28 pm28 an28 cd28 ct28), sl28⟩)
    (x28 : PySem.W.codeIn K cd28 "_law_gcd" = true)
    (k28 : PySem.W.keepIn K (.ref f28) = true)
    (a29 : PySem.W.nsIn K mainGlobals "_law_frac" = some (some (.ref f29)))
    (l29 : K.lookup f29 = some ⟨oc29, od29, .func (PySem.W.fnOf "_law_frac" "_law_frac" (defArgs s_law_frac) (defBody s_law_frac) (defScope s_law_frac) .none kV29 dc29 pm29 an29 cd29 ct29), sl29⟩)
    (x29 : PySem.W.codeIn K cd29 "_law_frac" = true)
    (k29 : PySem.W.keepIn K (.ref f29) = true)
    (a30 : PySem.W.nsIn K mainGlobals "_law_add" = some (some (.ref f30)))
    (l30 : K.lookup f30 = some ⟨oc30, od30, .func (PySem.W.fnOf "_law_add" "_law_add" (defArgs s_law_add) (defBody s_law_add) (defScope s_law_add) .none kV30 dc30 pm30 an30 cd30 ct30), sl30⟩)
    (x30 : PySem.W.codeIn K cd30 "_law_add" = true)
    (k30 : PySem.W.keepIn K (.ref f30) = true)
    (a31 : PySem.W.nsIn K mainGlobals "_law_mul" = some (some (.ref f31)))
    (l31 : K.lookup f31 = some ⟨oc31, od31, .func (PySem.W.fnOf "_law_mul" "_law_mul" (defArgs s_law_mul) (defBody s_law_mul) (defScope s_law_mul) .none kV31 dc31 pm31 an31 cd31 ct31), sl31⟩)
    (x31 : PySem.W.codeIn K cd31 "_law_mul" = true)
    (k31 : PySem.W.keepIn K (.ref f31) = true)
    (a32 : PySem.W.nsIn K mainGlobals "_law_pow" = some (some (.ref f32)))
    (l32 : K.lookup f32 = some ⟨oc32, od32, .func (PySem.W.fnOf "_law_pow" "_law_pow" (defArgs s_law_pow) (defBody s_law_pow) (defScope s_law_pow) .none kV32 dc32 pm32 an32 cd32 ct32), sl32⟩)
    (x32 : PySem.W.codeIn K cd32 "_law_pow" = true)
    (k32 : PySem.W.keepIn K (.ref f32) = true)
    (a33 : PySem.W.nsIn K mainGlobals "_law_spins" = some (some (.ref f33)))
    (l33 : K.lookup f33 = some ⟨oc33, od33, .func (PySem.W.fnOf "_law_spins" "_law_spins" (defArgs s_law_spins) (defBody s_law_spins) (defScope s_law_spins) .none kV33 dc33 pm33 an33 cd33 ct33), sl33⟩)
    (x33 : PySem.W.codeIn K cd33 "_law_spins" = true)
    (k33 : PySem.W.keepIn K (.ref f33) = true)
    (a34 : PySem.W.nsIn K mainGlobals "_law_states" = some (some (.ref f34)))
    (l34 : K.lookup f34 = some ⟨oc34, od34, .func (PySem.W.fnOf "_law_states" "_law_states" (defArgs s_law_states) (defBody s_law_states) (defScope s_law_states) .none kV34 dc34 pm34 an34 cd34 ct34), sl34⟩)
    (x34 : PySem.W.codeIn K cd34 "_law_states" = true)
    (k34 : PySem.W.keepIn K (.ref f34) = true)
    (a35 : PySem.W.nsIn K mainGlobals "_law_cost" = some (some (.ref f35)))
    (l35 : K.lookup f35 = some ⟨oc35, od35, .func (PySem.W.fnOf "_law_cost" "_law_cost" (defArgs s_law_cost) (defBody s_law_cost) (defScope s_law_cost) .none kV35 dc35 pm35 an35 cd35 ct35), sl35⟩)
    (x35 : PySem.W.codeIn K cd35 "_law_cost" = true)
    (k35 : PySem.W.keepIn K (.ref f35) = true)
    (a36 : PySem.W.nsIn K mainGlobals "_law_weights" = some (some (.ref f36)))
    (l36 : K.lookup f36 = some ⟨oc36, od36, .func (PySem.W.fnOf "_law_weights" "_law_weights" (defArgs s_law_weights) (defBody s_law_weights) (defScope s_law_weights) .none kV36 dc36 pm36 an36 cd36 ct36), sl36⟩)
    (x36 : PySem.W.codeIn K cd36 "_law_weights" = true)
    (k36 : PySem.W.keepIn K (.ref f36) = true)
    (a37 : PySem.W.nsIn K mainGlobals "_law_fractions" = some (some (.ref f37)))
    (l37 : K.lookup f37 = some ⟨oc37, od37, .func (PySem.W.fnOf "_law_fractions" "_law_fractions" (defArgs s_law_fractions) (defBody s_law_fractions) (defScope s_law_fractions) .none kV37 dc37 pm37 an37 cd37 ct37), sl37⟩)
    (x37 : PySem.W.codeIn K cd37 "_law_fractions" = true)
    (k37 : PySem.W.keepIn K (.ref f37) = true)
    (a38 : PySem.W.nsIn K mainGlobals "_law_parts" = some (some (.ref f38)))
    (l38 : K.lookup f38 = some ⟨oc38, od38, .func (PySem.W.fnOf "_law_parts" "_law_parts" (defArgs s_law_parts) (defBody s_law_parts) (defScope s_law_parts) .none kV38 dc38 pm38 an38 cd38 ct38), sl38⟩)
    (x38 : PySem.W.codeIn K cd38 "_law_parts" = true)
    (k38 : PySem.W.keepIn K (.ref f38) = true)
    (a39 : PySem.W.nsIn K mainGlobals "_law_bits" = some (some (.ref f39)))
    (l39 : K.lookup f39 = some ⟨oc39, od39, .func (PySem.W.fnOf "_law_bits" "_law_bits" (defArgs s_law_bits) (defBody s_law_bits) (defScope s_law_bits) .none kV39 dc39 pm39 an39 cd39 ct39), sl39⟩)
    (x39 : PySem.W.codeIn K cd39 "_law_bits" = true)
    (k39 : PySem.W.keepIn K (.ref f39) = true)
    (a40 : PySem.W.nsIn K mainGlobals "_law_set_weight" = some (some (.ref f40)))
    (l40 : K.lookup f40 = some ⟨oc40, od40, .func (PySem.W.fnOf "_law_set_weight" "_law_set_weight" (defArgs s_law_set_weight) (defBody s_law_set_weight) (defScope s_law_set_weight) .none kV40 dc40 pm40 an40 cd40 ct40), sl40⟩)
    (x40 : PySem.W.codeIn K cd40 "_law_set_weight" = true)
    (k40 : PySem.W.keepIn K (.ref f40) = true)
    (a41 : PySem.W.nsIn K mainGlobals "law" = some (some (.ref f41)))
    (l41 : K.lookup f41 = some ⟨oc41, od41, .func (PySem.W.fnOf "law" "law" (defArgs s_law) (defBody s_law) (defScope s_law) .none kV41 dc41 pm41 an41 cd41 ct41), sl41⟩)
    (x41 : PySem.W.codeIn K cd41 "law" = true)
    (k41 : PySem.W.keepIn K (.ref f41) = true)
    (n_MOST_VERTICES_spins : PySem.W.nsIn K mainGlobals "MOST_VERTICES_spins" = some (some (.int 12 tk_MOST_VERTICES_spins)))
    (n_MOST_EDGES : PySem.W.nsIn K mainGlobals "MOST_EDGES" = some (some (.int 24 tk_MOST_EDGES)))
    (n_MOST_SIZE : PySem.W.nsIn K mainGlobals "MOST_SIZE" = some (some (.int 9 tk_MOST_SIZE)))
    (n_MOST_VERTICES_distributions : PySem.W.nsIn K mainGlobals "MOST_VERTICES_distributions" = some (some (.int 6 tk_MOST_VERTICES_distributions)))
    (n_MOST_JOINT_EDGES : PySem.W.nsIn K mainGlobals "MOST_JOINT_EDGES" = some (some (.int 8 tk_MOST_JOINT_EDGES)))
    (ax_FieldError : PySem.W.nsIn K mainGlobals "FieldError" = some (some (.ref X_FieldError)))
    (q_FieldError : PySem.W.excIn K X_FieldError veB "ValueError.__new__" = true)
    (kx_FieldError : PySem.W.keepIn K (.ref X_FieldError) = true)
    (bx_FieldError : PySem.W.subIn K (.ref X_FieldError) (.type "BaseException") = some true)
    (yx_FieldError : PySem.W.typeIn K (.ref X_FieldError) = some (.type "type"))
    (ax_InvalidSpins : PySem.W.nsIn K mainGlobals "InvalidSpins" = some (some (.ref X_InvalidSpins)))
    (q_InvalidSpins : PySem.W.excIn K X_InvalidSpins veB "ValueError.__new__" = true)
    (kx_InvalidSpins : PySem.W.keepIn K (.ref X_InvalidSpins) = true)
    (bx_InvalidSpins : PySem.W.subIn K (.ref X_InvalidSpins) (.type "BaseException") = some true)
    (yx_InvalidSpins : PySem.W.typeIn K (.ref X_InvalidSpins) = some (.type "type"))
    (ax_InvalidWeight : PySem.W.nsIn K mainGlobals "InvalidWeight" = some (some (.ref X_InvalidWeight)))
    (q_InvalidWeight : PySem.W.excIn K X_InvalidWeight veB "ValueError.__new__" = true)
    (kx_InvalidWeight : PySem.W.keepIn K (.ref X_InvalidWeight) = true)
    (bx_InvalidWeight : PySem.W.subIn K (.ref X_InvalidWeight) (.type "BaseException") = some true)
    (yx_InvalidWeight : PySem.W.typeIn K (.ref X_InvalidWeight) = some (.type "type"))
    (ax_TooLarge : PySem.W.nsIn K mainGlobals "TooLarge" = some (some (.ref X_TooLarge)))
    (q_TooLarge : PySem.W.excIn K X_TooLarge veB "ValueError.__new__" = true)
    (kx_TooLarge : PySem.W.keepIn K (.ref X_TooLarge) = true)
    (bx_TooLarge : PySem.W.subIn K (.ref X_TooLarge) (.type "BaseException") = some true)
    (yx_TooLarge : PySem.W.typeIn K (.ref X_TooLarge) = some (.type "type"))
    (pg_Spins : PySem.W.plainGet K C_Spins Str.empty = true)
    (hd_Spins : PySem.W.hasDictIn K C_Spins = true)
    (po_Spins : PySem.W.plainOver K C_Spins = true)
    (sa_Spins : PySem.W.findIn K (.ref C_Spins) "__setattr__" = some (some (.builtin "object.__setattr__")))
    (mk_Spins : PySem.W.makesIn K C_Spins = true)
    (kc_Spins : PySem.W.keepIn K (.ref C_Spins) = true)
    (na_Spins_fields : PySem.W.findIn K (.ref C_Spins) "fields" = some none)
    (na_Spins_edges : PySem.W.findIn K (.ref C_Spins) "edges" = some none)
    (i_gcd : PySem.W.nsIn K mainGlobals "gcd" = some (some (.builtin "math.gcd")))
    (z_abs : PySem.W.nsIn K mainGlobals "abs" = some none)
    (z_all : PySem.W.nsIn K mainGlobals "all" = some none)
    (z_bool : PySem.W.nsIn K mainGlobals "bool" = some none)
    (z_int : PySem.W.nsIn K mainGlobals "int" = some none)
    (z_isinstance : PySem.W.nsIn K mainGlobals "isinstance" = some none)
    (z_len : PySem.W.nsIn K mainGlobals "len" = some none)
    (z_list : PySem.W.nsIn K mainGlobals "list" = some none)
    (z_range : PySem.W.nsIn K mainGlobals "range" = some none)
    (z_sorted : PySem.W.nsIn K mainGlobals "sorted" = some none)
    (z_sum : PySem.W.nsIn K mainGlobals "sum" = some none)
    (z_tuple : PySem.W.nsIn K mainGlobals "tuple" = some none)
    (z_zip : PySem.W.nsIn K mainGlobals "zip" = some none)
    (xm_TooLarge : PySem.W.exmOne K (.ref X_TooLarge) (.ref X_FieldError) = some true)
    (ki_TooLarge : PySem.W.kitOne K (.ref X_TooLarge) (.ref X_TooLarge) = some true)
    (ehg_TooLarge : PySem.W.findIn K (.ref X_TooLarge) "__getattribute__" = some (some (.builtin "BaseException.__getattribute__")))
    (ehk_TooLarge : PySem.W.findIn K (.ref X_TooLarge) "__getattr__" = some none)
    (ehd_TooLarge : PySem.W.hasDictIn K X_TooLarge = true)
    (eha_TooLarge : PySem.W.findIn K (.ref X_TooLarge) "__class__" = some (some (.builtin "object.__class__")))
    (ehn_TooLarge : PySem.W.specialIn K (.builtin "object.__class__") "__get__" = some (some (.builtin "getset_descriptor.__get__")))
    (eht_TooLarge : PySem.W.takesIn K (.builtin "object.__class__") = some true)
    (ehm_TooLarge : PySem.W.mroIn K X_TooLarge (.type "object") = some true) :
    LamX.LawAtS l w K CX0 8 63 "script" mg fa h := by
  have e := hfa.symm.trans (PySem.W.mg_of X G a41)
  cases e
  have F0 := fun_mk (st := s_fraction) l0 x0 k0
  have b0 := F0.binds (ps := ["numerator", "denominator"]) fun _ _ _ _ _ _ us hl => match us, hl with | [_, _], _ => rfl
  have F1 := fun_mk (st := s_add) l1 x1 k1
  have b1 := F1.binds (ps := ["a", "b"]) fun _ _ _ _ _ _ us hl => match us, hl with | [_, _], _ => rfl
  have F2 := fun_mk (st := s_subtract) l2 x2 k2
  have b2 := F2.binds (ps := ["a", "b"]) fun _ _ _ _ _ _ us hl => match us, hl with | [_, _], _ => rfl
  have F3 := fun_mk (st := s_multiply) l3 x3 k3
  have b3 := F3.binds (ps := ["a", "b"]) fun _ _ _ _ _ _ us hl => match us, hl with | [_, _], _ => rfl
  have F4 := fun_mk (st := s_divide) l4 x4 k4
  have b4 := F4.binds (ps := ["a", "b"]) fun _ _ _ _ _ _ us hl => match us, hl with | [_, _], _ => rfl
  have F5 := fun_mk (st := s_compare) l5 x5 k5
  have b5 := F5.binds (ps := ["a", "b"]) fun _ _ _ _ _ _ us hl => match us, hl with | [_, _], _ => rfl
  have F6 := fun_mk (st := s_raised) l6 x6 k6
  have b6 := F6.binds (ps := ["a", "exponent"]) fun _ _ _ _ _ _ us hl => match us, hl with | [_, _], _ => rfl
  have F7 := fun_mk (st := s_repeated) l7 x7 k7
  have b7 := F7.binds (ps := ["base", "exponent", "one", "combine"]) fun _ _ _ _ _ _ us hl => match us, hl with | [_, _, _, _], _ => rfl
  have F8 := fun_mk (st := s_polynomial) l8 x8 k8
  have b8 := F8.binds (ps := ["terms"]) fun _ _ _ _ _ _ us hl => match us, hl with | [_], _ => rfl
  have F9 := funC_mk (st := s_in_order) l9 x9 k9
  have b9 := F9.binds (ps := ["found"]) fun _ _ _ _ _ _ us hl => match us, hl with | [_], _ => rfl
  have F10 := fun_mk (st := s_value) l10 x10 k10
  have b10 := F10.binds (ps := ["p", "x", "y"]) fun _ _ _ _ _ _ us hl => match us, hl with | [_, _, _], _ => rfl
  have F11 := fun_mk (st := s_coefficients_at) l11 x11 k11
  have b11 := F11.binds (ps := ["p", "x"]) fun _ _ _ _ _ _ us hl => match us, hl with | [_, _], _ => rfl
  have F12 := funC_mk (st := s_Spins_init) l12 x12 k12
  have b12 := F12.binds (ps := ["self", "fields", "edges"]) fun _ _ _ _ _ _ us hl => match us, hl with | [_, _, _], _ => rfl
  have F13 := funC_mk (st := s_check_fields) l13 x13 k13
  have b13 := F13.binds (ps := ["fields"]) fun _ _ _ _ _ _ us hl => match us, hl with | [_], _ => rfl
  have F14 := fun_mk (st := s_check_edges) l14 x14 k14
  have b14 := F14.binds (ps := ["edges", "count"]) fun _ _ _ _ _ _ us hl => match us, hl with | [_, _], _ => rfl
  have F15 := fun_mk (st := s_all_states) l15 x15 k15
  have b15 := F15.binds (ps := ["spins"]) fun _ _ _ _ _ _ us hl => match us, hl with | [_], _ => rfl
  have F16 := funC_mk (st := s_cost) l16 x16 k16
  have b16 := F16.binds (ps := ["spins", "state"]) fun _ _ _ _ _ _ us hl => match us, hl with | [_, _], _ => rfl
  have F17 := fun_mk (st := s_ups) l17 x17 k17
  have b17 := F17.binds (ps := ["state"]) fun _ _ _ _ _ _ us hl => match us, hl with | [_], _ => rfl
  have F18 := fun_mk (st := s_sum_by_states) l18 x18 k18
  have b18 := F18.binds (ps := ["spins"]) fun _ _ _ _ _ _ us hl => match us, hl with | [_], _ => rfl
  have F19 := fun_mk (st := s_check_above_zero) l19 x19 k19
  have b19 := F19.binds (ps := ["x", "y"]) fun _ _ _ _ _ _ us hl => match us, hl with | [_, _], _ => rfl
  have F20 := fun_mk (st := s_check_small) l20 x20 k20
  have b20 := F20.binds (ps := ["spins", "x", "y"]) fun _ _ _ _ _ _ us hl => match us, hl with | [_, _, _], _ => rfl
  have F21 := fun_mk (st := s_joint_sums) l21 x21 k21
  have b21 := F21.binds (ps := ["spins", "x", "y"]) fun _ _ _ _ _ _ us hl => match us, hl with | [_, _, _], _ => rfl
  have F22 := funC_mk (st := s_joint_weights) l22 x22 k22
  have b22 := F22.binds (ps := ["spins", "state", "x", "y"]) fun _ _ _ _ _ _ us hl => match us, hl with | [_, _, _, _], _ => rfl
  have F23 := fun_mk (st := s_sum_of) l23 x23 k23
  have b23 := F23.binds (ps := ["numbers"]) fun _ _ _ _ _ _ us hl => match us, hl with | [_], _ => rfl
  have F24 := fun_mk (st := s_law_cell) l24 x24 k24
  have b24 := F24.binds (ps := ["script", "k"]) fun _ _ _ _ _ _ us hl => match us, hl with | [_, _], _ => rfl
  have F25 := fun_mk (st := s_law_mix) l25 x25 k25
  have b25 := F25.binds (ps := ["cell", "k"]) fun _ _ _ _ _ _ us hl => match us, hl with | [_, _], _ => rfl
  have F26 := fun_mk (st := s_law_row) l26 x26 k26
  have b26 := F26.binds (ps := ["cell", "count", "bound"]) fun _ _ _ _ _ _ us hl => match us, hl with | [_, _, _], _ => rfl
  have F27 := fun_mk (st := s_law_tuples) l27 x27 k27
  have b27 := F27.binds (ps := ["thing"]) fun _ _ _ _ _ _ us hl => match us, hl with | [_], _ => rfl
  have F28 := fun_mk (st := s_law_gcd) l28 x28 k28
  have b28 := F28.binds (ps := ["a", "b"]) fun _ _ _ _ _ _ us hl => match us, hl with | [_, _], _ => rfl
  have F29 := fun_mk (st := s_law_frac) l29 x29 k29
  have b29 := F29.binds (ps := ["a", "b"]) fun _ _ _ _ _ _ us hl => match us, hl with | [_, _], _ => rfl
  have F30 := fun_mk (st := s_law_add) l30 x30 k30
  have b30 := F30.binds (ps := ["p", "q"]) fun _ _ _ _ _ _ us hl => match us, hl with | [_, _], _ => rfl
  have F31 := fun_mk (st := s_law_mul) l31 x31 k31
  have b31 := F31.binds (ps := ["p", "q"]) fun _ _ _ _ _ _ us hl => match us, hl with | [_, _], _ => rfl
  have F32 := fun_mk (st := s_law_pow) l32 x32 k32
  have b32 := F32.binds (ps := ["p", "n"]) fun _ _ _ _ _ _ us hl => match us, hl with | [_, _], _ => rfl
  have F33 := fun_mk (st := s_law_spins) l33 x33 k33
  have b33 := F33.binds (ps := ["script", "first", "most", "kind"]) fun _ _ _ _ _ _ us hl => match us, hl with | [_, _, _, _], _ => rfl
  have F34 := fun_mk (st := s_law_states) l34 x34 k34
  have b34 := F34.binds (ps := ["count"]) fun _ _ _ _ _ _ us hl => match us, hl with | [_], _ => rfl
  have F35 := fun_mk (st := s_law_cost) l35 x35 k35
  have b35 := F35.binds (ps := ["fields", "edges", "state"]) fun _ _ _ _ _ _ us hl => match us, hl with | [_, _, _], _ => rfl
  have F36 := fun_mk (st := s_law_weights) l36 x36 k36
  have b36 := F36.binds (ps := ["fields", "edges", "x", "y"]) fun _ _ _ _ _ _ us hl => match us, hl with | [_, _, _, _], _ => rfl
  have F37 := fun_mk (st := s_law_fractions) l37 x37 k37
  have b37 := F37.binds (ps := ["cell", "unit"]) fun _ _ _ _ _ _ us hl => match us, hl with | [_, _], _ => rfl
  have F38 := fun_mk (st := s_law_parts) l38 x38 k38
  have b38 := F38.binds (ps := ["count", "pairs"]) fun _ _ _ _ _ _ us hl => match us, hl with | [_, _], _ => rfl
  have F39 := fun_mk (st := s_law_bits) l39 x39 k39
  have b39 := F39.binds (ps := ["mask", "count"]) fun _ _ _ _ _ _ us hl => match us, hl with | [_, _], _ => rfl
  have F40 := fun_mk (st := s_law_set_weight) l40 x40 k40
  have b40 := F40.binds (ps := ["fields", "edges", "chosen", "x", "y"]) fun _ _ _ _ _ _ us hl => match us, hl with | [_, _, _, _, _], _ => rfl
  have F41 := fun_mk (st := s_law) l41 x41 k41
  let T : Top K mg := ⟨f0, _, F0, b0, PySem.W.mg_of X G a0, f1, _, F1, b1, PySem.W.mg_of X G a1, f2, _, F2, b2, PySem.W.mg_of X G a2, f3, _, F3, b3, PySem.W.mg_of X G a3, f4, _, F4, b4, PySem.W.mg_of X G a4, f5, _, F5, b5, PySem.W.mg_of X G a5, f6, _, F6, b6, PySem.W.mg_of X G a6, f7, _, F7, b7, PySem.W.mg_of X G a7, f8, _, F8, b8, PySem.W.mg_of X G a8, f9, _, c9, P9, F9, b9, PySem.W.mg_of X G a9, f10, _, F10, b10, PySem.W.mg_of X G a10, f11, _, F11, b11, PySem.W.mg_of X G a11, f13, _, c13, P13, F13, b13, PySem.W.mg_of X G a13, f14, _, F14, b14, PySem.W.mg_of X G a14, f15, _, F15, b15, PySem.W.mg_of X G a15, f16, _, c16, P16, F16, b16, PySem.W.mg_of X G a16, f17, _, F17, b17, PySem.W.mg_of X G a17, f18, _, F18, b18, PySem.W.mg_of X G a18, f19, _, F19, b19, PySem.W.mg_of X G a19, f20, _, F20, b20, PySem.W.mg_of X G a20, f21, _, F21, b21, PySem.W.mg_of X G a21, f22, _, c22, P22, F22, b22, PySem.W.mg_of X G a22, f23, _, F23, b23, PySem.W.mg_of X G a23, f24, _, F24, b24, PySem.W.mg_of X G a24, f25, _, F25, b25, PySem.W.mg_of X G a25, f26, _, F26, b26, PySem.W.mg_of X G a26, f27, _, F27, b27, PySem.W.mg_of X G a27, f28, _, F28, b28, PySem.W.mg_of X G a28, f29, _, F29, b29, PySem.W.mg_of X G a29, f30, _, F30, b30, PySem.W.mg_of X G a30, f31, _, F31, b31, PySem.W.mg_of X G a31, f32, _, F32, b32, PySem.W.mg_of X G a32, f33, _, F33, b33, PySem.W.mg_of X G a33, f34, _, F34, b34, PySem.W.mg_of X G a34, f35, _, F35, b35, PySem.W.mg_of X G a35, f36, _, F36, b36, PySem.W.mg_of X G a36, f37, _, F37, b37, PySem.W.mg_of X G a37, f38, _, F38, b38, PySem.W.mg_of X G a38, f39, _, F39, b39, PySem.W.mg_of X G a39, f40, _, F40, b40, PySem.W.mg_of X G a40, tk_MOST_VERTICES_spins, PySem.W.mg_of X G n_MOST_VERTICES_spins, tk_MOST_EDGES, PySem.W.mg_of X G n_MOST_EDGES, tk_MOST_SIZE, PySem.W.mg_of X G n_MOST_SIZE, tk_MOST_VERTICES_distributions, PySem.W.mg_of X G n_MOST_VERTICES_distributions, tk_MOST_JOINT_EDGES, PySem.W.mg_of X G n_MOST_JOINT_EDGES, X_FieldError, PySem.W.mg_of X G ax_FieldError, q_FieldError, kx_FieldError, bx_FieldError, yx_FieldError, X_InvalidSpins, PySem.W.mg_of X G ax_InvalidSpins, q_InvalidSpins, kx_InvalidSpins, bx_InvalidSpins, yx_InvalidSpins, X_InvalidWeight, PySem.W.mg_of X G ax_InvalidWeight, q_InvalidWeight, kx_InvalidWeight, bx_InvalidWeight, yx_InvalidWeight, X_TooLarge, PySem.W.mg_of X G ax_TooLarge, q_TooLarge, kx_TooLarge, bx_TooLarge, yx_TooLarge, C_Spins, PySem.W.mg_of X G ac_Spins, ⟨pg_Spins, hd_Spins, po_Spins, sa_Spins⟩, f12, _, c12, P12, F12, b12, ⟨mk_Spins, a12, i12, kc_Spins⟩, na_Spins_fields, na_Spins_edges, PySem.W.mg_of X G i_gcd, PySem.W.mg_none_of X G z_abs, PySem.W.mg_none_of X G z_all, PySem.W.mg_none_of X G z_bool, PySem.W.mg_none_of X G z_int, PySem.W.mg_none_of X G z_isinstance, PySem.W.mg_none_of X G z_len, PySem.W.mg_none_of X G z_list, PySem.W.mg_none_of X G z_range, PySem.W.mg_none_of X G z_sorted, PySem.W.mg_none_of X G z_sum, PySem.W.mg_none_of X G z_tuple, PySem.W.mg_none_of X G z_zip, xm_TooLarge, ki_TooLarge, ⟨ehg_TooLarge, ehk_TooLarge, bx_TooLarge, ehd_TooLarge, eha_TooLarge, ehn_TooLarge, eht_TooLarge, ehm_TooLarge⟩⟩
  refine ⟨_, [(c9, P9), (c12, P12), (c13, P13), (c16, P16), (c22, P22)], spLaw T, ?_, ?_, ?_, fun s u => .of_eq rfl, fun H a ns hl hb ht hS => law_in T H a ns hl hb ⟨tabG0 (ht (c9, P9) (by simp)), tabG0 (ht (c12, P12) (by simp)), tabG0 (ht (c13, P13) (by simp)), tabG0 (ht (c16, P16) (by simp)), tabG0 (ht (c22, P22) (by simp))⟩ hS, fun base _ _ tb => ok_law F41 T ⟨tb (c9, P9) (by simp), tb (c12, P12) (by simp), tb (c13, P13) (by simp), tb (c16, P16) (by simp), tb (c22, P22) (by simp)⟩⟩
  · intro p hp
    simp only [List.mem_cons, List.not_mem_nil, or_false] at hp
    rcases hp with rfl | rfl | rfl | rfl | rfl
    · exact AT "_in_order" f9 c9 P9 _ _ _ _ _ _ r9 a9 l9 rfl rfl h9 v9
    · exact t12
    · exact AT "_check_fields" f13 c13 P13 _ _ _ _ _ _ r13 a13 l13 rfl rfl h13 v13
    · exact AT "cost" f16 c16 P16 _ _ _ _ _ _ r16 a16 l16 rfl rfl h16 v16
    · exact AT "_joint_weights" f22 c22 P22 _ _ _ _ _ _ r22 a22 l22 rfl rfl h22 v22
  · intro p hp
    simp only [List.mem_cons, List.not_mem_nil, or_false] at hp
    rcases hp with rfl | rfl | rfl | rfl | rfl
    · exact n9
    · exact n12
    · exact n13
    · exact n16
    · exact n22
  · intro p hp
    simp only [List.mem_cons, List.not_mem_nil, or_false] at hp
    rcases hp with rfl | rfl | rfl | rfl | rfl
    · exact PySem.W.codeHd_of_K X e9
    · exact PySem.W.codeHd_of_K X e12
    · exact PySem.W.codeHd_of_K X e13
    · exact PySem.W.codeHd_of_K X e16
    · exact PySem.W.codeHd_of_K X e22
end KP
open PySem PySem.W PyProof.Rows
local macro_rules | `(tactic| o_head ($f:ident $k $a $e)) => `(tactic| o_head (kmHook $k $a $e [184]))
set_option maxHeartbeats 0 in
theorem PySem.Challenge.cw_spinfield_k50_whole_joint_sums_holds : PySem.Challenge.rw_spinfield_k50_whole_joint_sums.Holds := by
  w_on; o_law; k_head; (case hw => w_witness2)
  k_fill
  refine LamX.walk_ofAll (l := PySem.Challenge.rw_spinfield_k50_whole_joint_sums) (n := 63) (k := 8) (x := "script") (CX := fun _ => L2.CX0) rfl (by decide) rfl ⟨rfl, by decide, by decide⟩ (fun w h Y => PySem.W.km_in_of Y) ?F (fun _ _ _ _ _ h => h)
  case F =>
    intro w mg fa h Y KX G hmg AT
    refine' KP.all_mk KX G hmg AT ?a0 ?l0 ?x0 ?k0 ?a1 ?l1 ?x1 ?k1 ?a2 ?l2 ?x2 ?k2 ?a3 ?l3 ?x3 ?k3 ?a4 ?l4 ?x4 ?k4 ?a5 ?l5 ?x5 ?k5 ?a6 ?l6 ?x6 ?k6 ?a7 ?l7 ?x7 ?k7 ?a8 ?l8 ?x8 ?k8 ?a9 ?l9 ?x9 ?k9 ?h9 ?v9 ?n9 ?e9 ?r9 ?a10 ?l10 ?x10 ?k10 ?a11 ?l11 ?x11 ?k11 ?ac_Spins ?a12 ?i12 ?l12 ?x12 ?k12 ?h12 ?v12 ?n12 ?e12 ?t12 ?a13 ?l13 ?x13 ?k13 ?h13 ?v13 ?n13 ?e13 ?r13 ?a14 ?l14 ?x14 ?k14 ?a15 ?l15 ?x15 ?k15 ?a16 ?l16 ?x16 ?k16 ?h16 ?v16 ?n16 ?e16 ?r16 ?a17 ?l17 ?x17 ?k17 ?a18 ?l18 ?x18 ?k18 ?a19 ?l19 ?x19 ?k19 ?a20 ?l20 ?x20 ?k20 ?a21 ?l21 ?x21 ?k21 ?a22 ?l22 ?x22 ?k22 ?h22 ?v22 ?n22 ?e22 ?r22 ?a23 ?l23 ?x23 ?k23 ?a24 ?l24 ?x24 ?k24 ?a25 ?l25 ?x25 ?k25 ?a26 ?l26 ?x26 ?k26 ?a27 ?l27 ?x27 ?k27 ?a28 ?l28 ?x28 ?k28 ?a29 ?l29 ?x29 ?k29 ?a30 ?l30 ?x30 ?k30 ?a31 ?l31 ?x31 ?k31 ?a32 ?l32 ?x32 ?k32 ?a33 ?l33 ?x33 ?k33 ?a34 ?l34 ?x34 ?k34 ?a35 ?l35 ?x35 ?k35 ?a36 ?l36 ?x36 ?k36 ?a37 ?l37 ?x37 ?k37 ?a38 ?l38 ?x38 ?k38 ?a39 ?l39 ?x39 ?k39 ?a40 ?l40 ?x40 ?k40 ?a41 ?l41 ?x41 ?k41 ?n_MOST_VERTICES_spins ?n_MOST_EDGES ?n_MOST_SIZE ?n_MOST_VERTICES_distributions ?n_MOST_JOINT_EDGES ?ax_FieldError ?q_FieldError ?kx_FieldError ?bx_FieldError ?yx_FieldError ?ax_InvalidSpins ?q_InvalidSpins ?kx_InvalidSpins ?bx_InvalidSpins ?yx_InvalidSpins ?ax_InvalidWeight ?q_InvalidWeight ?kx_InvalidWeight ?bx_InvalidWeight ?yx_InvalidWeight ?ax_TooLarge ?q_TooLarge ?kx_TooLarge ?bx_TooLarge ?yx_TooLarge ?pg_Spins ?hd_Spins ?po_Spins ?sa_Spins ?mk_Spins ?kc_Spins ?na_Spins_fields ?na_Spins_edges ?i_gcd ?z_abs ?z_all ?z_bool ?z_int ?z_isinstance ?z_len ?z_list ?z_range ?z_sorted ?z_sum ?z_tuple ?z_zip ?xm_TooLarge ?ki_TooLarge ?ehg_TooLarge ?ehk_TooLarge ?ehd_TooLarge ?eha_TooLarge ?ehn_TooLarge ?eht_TooLarge ?ehm_TooLarge
    (case a0 => k_is); (case l0 => k_is); (case x0 => k_is); (case k0 => k_is); (case a1 => k_is); (case l1 => k_is); (case x1 => k_is); (case k1 => k_is); (case a2 => k_is); (case l2 => k_is); (case x2 => k_is); (case k2 => k_is); (case a3 => k_is); (case l3 => k_is); (case x3 => k_is); (case k3 => k_is); (case a4 => k_is); (case l4 => k_is); (case x4 => k_is); (case k4 => k_is); (case a5 => k_is); (case l5 => k_is); (case x5 => k_is); (case k5 => k_is); (case a6 => k_is); (case l6 => k_is); (case x6 => k_is); (case k6 => k_is); (case a7 => k_is); (case l7 => k_is); (case x7 => k_is); (case k7 => k_is); (case a8 => k_is); (case l8 => k_is); (case x8 => k_is); (case k8 => k_is); (case a9 => k_is); (case l9 => k_is); (case x9 => k_is); (case k9 => k_is); (case h9 => k_is); (case v9 => exact rfl); (case n9 => kernel_rfl); (case e9 => kernel_rfl); (case r9 => kernel_rfl); (case a10 => k_is); (case l10 => k_is); (case x10 => k_is); (case k10 => k_is); (case a11 => k_is); (case l11 => k_is); (case x11 => k_is); (case k11 => k_is); (case ac_Spins => k_is); (case a12 => k_is); (case i12 => k_is); (case l12 => k_is); (case x12 => k_is); (case k12 => k_is); (case h12 => k_is); (case v12 => exact rfl); (case n12 => kernel_rfl); (case e12 => kernel_rfl); (case t12 => exact PySem.W.km_tabs_of Y 184 (by simp)); (case a13 => k_is); (case l13 => k_is); (case x13 => k_is); (case k13 => k_is); (case h13 => k_is); (case v13 => exact rfl); (case n13 => kernel_rfl); (case e13 => kernel_rfl); (case r13 => kernel_rfl); (case a14 => k_is); (case l14 => k_is); (case x14 => k_is); (case k14 => k_is); (case a15 => k_is); (case l15 => k_is); (case x15 => k_is); (case k15 => k_is); (case a16 => k_is); (case l16 => k_is); (case x16 => k_is); (case k16 => k_is); (case h16 => k_is); (case v16 => exact rfl); (case n16 => kernel_rfl); (case e16 => kernel_rfl); (case r16 => kernel_rfl); (case a17 => k_is); (case l17 => k_is); (case x17 => k_is); (case k17 => k_is); (case a18 => k_is); (case l18 => k_is); (case x18 => k_is); (case k18 => k_is); (case a19 => k_is); (case l19 => k_is); (case x19 => k_is); (case k19 => k_is); (case a20 => k_is); (case l20 => k_is); (case x20 => k_is); (case k20 => k_is); (case a21 => k_is); (case l21 => k_is); (case x21 => k_is); (case k21 => k_is); (case a22 => k_is); (case l22 => k_is); (case x22 => k_is); (case k22 => k_is); (case h22 => k_is); (case v22 => exact rfl); (case n22 => kernel_rfl); (case e22 => kernel_rfl); (case r22 => kernel_rfl); (case a23 => k_is); (case l23 => k_is); (case x23 => k_is); (case k23 => k_is); (case a24 => k_is); (case l24 => k_is); (case x24 => k_is); (case k24 => k_is); (case a25 => k_is); (case l25 => k_is); (case x25 => k_is); (case k25 => k_is); (case a26 => k_is); (case l26 => k_is); (case x26 => k_is); (case k26 => k_is); (case a27 => k_is); (case l27 => k_is); (case x27 => k_is); (case k27 => k_is); (case a28 => k_is); (case l28 => k_is); (case x28 => k_is); (case k28 => k_is); (case a29 => k_is); (case l29 => k_is); (case x29 => k_is); (case k29 => k_is); (case a30 => k_is); (case l30 => k_is); (case x30 => k_is); (case k30 => k_is); (case a31 => k_is); (case l31 => k_is); (case x31 => k_is); (case k31 => k_is); (case a32 => k_is); (case l32 => k_is); (case x32 => k_is); (case k32 => k_is); (case a33 => k_is); (case l33 => k_is); (case x33 => k_is); (case k33 => k_is); (case a34 => k_is); (case l34 => k_is); (case x34 => k_is); (case k34 => k_is); (case a35 => k_is); (case l35 => k_is); (case x35 => k_is); (case k35 => k_is); (case a36 => k_is); (case l36 => k_is); (case x36 => k_is); (case k36 => k_is); (case a37 => k_is); (case l37 => k_is); (case x37 => k_is); (case k37 => k_is); (case a38 => k_is); (case l38 => k_is); (case x38 => k_is); (case k38 => k_is); (case a39 => k_is); (case l39 => k_is); (case x39 => k_is); (case k39 => k_is); (case a40 => k_is); (case l40 => k_is); (case x40 => k_is); (case k40 => k_is); (case a41 => k_is); (case l41 => k_is); (case x41 => k_is); (case k41 => k_is); (case n_MOST_VERTICES_spins => k_is); (case n_MOST_EDGES => k_is); (case n_MOST_SIZE => k_is); (case n_MOST_VERTICES_distributions => k_is); (case n_MOST_JOINT_EDGES => k_is); (case ax_FieldError => k_is); (case q_FieldError => kernel_rfl); (case kx_FieldError => k_is); (case bx_FieldError => k_is); (case yx_FieldError => k_is); (case ax_InvalidSpins => k_is); (case q_InvalidSpins => kernel_rfl); (case kx_InvalidSpins => k_is); (case bx_InvalidSpins => k_is); (case yx_InvalidSpins => k_is); (case ax_InvalidWeight => k_is); (case q_InvalidWeight => kernel_rfl); (case kx_InvalidWeight => k_is); (case bx_InvalidWeight => k_is); (case yx_InvalidWeight => k_is); (case ax_TooLarge => k_is); (case q_TooLarge => kernel_rfl); (case kx_TooLarge => k_is); (case bx_TooLarge => k_is); (case yx_TooLarge => k_is); (case pg_Spins => k_is); (case hd_Spins => k_is); (case po_Spins => k_is); (case sa_Spins => k_is); (case mk_Spins => k_is); (case kc_Spins => k_is); (case na_Spins_fields => k_is); (case na_Spins_edges => k_is); (case i_gcd => k_is); (case z_abs => k_is); (case z_all => k_is); (case z_bool => k_is); (case z_int => k_is); (case z_isinstance => k_is); (case z_len => k_is); (case z_list => k_is); (case z_range => k_is); (case z_sorted => k_is); (case z_sum => k_is); (case z_tuple => k_is); (case z_zip => k_is); (case xm_TooLarge => kernel_rfl); (case ki_TooLarge => kernel_rfl); (case ehg_TooLarge => k_is); (case ehk_TooLarge => k_is); (case ehd_TooLarge => k_is); (case eha_TooLarge => k_is); (case ehn_TooLarge => k_is); (case eht_TooLarge => k_is); (case ehm_TooLarge => k_is)
