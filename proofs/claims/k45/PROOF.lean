import PyProof.Rows.All
import Wide.All
import OpenK.AllK
import Wide.FinOn
import HandS.ForMost
import HandS.AnyAll
import HandS.GenList
import HandS.EndTab
import PyProof.TupleOfGen
import HandS.SortRule
import HandS.Conv
import HandS.NamedTupSort
import KE.KSortTup
import HandS.EndOwn
import HandS.EndBits
import HandS.Zip
import HandS.TupLe
import HandS.ForExc
import HandS.ExcIs
import HandS.Style
import HandS.TupAny
import HandS.IsInst
import HandS.CallLocal
import HandS.Wide
import HandS.Codes
import HandS.DictComp
import KE.KBits
import PyProof.SumWalkG
import KE.GoesEnum
import PyProof.Walks
import PyProof.MinMaxWalk
import HandS.TupSets
import HandS.Deep
import HandS.Text
import HandS.Gcd
import HandS.TupMul
import KE.KDictDisplayH
import HandS.TupLen
import KE.KDictWalk
import KE.KPairComp
import HandS.DictTup
import HandS.ExcCtx
import HandS.HotCalls
import HandS.SetFor
import HandS.Strs
import KE.GoesZip
import KE.GoesMore
import KE.KMathG
import KE.KMathGC
import KE.KDictPairs
import KE.KDictZip
import PySem.Challenge.RW_spinfield_k45_distributions
set_option Elab.async false
set_option linter.all false
set_option maxRecDepth 100000
set_option maxHeartbeats 4000000
/-! Generator expressions over the layer: the generator's own frame as a context, its turns, what wakes it. -/
namespace GXP
open PySem PySem.Spec PyProof.Rows L2
/-- the generator's frame while its consumer stands at A -/
abbrev gcx (X : Cx) (A : Around) (s : Shared) (H : Hp) (ce : Env) (fp : List Addr) : Cx :=
  { X with A := A, s_0 := s, H_0 := H, env := ce, outer := X.stack, stack := ce :: X.stack, ex := fp, fn := fun _ => false, calm := true, pn := [], xe := fun _ _ => False }
/-- the cells of the frame that are taken over -/
theorem clo_look {cells : List (Str × Addr)} {names : List (Str × NameKind)} (hf : ∀ y ∈ names, y.2 = .free → ∃ c, cells.lookup y.1 = some c) {y : Str} {c : Addr} (e : (cloFrom cells names []).lookup y = some c) : cells.lookup y = some c ∧ (y, NameKind.free) ∈ names := by
  rcases cloFrom_mem (PySem.mem_of_lookup e) with z | ⟨z, rfl⟩
  · cases z
  · obtain ⟨d, hd⟩ := hf _ z rfl
    have hd : cells.lookup y = some d := hd
    rw [hd]
    exact ⟨rfl, z⟩
theorem gcx_start {X : Cx} {pins : List (Addr × Obj)} {σ : L2.St} {H : Hp} {s s5 : Shared} {A : Around} {ce : Env} {scope : Scope} {own : List (Str × Nat)} {fp : List Addr} {m0 : Str → Option Value}
    (I : Inv X pins σ H s) (ok : BlkOk X.N X.env.scope scope own) (hN : X.N.Nodup) (nocell : ∀ y ∈ scope.names, y.2 ≠ .cell) (hfp : ∀ b ∈ fp, FpOk X pins H b ∧ b < s.heap.objs.size)
    (hsc : ce.scope = scope) (hL : ce.locals = s.heap.objs.size) (hgl : ce.globals = mainGlobals) (hbl : ce.builtins = builtinsNs) (hcl : ce.cells = cloFrom X.env.cells scope.names []) (hfr : ce.frame = some ce.locals)
    (hA : A.frames = some (ce :: X.stack)) (hh : A.handled = none) (kp : ∀ b o, s.heap.get? b = some o → s5.heap.get? b = some o) (ns : s5.heap.Ns ce.locals m0) (hos : s5.os = s.os) (hb : AllBare s5.gens) :
    Inv (gcx X A s H ce fp) [] (wipe σ (own.map (·.2))) H s5 := by
  have hfree : ∀ y ∈ scope.names, y.2 = .free → ∃ c, X.env.cells.lookup y.1 = some c := fun y hy e => (ok.free y hy e).elim (fun k => I.ok.has _ (.inl k)) (fun k => I.ok.has _ (.inr k))
  have look : ∀ {y c}, ce.cells.lookup y = some c → X.env.cells.lookup y = some c ∧ (y, NameKind.free) ∈ scope.names := fun {y c} e => clo_look hfree (by rw [← hcl]; exact e)
  have cellLt : ∀ {y c}, X.env.cells.lookup y = some c → c < s.heap.objs.size := fun {y c} e => let ⟨_, z⟩ := I.cell y c e; z.lt
  have freeHas : ∀ {y}, scope.names.lookup y = some .free → ∃ c, ce.cells.lookup y = some c ∧ X.env.cells.lookup y = some c := fun {y} e => by
    obtain ⟨c, hc⟩ := mem_lookup (cloFrom_has (cells := X.env.cells) (acc := []) (PySem.mem_of_lookup e))
    rw [← hcl] at hc
    exact ⟨c, hc, (look hc).1⟩
  have okG : (gcx X A s H ce fp).Ok := by
    refine { mod := I.ok.mod, kind := ?kd, glob := hgl, blt := hbl, above := Nat.le_of_eq hL.symm, inj := ?inj, has := ?has, cab := fun _ _ z _ => (by cases z), hd := fun _ => hh, frames := hA, stk := .inr ⟨rfl, hfr⟩, exf := ?exf, bs := I.bs, bsz := Nat.le_trans I.ok.bsz I.sz, noex := ?noex, exfs := ?exfs, funs := I.stack, frf := I.stkFree }
    case kd =>
      show ce.scope.kind = _
      rw [hsc]
      exact ok.kind
    case inj => exact fun y z c e1 e2 => I.ok.inj y z c (look e1).1 (look e2).1
    case has =>
      intro y hy
      have hy : ce.scope.names.lookup y = some .cell ∨ ce.scope.names.lookup y = some .free := hy
      rw [hsc] at hy
      rcases hy with hy | hy
      · exact absurd rfl (nocell _ (PySem.mem_of_lookup hy))
      · exact let ⟨c, h, _⟩ := freeHas hy; ⟨c, h⟩
    case exf =>
      refine fun b hb => ⟨?_, fun y c e z => (hfp b hb).1.2.2.2.2.1 y c (look e).1 z⟩
      show b ≠ ce.locals
      rw [hL]
      exact Nat.ne_of_lt (hfp b hb).2
    case noex =>
      intro b o e hb
      rcases (hfp b hb).1.2.2.2.1 with z | z
      · exact I.ok.noex b o e z
      · have h1 := Heap.lt_size e
        have h2 := I.ok.bsz
        exact absurd (Nat.lt_of_lt_of_le h1 (Nat.le_trans h2 z)) (Nat.lt_irrefl _)
    case exfs =>
      intro b hb z
      rcases List.mem_cons.mp (I.stkSub b z) with z | z
      · exact (hfp b hb).1.2.1 z
      · exact (hfp b hb).1.2.2.1 z
  refine { ok := okG, os := hos, bare := hb, base := Un.kept kp, loc := ⟨m0, ns, ?loc⟩, cell := ?cell, free := ?free, freeC := fun y c e => I.freeC y c (look e).1, pin := fun p hp => absurd (show p ∈ ([] : List (Addr × Obj)) ++ [] from hp) (by simp), hok := I.hok.kept kp, len := by rw [wipe_length]; exact I.len }
  case loc =>
    intro i y v e1 e2 e3
    obtain ⟨e2, hne⟩ := wipe_some e2
    have e3 : ce.scope.names.lookup y = some .local ∨ ce.scope.names.lookup y = some .cell ∨ ce.scope.names.lookup y = some .free := e3
    rw [hsc] at e3
    have hfr : scope.names.lookup y = some .free := by
      rcases e3 with k | k | k
      · exfalso
        rcases ok.own _ (PySem.mem_of_lookup k) (.inl rfl) with h | h
        · obtain ⟨p, hp, hpy⟩ := List.mem_map.mp h
          have h3 := ok.ix p hp
          have : p.1 = y := hpy
          rw [this] at h3
          exact hne (List.mem_map.mpr ⟨p, hp, nodup_ix hN h3 e1⟩)
        · exact h (List.mem_of_getElem? e1)
      · exact absurd rfl (nocell _ (PySem.mem_of_lookup k))
      · exact k
    obtain ⟨c, h1, h2⟩ := freeHas hfr
    have hvis : Vis X.env.scope y := (ok.free _ (PySem.mem_of_lookup hfr) rfl).elim (fun k => .inr (.inl k)) (fun k => .inr (.inr k))
    obtain ⟨m, hn, hl⟩ := I.loc
    obtain ⟨u, r, q⟩ := hl i y v e1 e2 hvis
    refine ⟨u, r, .inr ⟨.inr (by show ce.scope.names.lookup y = _; rw [hsc]; exact hfr), ?_⟩⟩
    rcases q with ⟨k, _⟩ | ⟨_, d, hd, z⟩
    · have k : X.env.scope.names.lookup y = some .local := k
      rcases ok.free _ (PySem.mem_of_lookup hfr) rfl with k' | k' <;> rw [show X.env.scope.names.lookup y = _ from k'] at k <;> cases k
    · rw [h2] at hd
      cases hd
      exact ⟨c, h1, z.keeps kp⟩
  case cell =>
    intro y c e
    obtain ⟨v, z⟩ := I.cell y c (look e).1
    exact ⟨v, z.keeps kp⟩
  case free =>
    show H ce.locals = none
    rw [hL]
    exact I.hok.fresh (Nat.le_refl _)
/-- while the generator sleeps, its consumer writes at cw alone -/
structure Doz (cw : List Addr) (s s' : Shared) : Prop where
  os : s'.os = s.os
  bare : AllBare s'.gens
  keep : ∀ b o, b ∉ cw → s.heap.get? b = some o → s'.heap.get? b = some o
  there : ∀ b ∈ cw, ∃ o, s'.heap.get? b = some o ∧ ∀ v, o.data ≠ .cell v
/-- what stands at cw is left alone by a turn -/
def KeptAt (cw : List Addr) (s₀ s : Shared) : Prop := ∀ b ∈ cw, ∀ o, s₀.heap.get? b = some o → s.heap.get? b = some o
/-- what a consumer does with an item: the items so far, the item, the heap, and what the generator wants to go on -/
abbrev Cy := List V → V → Hp → (List V → Hp → Prop) → Prop
/-- how the items so far show in what the consumer keeps at cw -/
structure Lnk (cw : List Addr) (Lk : List V → Heap → Prop) : Prop where
  st : ∀ ys h h', Lk ys h → (∀ b ∈ cw, ∀ o, h.get? b = some o → h'.get? b = some o) → Lk ys h'
def GYld (Y : Cx) (gp : List (Addr × Obj)) (cw : List Addr) (Lk : List V → Heap → Prop) (cy : Cy) : Protocol := fun _ s₀ v s kap =>
  ∃ (ys : List V) (y : V) (σ : L2.St) (H : Hp) (Nx : List V → Hp → Prop), Inv Y gp σ H s ∧ RelV y v ∧ KeptAt cw s₀ s ∧ (∀ b ∈ cw, H b = none) ∧ Lk ys s.heap ∧ cy ys y H Nx ∧ ∀ ys', Nx ys' H → ∀ s', Doz cw s s' → Lk ys' s'.heap → kap (.send .none) s'
def GFin (Y : Cx) (gp : List (Addr × Obj)) (cw : List Addr) (Lk : List V → Heap → Prop) (Qe : List V → Hp → Prop) : GenEnd := fun _ s₀ r s =>
  r = .ok .next ∧ ∃ (ys : List V) (σ : L2.St) (H : Hp), Inv Y gp σ H s ∧ KeptAt cw s₀ s ∧ (∀ b ∈ cw, H b = none) ∧ Lk ys s.heap ∧ Qe ys H
/-- the turns of a generator expression: W by the turn, a measure and the items so far -/
def Turns (J : It) (g : TG) (tt : TT) (te : TE) (vs : List Nat) (σ : L2.St) (cy : Cy) (Qe : List V → Hp → Prop) (W : Nat → Nat → List V → Hp → Prop) : Prop :=
  ∀ i m ys H, W i m ys H → (J.stop i H ∧ Qe ys H) ∨ (J.go i H ∧ 0 < m ∧ ∃ Nx : List V → Hp → Prop, (∀ ys' H', Nx ys' H' → ∃ m', m' < m ∧ W (i + 1) m' ys' H') ∧
    ∀ x H', J.yld i H x H' → g x (wipe σ vs) H' fun σ2 H2 => wipe σ2 vs = wipe σ vs ∧ tt σ2 H2 fun b H3 => if b = true then te σ2 H3 fun y H4 => cy ys y H4 Nx else Nx ys H3)
/-- the iterator's and the consumer's objects in the generator's frame -/
structure GPlace (Y : Cx) (gp : List (Addr × Obj)) (fp cw : List Addr) : Prop where
  fx : ∀ b ∈ fp, b ∈ Y.ex ∧ b ≠ Y.env.locals ∧ b ∉ Y.fs ∧ (∀ x c, Y.env.cells.lookup x = some c → c ≠ b) ∧ (∀ p ∈ Y.pn ++ gp, p.1 ≠ b) ∧ b ∉ cw
  cx : ∀ b ∈ cw, Y.s_0.heap.objs.size ≤ b ∧ b ≠ Y.env.locals ∧ b ∉ Y.fs ∧ (∀ x c, Y.env.cells.lookup x = some c → c ≠ b) ∧ ∀ p ∈ Y.pn ++ gp, p.1 ≠ b
theorem GPlace.fpOk {Y : Cx} {gp : List (Addr × Obj)} {fp cw : List Addr} (G : GPlace Y gp fp cw) {s₀ : Shared} {H : Hp} (n : ∀ b ∈ fp, H b = none) : ∀ b ∈ fp, FpOk Y (gp ++ pinsAt cw s₀.heap) H b := fun b hb => by
  obtain ⟨h1, h2, h3, h4, h5, h6⟩ := G.fx b hb
  refine ⟨n b hb, h2, h3, .inl h1, h4, fun p hp => ?_⟩
  rw [← List.append_assoc] at hp
  rcases List.mem_append.mp hp with hp | hp
  · exact h5 p hp
  · intro z
    have h7 := (of_pinsAt hp).1
    rw [z] at h7
    exact h6 h7
/-- the consumer's objects are pinned as they stand -/
theorem GPlace.pin {Y : Cx} {gp : List (Addr × Obj)} {fp cw : List Addr} (G : GPlace Y gp fp cw) {σ : L2.St} {H : Hp} {s : Shared} (I : Inv Y gp σ H s) (n : ∀ b ∈ cw, H b = none) (t : ∀ b ∈ cw, ∃ o, s.heap.get? b = some o ∧ ∀ v, o.data ≠ .cell v) :
    Inv Y (gp ++ pinsAt cw s.heap) σ H s :=
  I.pinned (fun b hb => let ⟨h1, h2, h3, h4, h5⟩ := G.cx b hb; ⟨n b hb, h2, h3, .inr h1, h4, h5⟩) t
theorem kept_of {Y : Cx} {gp pl : List (Addr × Obj)} {cw : List Addr} {σ : L2.St} {H : Hp} {s₀ s : Shared} (I : Inv Y ((gp ++ pinsAt cw s₀.heap) ++ pl) σ H s) : KeptAt cw s₀ s := fun b hb o e =>
  (I.pin (b, o) (List.mem_append_right _ (List.mem_append_left _ (List.mem_append_right _ (mem_pinsAt hb e))))).1
/-- asleep: only cw is written -/
theorem GPlace.doz {Y : Cx} {gp : List (Addr × Obj)} {fp cw : List Addr} (G : GPlace Y gp fp cw) {σ : L2.St} {H : Hp} {s s' : Shared} (I : Inv Y gp σ H s) (n : ∀ b ∈ cw, H b = none) (z : Doz cw s s') : Inv Y gp σ H s' := by
  obtain ⟨z1, z2, z3, _⟩ := z
  have nt : ∀ b u, H b = some u → b ∉ cw := fun b u q hb => by
    rw [n b hb] at q
    cases q
  obtain ⟨hh, g, d, t, o⟩ := s'
  have ho : o = s.os := z1
  subst ho
  refine I.step (g' := g) (t' := t) (d' := d) (ch := cw) (fun b hb => ?_) (fun b ob _ _ hc q _ => z3 b ob hc q) (fun b ob _ _ hc q _ => ⟨ob.slots, z3 b ob hc q⟩) (fun _ _ _ _ k => k) (fun b ob hc q => ⟨ob, z3 b ob hc q⟩) (fun _ _ q => q) (fun _ _ _ q => q)
    (fun b ps q => ⟨#[], by rw [q]; simp⟩) (fun m hm => ?_) (fun b u q => ?_) z2
  · obtain ⟨h1, h2, h3, h4, h5⟩ := G.cx b hb
    exact ⟨.inr h1, h2, h4, h5⟩
  · obtain ⟨ob, es, ep, ho, r⟩ := hm
    exact ⟨ob, es, ep, z3 _ ob (fun hb => (G.cx _ hb).2.1 rfl) ho, r⟩
  · refine (I.hok b u q).stay (fun c v hc y => z3 c v ?_ y) (fun _ y => y) fun _ _ y => y
    rcases hc with y | y
    · rw [y]
      exact nt b u q
    · exact nt c _ y
section
variable {Y : Cx} {Aw : Around} {elt tg iter : Expr} {ifs : List Expr} {scope : Scope} {pos : Pos} {it : Addr} {fp cw : List Addr} {gp : List (Addr × Obj)} {tn : Nat → Heap → Prop} {J : It} {g : TG} {tt : TT} {te : TE} {vs : List Nat} {σ : L2.St} {cy : Cy} {Qe : List V → Hp → Prop} {Lk : List V → Heap → Prop}
  {W : Nat → Nat → List V → Hp → Prop}
abbrev gxE (elt tg iter : Expr) (ifs : List Expr) (scope : Scope) (pos : Pos) : Expr := .GeneratorExp elt [⟨tg, iter, ifs, 0⟩] scope pos
theorem gx_loop (hA : Aw.over (.compLoop (gxE elt tg iter ifs scope pos) 0 (.ref it) .none Y.env) [] = Y.A) (hx : Y.xe = fun _ _ => False) (hco : Y.env.scope.isCoroutine = false) (hc : Y.calm = true)
    (T : Turn Y.prog Y.w Y.K tg J fp it tn) (pg : PG Y tg g) (pt : PTs Y ifs tt) (pe : PE Y elt te) (G : GPlace Y gp fp cw) (hLk : Lnk cw Lk) (hW : Turns J g tt te vs σ cy Qe W) :
    ∀ (m n i : Nat) (ys : List V) (s₀ s : Shared) (H : Hp), m ≤ n → Inv Y (gp ++ pinsAt cw s₀.heap) (wipe σ vs) H s → (∀ b ∈ cw, ∃ o, s₀.heap.get? b = some o) → Lk ys s₀.heap → tn i s.heap → (∀ b ∈ fp, H b = none) → W i m ys H →
      Seg (model Y.prog Y.w) Aw (GFin Y gp cw Lk Qe) (GYld Y gp cw Lk cy) n s₀ (.compLoop (gxE elt tg iter ifs scope pos) 0 (.ref it) .none Y.env) ((model Y.prog Y.w).den (.compLoop (gxE elt tg iter ifs scope pos) 0 (.ref it) .none Y.env)) [] s := by
  have cwn : ∀ {s₀ s : Shared} {pl : List (Addr × Obj)} {σ' : L2.St} {H : Hp}, (∀ b ∈ cw, ∃ o, s₀.heap.get? b = some o) → Inv Y ((gp ++ pinsAt cw s₀.heap) ++ pl) σ' H s → ∀ b ∈ cw, H b = none := fun {s₀ s pl σ' H} h I b hb => by
    obtain ⟨o, e⟩ := h b hb
    exact (I.pin (b, o) (List.mem_append_right _ (List.mem_append_left _ (List.mem_append_right _ (mem_pinsAt hb e))))).2.1
  have nil : ∀ {l : List (Addr × Obj)} {σ' : L2.St} {H : Hp} {s : Shared}, Inv Y l σ' H s → Inv Y (l ++ []) σ' H s := fun {l σ' H s} I => by
    rw [List.append_nil]
    exact I
  intro m
  induction m using Nat.strongRecOn with
  | ind m ih =>
    intro n i ys s₀ s H hmn I hcw lk st nf w
    have fk := G.fpOk (s₀ := s₀) nf
    show Seg _ _ _ _ _ _ _ ((compTurn (gxE elt tg iter ifs scope pos) 0 (.ref it) .none Y.env).onRaise (leaving Y.env)) [] s
    rw [compTurn_gen elt tg iter ifs scope pos, Sem.onRaise_eq_wrap]
    refine seg_bind_wrap (wpAny_standAt (seg_bind_wrap ?_))
    rw [hA]
    rcases hW i m ys H w with ⟨stop, q⟩ | ⟨go, m0, Nx, hNx, step⟩
    · refine thnF (T.done Y rfl rfl rfl hc i _ s _ H _ I fk st stop) fun r s6 ⟨hr, I6⟩ => ?_
      subst hr
      exact seg_end (.ok .next) ⟨rfl, ys, _, H, I6.unpinned, kept_of (nil I6), cwn hcw (nil I6), hLk.st _ _ _ lk (kept_of (nil I6)), q⟩
    · refine thnF (T.item Y rfl rfl rfl hc i _ s _ H _ I fk st go) fun r s6 ⟨u, hr, h6⟩ => ?_
      subst hr
      refine seg_bind_wrap ?_
      rw [hA]
      refine thnF h6 fun _ s7 ⟨x, H7, I7, r7, y7, st7, n7⟩ => ?_
      have I7' := I7.pinned (G.fpOk n7) (T.obj _ _ st7)
      have kfp : ∀ {s' : Shared} {σ' : L2.St} {H' : Hp}, Inv Y ((gp ++ pinsAt cw s₀.heap) ++ pinsAt fp s7.heap) σ' H' s' → ∀ b ∈ fp, (∀ o, s7.heap.get? b = some o → s'.heap.get? b = some o) ∧ H' b = none := fun {s' σ' H'} I' b hb => by
        obtain ⟨o, e, _⟩ := T.obj _ _ st7 b hb
        obtain ⟨z1, z2, _⟩ := I'.pin (b, o) (List.mem_append_right _ (List.mem_append_right _ (mem_pinsAt hb e)))
        refine ⟨fun o' e' => ?_, z2⟩
        rw [e] at e'
        cases e'
        exact z1
      have exF : ∀ {e : Value} {s' : Shared} {Z : Prop}, Y.xe e s' → Z := fun {e s' Z} h => by
        rw [hx] at h
        exact False.elim h
      refine seg_bind_wrap ?_
      rw [hA]
      refine wpAny_mono (pg.run _ s7 _ H7 x u _ I7' r7 (step x H7 y7)) (fun _ s8 ⟨σ8, H8, I8, hw8, q8⟩ => ?_) fun _ _ h => exF h
      refine seg_bind_wrap ?_
      rw [hA]
      refine wpAny_mono (pt.run _ s8 σ8 H8 _ I8 q8) (fun b s9 ⟨H9, I9, q9⟩ => ?_) fun _ _ h => exF h
      have hl : (wipe σ vs).length = σ8.length := by rw [← hw8, wipe_length]
      have weak : ∀ {l : List (Addr × Obj)} {H' : Hp} {s' : Shared}, Inv Y l σ8 H' s' → Inv Y l (wipe σ vs) H' s' := fun {l H' s'} I' => I'.weak hl fun j v e => by
        rw [← hw8] at e
        exact (wipe_some e).1
      cases b with
      | false =>
        rw [if_neg Bool.false_ne_true] at q9
        obtain ⟨m', hm, w'⟩ := hNx _ _ q9
        simp only [Bool.false_eq_true, if_false]
        exact seg_again rfl (ih m' hm n (i + 1) ys s₀ s9 H9 (by omega) (weak I9.unpinned) hcw lk (T.keep _ _ _ st7 fun b hb => (kfp I9 b hb).1) (fun b hb => (kfp I9 b hb).2) w')
      | true =>
        rw [if_pos rfl] at q9
        simp only [if_true]
        have hy : ∀ v, yieldOut Y.env v = yieldValue v := fun v => by
          unfold yieldOut
          rw [hco]
          rfl
        simp only [hy]
        rw [Sem.bind_eq_wrap', Sem.bind_eq_wrap', Sem.wrap_wrap, Sem.wrap_wrap]
        refine seg_wrap ?_
        rw [hA]
        refine wpAny_mono (pe.run _ s9 σ8 H9 _ I9 q9) (fun v s10 ⟨y, H10, I10, r10, q10⟩ => ?_) fun _ _ h => exF h
        obtain ⟨n', rfl⟩ : ∃ n', n = n' + 1 := ⟨n - 1, by omega⟩
        have Ig : Inv Y gp σ8 H10 s10 := I10.pins_of fun p hp => I10.pin p (List.mem_append_right _ (List.mem_append_left _ (List.mem_append_left _ hp)))
        refine seg_at (seg_yield rfl rfl rfl ⟨ys, y, σ8, H10, Nx, Ig, r10, kept_of I10, cwn hcw I10, hLk.st _ _ _ lk (kept_of I10), q10, fun ys' hys s' hz lk' => ?_⟩)
        obtain ⟨m', hm, w'⟩ := hNx ys' H10 hys
        have nc := cwn hcw I10
        have Iz := G.doz Ig nc hz
        refine seg_again rfl (ih m' hm n' (i + 1) ys' s' s' H10 (by omega) (weak (G.pin Iz nc hz.there)) (fun b hb => let ⟨o, e, _⟩ := hz.there b hb; ⟨o, e⟩) lk' (T.keep _ _ _ st7 fun b hb o e => ?_) (fun b hb => (kfp I10 b hb).2) w')
        exact hz.keep b o (G.fx b hb).2.2.2.2.2 ((kfp I10 b hb).1 o e)
end
section
variable {Y : Cx} {Aw : Around} {elt tg iter : Expr} {ifs : List Expr} {scope : Scope} {pos : Pos} {it : Addr} {fp cw : List Addr} {gp : List (Addr × Obj)} {tn : Nat → Heap → Prop} {J : It} {g : TG} {tt : TT} {te : TE} {vs : List Nat} {σ : L2.St} {cy : Cy} {Qe : List V → Hp → Prop} {Lk : List V → Heap → Prop}
  {W : Nat → Nat → List V → Hp → Prop}
theorem gx_first (hA : Aw.over (.compLoop (gxE elt tg iter ifs scope pos) 0 (.ref it) .none Y.env) [] = Y.A) (hx : Y.xe = fun _ _ => False) (hco : Y.env.scope.isCoroutine = false) (hc : Y.calm = true)
    (T : Turn Y.prog Y.w Y.K tg J fp it tn) (pg : PG Y tg g) (pt : PTs Y ifs tt) (pe : PE Y elt te) (G : GPlace Y gp fp cw) (hLk : Lnk cw Lk) (hW : Turns J g tt te vs σ cy Qe W)
    {m : Nat} {s : Shared} {H : Hp} (I : Inv Y gp (wipe σ vs) H s) (nc : ∀ b ∈ cw, H b = none) (hcw : ∀ b ∈ cw, ∃ o, s.heap.get? b = some o ∧ ∀ v, o.data ≠ .cell v) (lk : Lk [] s.heap) (st : tn 0 s.heap) (nf : ∀ b ∈ fp, H b = none) (w : W 0 m [] H) :
    Seg (model Y.prog Y.w) Aw (GFin Y gp cw Lk Qe) (GYld Y gp cw Lk cy) m s (.compStart (gxE elt tg iter ifs scope pos) 0 (.ref it) .none Y.env) ((model Y.prog Y.w).den (.compStart (gxE elt tg iter ifs scope pos) 0 (.ref it) .none Y.env)) [] s := by
  have go := gx_loop (pos := pos) hA hx hco hc T pg pt pe G hLk hW m m 0 [] s s H (Nat.le_refl _) (G.pin I nc hcw) (fun b hb => let ⟨o, e, _⟩ := hcw b hb; ⟨o, e⟩) lk st nf w
  show Seg _ _ _ _ _ _ _ ((compStart (gxE elt tg iter ifs scope pos) 0 (.ref it) .none Y.env).onRaise (leaving Y.env)) [] s
  unfold compStart
  rw [Sem.onRaise_eq_wrap]
  show Seg _ _ _ _ _ _ _ ((ask >>= _).wrap _ _ _ _) [] s
  refine seg_bind_wrap (wpAny_askSetting ?_)
  split
  · exact seg_again rfl go
  · have last := T.self (Aw.over (.compStart (gxE elt tg iter ifs scope pos) 0 (.ref it) .none Y.env) []) 0 s
    first
      | exact seg_bind_wrap (wpAny_rule (seg_bind_wrap (wpAny_standAt (seg_bind_wrap (last _ _ st (seg_again rfl go))))))
      | (refine seg_bind_wrap (wpAny_rule ?_); show Seg _ _ _ _ _ _ _ ((standAt iter.pos >>= _).wrap _ _ _ _) [] s; exact seg_bind_wrap (wpAny_standAt (seg_bind_wrap (last _ _ st (seg_again rfl go)))))
end
/-- a generator that was made in X's code: what stood then, its frame's objects, its own object -/
structure GMk (X : Cx) (pins : List (Addr × Obj)) (σ : L2.St) (sg : Shared) (Hg : Hp) (fp : List Addr) (a g : Addr) (go : Obj) : Prop where
  inv : Inv X pins σ Hg sg
  fx : ∀ b ∈ fp, FpOk X pins Hg b
  isGen : ∀ h : Heap, h.get? a = some go → h.IsGen a g
/-- it sleeps; ys is out, at most n more come -/
structure GRun (Y : Cx) (cw : List Addr) (Lk : List V → Heap → Prop) (cy : Cy) (Qe : List V → Hp → Prop) (a g : Addr) (go : Obj) (Aw : Around) (n : Nat) (ys : List V) (s : Shared) : Prop where
  here : s.heap.get? a = some go
  lim : s.heap.NoLimit
  run : ∃ gs, s.gens[g]? = some gs ∧ ∀ s', Doz cw s s' → Lk ys s'.heap → gs.Goes (model Y.prog Y.w) Aw (GFin Y [(a, go)] cw Lk Qe) (GYld Y [(a, go)] cw Lk cy) n (.send .none) s'
theorem Doz.turn {cw : List Addr} {s s' s'' : Shared} (x : Doz cw s s') (y : Doz cw s' s'') : Doz cw s s'' :=
  ⟨y.os.trans x.os, y.bare, fun b o hb e => y.keep b o hb (x.keep b o hb e), y.there⟩
theorem GRun.doz {Y : Cx} {cw : List Addr} {Lk : List V → Heap → Prop} {cy : Cy} {Qe : List V → Hp → Prop} {a g : Addr} {go : Obj} {Aw : Around} {n : Nat} {ys : List V} {s s' : Shared} (R : GRun Y cw Lk cy Qe a g go Aw n ys s) (z : Doz cw s s') (ha : a ∉ cw) (hs : cStatics ∉ cw) (hg : s'.gens = s.gens) :
    GRun Y cw Lk cy Qe a g go Aw n ys s' := by
  obtain ⟨h1, ⟨mc, hn, hnn⟩, gs, h3, h4⟩ := R
  exact ⟨z.keep _ _ ha h1, ⟨mc, hn.at' fun o e => z.keep _ o hs e, hnn⟩, gs, by rw [hg]; exact h3, fun s2 y lk => h4 s2 (z.turn y) lk⟩
section
variable {X : Cx} {pins : List (Addr × Obj)} {σ : L2.St} {sg : Shared} {Hg : Hp} {fp cw : List Addr} {a g : Addr} {go : Obj} {A A1 : Around} {ce : Env} {cy : Cy} {Qe : List V → Hp → Prop} {Lk : List V → Heap → Prop} {s : Shared} {E : Value → Shared → Prop}
/-- back in the consumer's frame -/
theorem GMk.back (M : GMk X pins σ sg Hg fp a g go) {σ' : L2.St} {H : Hp} {s1 s' : Shared} (I : Inv (gcx X A1 sg Hg ce fp) [(a, go)] σ' H s1) (ho : s'.os = s1.os) (kp : ∀ b o, s1.heap.get? b = some o → s'.heap.get? b = some o) (hb : AllBare s'.gens) : Inv X pins σ H s' :=
  M.inv.call' (ch := fp) (ho.trans I.os) (I.base.trans (Un.kept kp)) (I.hok.kept kp) hb fun b hb => ⟨(M.fx b hb).2.2.2.1, (M.fx b hb).2.1, (M.fx b hb).2.2.2.2.1, (M.fx b hb).2.2.2.2.2⟩
/-- what next(generator) gives -/
def GNext (X : Cx) (pins : List (Addr × Obj)) (σ : L2.St) (Y : Cx) (cw : List Addr) (Lk : List V → Heap → Prop) (cy : Cy) (Qe : List V → Hp → Prop) (a g : Addr) (go : Obj) (A : Around) (n : Nat) (s : Shared) (r : Option Value) (s' : Shared) : Prop :=
  KeptAt cw s s' ∧ match r with
  | none => ∃ ys H, Inv X pins σ H s' ∧ (∀ b ∈ cw, H b = none) ∧ Lk ys s'.heap ∧ Qe ys H
  | some v => ∃ ys y H Nx, Inv X pins σ H s' ∧ RelV y v ∧ (∀ b ∈ cw, H b = none) ∧ Lk ys s'.heap ∧ cy ys y H Nx ∧ ∀ ys', Nx ys' H → ∀ s2, Doz cw s' s2 → Lk ys' s2.heap → s2.gens = s'.gens → ∃ n', n = n' + 1 ∧ GRun Y cw Lk cy Qe a g go A n' ys' s2
theorem gx_next (M : GMk X pins σ sg Hg fp a g go) (hLk : Lnk cw Lk) (ha : a ∉ cw) (hs : cStatics ∉ cw) {n : Nat} {ys : List V} (hh : A.handled = none) (hd : A.depth < recursionLimit) (R : GRun (gcx X A1 sg Hg ce fp) cw Lk cy Qe a g go A.in1 n ys s) (hb : AllBare s.gens) (hcw : ∀ b ∈ cw, ∃ o, s.heap.get? b = some o ∧ ∀ v, o.data ≠ .cell v)
    (lk : Lk ys s.heap) : wpAny (model X.prog X.w) A (pyNext (.ref a)) (GNext X pins σ (gcx X A1 sg Hg ce fp) cw Lk cy Qe a g go A.in1 n s) E s := by
  obtain ⟨h1, h2, gs, h3, h4⟩ := R
  have hgl : g < s.gens.size := (Array.getElem?_eq_some_iff.mp h3).1
  have z0 : Doz cw s (s.setGen g .running) := ⟨rfl, allBare_setGen hb rfl, fun _ _ _ e => e, hcw⟩
  refine GenW.wpAny_gsz (n := g + 1) hgl ?_
  refine wpAny_pyNext_genexpQ (P := fun _ s₀ s1 => ∃ (ys : List V) (σ' : L2.St) (H : Hp), Inv (gcx X A1 sg Hg ce fp) [(a, go)] σ' H s1 ∧ KeptAt cw s₀ s1 ∧ (∀ b ∈ cw, H b = none) ∧ Lk ys s1.heap ∧ Qe ys H)
    hh h2 hd (M.isGen _ h1) h3 (h4 _ z0 lk) (fun v s1 gs' hbare hv => ?_) fun s1 hp h' hk => ?_
  · obtain ⟨ys1, y, σ', H, Nx, I, r, kc, nc, lk1, q, wake⟩ := hv
    intro hsz
    have hsz1 : g < s1.gens.size := by
      rw [GenW.setGen_size] at hsz
      exact hsz
    refine ⟨kc, ys1, y, H, Nx, M.back I rfl (fun _ _ e => e) (allBare_setGen I.bare hbare), r, nc, lk1, q, fun ys' hN s2 z lk2 hgs => ?_⟩
    have w2 := wake ys' hN s2 ⟨z.os, z.bare, z.keep, z.there⟩ lk2
    cases n with
    | zero => exact w2.elim
    | succ n' =>
      have R1 : GRun (gcx X A1 sg Hg ce fp) cw Lk cy Qe a g go A.in1 n' ys' (s1.setGen g gs') :=
        ⟨(I.pin (a, go) (List.mem_append_right _ (List.mem_singleton.mpr rfl))).1, I.nolimit, gs', setGen_at hsz1, fun s2 z lk2 => wake ys' hN s2 ⟨z.os, z.bare, z.keep, z.there⟩ lk2⟩
      exact ⟨n', rfl, R1.doz z ha hs hgs⟩
  · obtain ⟨ys1, σ', H, I, kc, nc, lk1, q⟩ := hp
    intro _
    refine ⟨fun b hb o e => hk _ _ (kc b hb o e), ys1, H, M.back I rfl hk (allBare_setGen I.bare rfl), nc, hLk.st _ _ _ lk1 fun b _ o e => hk b o e, q⟩
end
theorem over_gx {A : Around} {elt tg iter : Expr} {ifs : List Expr} {scope : Scope} {pos : Pos} {it : Addr} {ce : Env} : A.over (.compLoop (gxE elt tg iter ifs scope pos) 0 (.ref it) .none ce) [] = A.deeper ce := by
  first
    | rfl
    | (obtain ⟨hd, d, fr, gs, u⟩ := A; simp [Around.over, Around.deeper, marksOver, frameCount, unitsOf, envsOf, guardsOf, pushEnvs, pushGuards, Code.envs, Code.env?, Code.isFrame, Code.guards, Code.isGuard, Code.weight, Code.frames, Code.isCreation, Code.isCaller, Code.cUnits])
/-- the generator has been made and has not begun; at most m items come -/
structure GReady (X : Cx) (pins : List (Addr × Obj)) (σ : L2.St) (m : Nat) (cy : Cy) (Qe : List V → Hp → Prop) (a : Addr) (s : Shared) : Prop where
  ex : ∃ (g : Addr) (go : Obj) (sg : Shared) (Hg : Hp) (fp : List Addr) (ce : Env), GMk X pins σ sg Hg fp a g go ∧ Inv X pins σ Hg s ∧ s.heap.get? a = some go ∧ s.heap.NoLimit ∧
    ∀ (cw : List Addr) (Lk : List V → Heap → Prop) (A : Around) (s2 : Shared), Lnk cw Lk → A.handled = none → A.frames = some X.stack → A.depth ≤ X.A.depth + 1 → A.units ≤ X.A.units + 8 → (∀ b ∈ cw, s.heap.objs.size ≤ b) →
      (∀ b o, s.heap.get? b = some o → s2.heap.get? b = some o) → (∀ b ∈ cw, ∃ o, s2.heap.get? b = some o ∧ ∀ v, o.data ≠ .cell v) → s2.os = s.os → s2.gens = s.gens → Lk [] s2.heap →
      GRun (gcx X (A.deeper ce) sg Hg ce fp) cw Lk cy Qe a g go A m [] s2
section
variable {X : Cx} {pins : List (Addr × Obj)} {σ : L2.St} {H : Hp} {s : Shared} {c P : Addr} {elt iter tg : Expr} {ifs : List Expr} {scope : Scope} {gpos : Pos} {own : List (Str × Nat)} {wi : TI} {g : TG} {tt : TT} {te : TE} {k : Nat} {cy : Cy} {Qe : List V → Hp → Prop}
theorem gx_make (hr : Room (k + 1) X.A) (TB : LamX.TabB X.base X.mg c P) (hcode : X.env.code = .ref c) (hco : scope.isCoroutine = false) (ok : BlkOk X.N X.env.scope scope own) (hN : X.N.Nodup) (nocell : ∀ y ∈ scope.names, y.2 ≠ .cell)
    (h0 : scope.names.lookup (".0" : Str) = some NameKind.local) (hi : PI X tg iter wi)
    (pg : ∀ (A : Around) (s : Shared) (H : Hp) (C : Addr) (cl : List (Str × Addr)) (code : Value) (bi : Addr) (fp : List Addr), Room k A → PG (gcx X A s H (genEnv scope cl C code bi X.env) fp) tg g)
    (pt : ∀ (A : Around) (s : Shared) (H : Hp) (C : Addr) (cl : List (Str × Addr)) (code : Value) (bi : Addr) (fp : List Addr), Room k A → PTs (gcx X A s H (genEnv scope cl C code bi X.env) fp) ifs tt)
    (pe : ∀ (A : Around) (s : Shared) (H : Hp) (C : Addr) (cl : List (Str × Addr)) (code : Value) (bi : Addr) (fp : List Addr), Room k A → PE (gcx X A s H (genEnv scope cl C code bi X.env) fp) elt te)
    (hs : ∀ v, genFold iter X.env v = pure v) (I : Inv X pins σ H s)
    (h : wi σ H fun J H1 => GxR.TabG H1 P ∧ ∀ H2, GxR.Tabbed P H1 H2 → ∃ W m, W 0 m [] H2 ∧ Turns J g tt te (own.map (·.2)) σ cy Qe W) :
    wpAny (model X.prog X.w) X.A (eval (gxE elt tg iter ifs scope gpos) X.env) (fun u s' => ∃ a m, u = .ref a ∧ GReady X pins σ m cy Qe a s') X.xe s := by
  have hfree : ∀ y ∈ scope.names, y.2 = .free → ∃ c, X.env.cells.lookup y.1 = some c := fun y hy e => (ok.free y hy e).elim (fun z => I.ok.has _ (.inl z)) (fun z => I.ok.has _ (.inr z))
  refine wpAny_GeneratorExp_make hco (closure_ok hfree) nocell h0 ok.kind (by have := hr.dp; omega) ?_ hs
  refine thn (hi.run pins s σ H _ I h) fun xv s1 hx => thn hx fun itv s2 h2 => ?_
  obtain ⟨it, fp, tn, J, H2, rfl, I2, T, st2, f2, ⟨ps, hP, ht⟩, q⟩ := h2
  refine ⟨I2.nolimit, ?_⟩
  have hPs : s2.heap.get? P = some { cls := .none, data := .fields ps } := I2.hok P _ hP
  have cd : PySem.W.CodeHd s2.heap c P := TB.code.keeps fun b u e => I2.bk b u e
  have sz : ∀ b ∈ fp, b < s2.heap.objs.size := fun b hb => by
    obtain ⟨o, e, _⟩ := T.obj _ _ st2 b hb
    exact Heap.lt_size e
  have nP : ∀ b ∈ fp, b ≠ P := fun b hb z => by
    have := (f2 b hb).1
    rw [z, hP] at this
    cases this
  have cont : ∀ (code : Value) (h3 : Heap) (tk : Nat) (more : Array Value), Heap.ExtBut P s2.heap h3 → s2.heap.objs.size ≤ h3.objs.size → h3.get? P = some { cls := .none, data := .fields (ps ++ more) } → TriplesOk (ps ++ more).toList →
      wpAny (model X.prog X.w) X.A (builtinsFor X.env.globals X.env.builtins) (fun bi s4 => ∀ h', h'.Ns s4.heap.objs.size (fun y => if y = ".0" then some (.ref it) else none) → Heap.SameBut s4.heap.objs.size (s4.heap.push { cls := .type "frame", data := .dict #[] }) h' →
        ∃ a m, Value.ref h'.objs.size = .ref a ∧ GReady X pins σ m cy Qe a { s4 with
            gens := s4.gens.push (.fresh (.compStart (gxE elt tg iter ifs scope gpos) 0 (.ref it) .none (genEnv scope (cloFrom X.env.cells scope.names []) s4.heap.objs.size code bi X.env))),
            toks := s4.toks + 1 + 1 + 1,
            heap := h'.push { cls := .type "generator", data := .fields #[.int s4.gens.size 0, .str "<genexpr>" (s4.toks + 1), .str (X.env.qual ++ "<genexpr>") (s4.toks + 1 + 1)] } }) X.xe { s2 with heap := h3, toks := tk } := by
    intro code h3 tk more hx3 hsz hP3 ht3
    have kp3 : ∀ b o, b ≠ P → s2.heap.get? b = some o → h3.get? b = some o := fun b o hb e => hx3 b o hb e
    have I3 : Inv X pins σ (upd H2 P (.tbl (ps ++ more))) { s2 with heap := h3, toks := tk } := GxR.inv_tab (g' := s2.gens) (d' := s2.drawn) (t' := tk) I2 hP kp3 hP3 I2.bare
    obtain ⟨W, m, w0, hW⟩ := q (upd H2 P (.tbl (ps ++ more))) ⟨⟨_, upd_same, ht3⟩, fun b hb => upd_ne hb⟩
    have f3 : ∀ b ∈ fp, FpOk X pins (upd H2 P (.tbl (ps ++ more))) b := fun b hb => ⟨by rw [upd_ne (nP b hb)]; exact (f2 b hb).1, (f2 b hb).2⟩
    have st3 : tn 0 h3 := T.keep _ _ _ st2 fun b hb o e => kp3 b o (nP b hb) e
    have sz3 : ∀ b ∈ fp, b < h3.objs.size := fun b hb => Nat.lt_of_lt_of_le (sz b hb) hsz
    obtain ⟨bm, ob, e1, e2, e3, e4, e5, e6, e7, e8⟩ := TB.bm
    refine wpAny_builtinsFor (m := X.mg) (by rw [I3.ok.glob]; exact I3.mod.glob.keeps I3.bk) e1 e2 (I3.bk _ _ e5) e6 e7 e8 ?_
    generalize upd H2 P (.tbl (ps ++ more)) = H3 at I3 w0 f3 hW
    generalize hs3 : ({ s2 with heap := h3, toks := tk } : Shared) = s3 at I3 ⊢
    have e3h : s3.heap = h3 := by rw [← hs3]
    rw [← e3h] at st3 sz3
    intro h' hn' hb'
    have hsz' : h'.objs.size = s3.heap.objs.size + 1 := by rw [hb'.1, Heap.size_push]
    have kp' : ∀ b o, s3.heap.get? b = some o → h'.get? b = some o := fun b o e => hb'.extBut b o (Nat.ne_of_lt (Heap.lt_size e)) (Heap.get?_push_of_some _ e)
    refine ⟨_, m, rfl, ?_⟩
    generalize hgo : ({ cls := .type "generator", data := .fields #[.int s3.gens.size 0, .str "<genexpr>" (s3.toks + 1), .str (X.env.qual ++ "<genexpr>") (s3.toks + 1 + 1)] } : Obj) = go
    have isg : ∀ h : Heap, h.get? h'.objs.size = some go → h.IsGen h'.objs.size s3.gens.size := fun h e => ⟨go, _, _, e, by rw [← hgo], by rw [← hgo], by rw [← hgo]⟩
    have gnc : ∀ v, go.data ≠ .cell v := fun v z => by
      rw [← hgo] at z
      cases z
    have nf : go.data ≠ .freed := fun z => by
      rw [← hgo] at z
      cases z
    have hat : (h'.push go).get? h'.objs.size = some go := by
      rw [← hgo]
      exact Heap.get?_push_size _ rfl
    generalize hce : genEnv scope (cloFrom X.env.cells scope.names []) s3.heap.objs.size code builtinsNs X.env = ce
    have ce1 : ce.scope = scope := by rw [← hce]; rfl
    have ce2 : ce.locals = s3.heap.objs.size := by rw [← hce]; rfl
    have ce3 : ce.globals = mainGlobals := by rw [← hce]; exact I3.ok.glob
    have ce4 : ce.builtins = builtinsNs := by rw [← hce]; rfl
    have ce5 : ce.cells = cloFrom X.env.cells scope.names [] := by rw [← hce]; rfl
    have ce6 : ce.frame = some ce.locals := by rw [← hce]; rfl
    generalize hs5 : ({ s3 with gens := s3.gens.push (.fresh (.compStart (gxE elt tg iter ifs scope gpos) 0 (.ref it) .none ce)), toks := s3.toks + 1 + 1 + 1, heap := h'.push go } : Shared) = s5
    have h5 : s5.heap = h'.push go := by rw [← hs5]
    have g5 : s5.gens = s3.gens.push (.fresh (.compStart (gxE elt tg iter ifs scope gpos) 0 (.ref it) .none ce)) := by rw [← hs5]
    have o5 : s5.os = s3.os := by rw [← hs5]
    have kp5 : ∀ b o, s3.heap.get? b = some o → s5.heap.get? b = some o := fun b o e => by rw [h5]; exact Heap.get?_push_of_some _ (kp' b o e)
    have b5 : AllBare s5.gens := by rw [g5]; exact I3.bare.push rfl
    have M : GMk X pins σ s3 H3 fp h'.objs.size s3.gens.size go := ⟨I3, f3, isg⟩
    have lim5 : s5.heap.NoLimit := I3.nolimit.keeps kp5
    have I5 : Inv X pins σ H3 s5 := I3.call' (ch := []) o5 (Un.kept kp5) (I3.hok.kept kp5) b5 fun b z => by simp at z
    have at5 : s5.heap.get? h'.objs.size = some go := by rw [h5]; exact hat
    have sz5 : s5.heap.objs.size = s3.heap.objs.size + 2 := by rw [h5, Heap.size_push, hsz']
    refine ⟨⟨s3.gens.size, go, s3, H3, fp, ce, M, I5, at5, lim5, fun cw Lk A s6 hLk hh hfr hdp hun hcw kp6 tc os6 gs6 lk => ?_⟩⟩
    have kp36 : ∀ b o, s3.heap.get? b = some o → s6.heap.get? b = some o := fun b o e => kp6 b o (kp5 b o e)
    have hrA : Room k (A.deeper ce) := by
      refine ⟨hh, ?_, ?_⟩
      · have := hr.dp
        show A.depth + 1 + 3 * k + 5 < _
        omega
      · have := hr.un
        show A.units + 3 + 16 * k + 200 < _
        omega
    have nsC : s6.heap.Ns ce.locals (fun y => if y = ".0" then some (.ref it) else none) := by
      rw [ce2]
      exact (hn'.push go).keeps fun b o e => kp6 b o (by rw [h5]; exact e)
    have b6 : AllBare s6.gens := by rw [gs6]; exact b5
    have I6 : Inv (gcx X (A.deeper ce) s3 H3 ce fp) [] (wipe σ (own.map (·.2))) H3 s6 :=
      gcx_start I3 ok hN nocell (fun b hb => ⟨f3 b hb, sz3 b hb⟩) ce1 ce2 ce3 ce4 ce5 ce6 (Around.frames_deeper hfr) hh kp36 nsC (os6.trans o5) b6
    have young : ∀ b, s3.heap.objs.size < b → H3 b = none ∧ b ≠ ce.locals ∧ b ∉ frs X.stack ∧ (∀ x c, ce.cells.lookup x = some c → c ≠ b) := fun b hb => by
      refine ⟨I3.hok.fresh (Nat.le_of_lt hb), by rw [ce2]; exact Nat.ne_of_gt hb, fun z => ?_, fun x d e z => ?_⟩
      · rcases List.mem_cons.mp (I3.stkSub b z) with z | z
        · exact absurd (Nat.lt_trans (by rw [z]; exact I3.lt) hb) (Nat.lt_irrefl _)
        · exact I3.nofs (Nat.le_of_lt hb) z
      · obtain ⟨v, zc⟩ := I6.cell x d e
        rw [ce5] at e
        obtain ⟨u, zd⟩ := I3.cell x d (clo_look hfree e).1
        have := zd.lt
        rw [z] at this
        exact absurd (Nat.lt_trans this hb) (Nat.lt_irrefl _)
    have ga : s3.heap.objs.size < h'.objs.size := by rw [hsz']; exact Nat.lt_succ_self _
    have I6' : Inv (gcx X (A.deeper ce) s3 H3 ce fp) [(h'.objs.size, go)] (wipe σ (own.map (·.2))) H3 s6 := I6.pins_of fun p hp => by
      rw [List.mem_singleton.mp hp]
      obtain ⟨y1, y2, y3, _⟩ := young _ ga
      exact ⟨kp6 _ _ at5, y1, y2, y3, gnc⟩
    have cwlt : ∀ b ∈ cw, s3.heap.objs.size < b ∧ b ≠ h'.objs.size := fun b hb => by
      have h1 : s3.heap.objs.size + 2 ≤ b := by rw [← sz5]; exact hcw b hb
      refine ⟨Nat.lt_of_lt_of_le (Nat.lt_succ_of_lt (Nat.lt_succ_self _)) h1, fun z => ?_⟩
      rw [z, hsz'] at h1
      exact absurd (Nat.lt_of_succ_le h1) (Nat.lt_irrefl _)
    have G : GPlace (gcx X (A.deeper ce) s3 H3 ce fp) [(h'.objs.size, go)] fp cw := by
      refine ⟨fun b hb => ⟨hb, (I6.ok.exf b hb).1, I6.ok.exfs b hb, fun x d e => (I6.ok.exf b hb).2 x d e, fun p hp => ?_, fun z => ?_⟩, fun b hb => ?_⟩
      · rw [List.mem_singleton.mp (show p ∈ [(h'.objs.size, go)] from hp)]
        exact fun z => absurd (Nat.lt_trans (sz3 b hb) (by rw [← z]; exact ga)) (Nat.lt_irrefl _)
      · exact absurd (Nat.lt_trans (sz3 b hb) (cwlt b z).1) (Nat.lt_irrefl _)
      · obtain ⟨y1, y2, y3, y4⟩ := young b (cwlt b hb).1
        refine ⟨Nat.le_of_lt (cwlt b hb).1, y2, y3, y4, fun p hp => ?_⟩
        rw [List.mem_singleton.mp (show p ∈ [(h'.objs.size, go)] from hp)]
        exact (cwlt b hb).2.symm
    have nc : ∀ b ∈ cw, H3 b = none := fun b hb => (young b (cwlt b hb).1).1
    refine ⟨kp6 _ _ at5, lim5.keeps kp6, .fresh (.compStart (gxE elt tg iter ifs scope gpos) 0 (.ref it) .none ce), by rw [gs6, g5]; exact Array.getElem?_push_size .., fun s7 z lk7 => ⟨rfl, ?_⟩⟩
    have I7 := G.doz I6' nc z
    have st7 : tn 0 s7.heap := T.keep _ _ _ st3 fun b hb o e => z.keep b o (fun hc => absurd (Nat.lt_trans (sz3 b hb) (cwlt b hc).1) (Nat.lt_irrefl _)) (kp36 b o e)
    have pg' := pg (A.deeper ce) s3 H3 s3.heap.objs.size (cloFrom X.env.cells scope.names []) code builtinsNs fp hrA
    have pt' := pt (A.deeper ce) s3 H3 s3.heap.objs.size (cloFrom X.env.cells scope.names []) code builtinsNs fp hrA
    have pe' := pe (A.deeper ce) s3 H3 s3.heap.objs.size (cloFrom X.env.cells scope.names []) code builtinsNs fp hrA
    rw [hce] at pg' pt' pe'
    exact gx_first (Y := gcx X (A.deeper ce) s3 H3 ce fp) over_gx rfl (by show ce.scope.isCoroutine = false; rw [ce1]; exact hco) rfl T pg' pt' pe' G hLk hW I7 nc z.there lk7 st7 (fun b hb => (f3 b hb).1) w0
  cases hf : codeAmong gpos ps.toList with
  | none =>
    refine wpAny_genexprCodeX hcode (cd.code hPs ht) (cd.tab hPs) hf fun c' h' tk hx hge hlt hco' _ htab' _ => ?_
    obtain ⟨o1, vs, f1, tf, fl, tg, inF, tx, tt, op, _, _, _, _, _, _, _, _, _, htr, _⟩ := hco'
    exact cont _ h' tk _ hx (Nat.le_trans hge (Nat.le_of_lt hlt)) htab'.2 htr
  | some cv =>
    refine wpAny_genexprCode_hit hcode (cd.code hPs ht) hf ?_
    exact cont cv s2.heap s2.toks #[] (Heap.ExtBut.refl _ _) (Nat.le_refl _) (by rw [Array.append_empty]; exact hPs) (by rw [Array.append_empty]; exact ht)
end
end GXP
namespace GXP
open PySem PySem.Spec PyProof.Rows L2
/-! the consumers -/
/-- the list that the consumer fills -/
abbrev tmpL (acc : Array Value) (c : Nat) : Obj := { cls := .type "list", dict := none, data := .seq acc c, slots := #[] }
def LkT (S : Addr) (ys : List V) (h : Heap) : Prop := ∃ acc c, h.get? S = some (tmpL acc c) ∧ Vals ys acc.toList ∧ ys.length ≤ sizeLine
theorem lnkT (S : Addr) : Lnk [S] (LkT S) := ⟨fun _ _ _ ⟨acc, c, e, r⟩ k => ⟨acc, c, k S (List.mem_singleton.mpr rfl) _ e, r⟩⟩
def cyT : Cy := fun ys y H Nx => ys.length < sizeLine ∧ Nx (ys ++ [y]) H
theorem lnkN : Lnk [] (fun _ _ => True) := ⟨fun _ _ _ _ _ => trivial⟩
/-- all, any: b0 ends it -/
def cyB (b0 : Bool) (Qf : Hp → Prop) : Cy := fun ys y H Nx => ∃ b, y = .bl b ∧ if b = b0 then Qf H else Nx (ys ++ [y]) H
def sumV : List V → Int
  | [] => 0
  | .int z :: r => z + sumV r
  | _ :: r => sumV r
theorem sumV_snoc : ∀ (ys : List V) (z : Int), sumV (ys ++ [.int z]) = sumV ys + z
  | [], z => by simp [sumV]
  | y :: r, z => by
    have ih := sumV_snoc r z
    cases y <;> simp only [List.cons_append, sumV, ih] <;> omega
def LkS (S : Addr) (ys : List V) (h : Heap) : Prop := ∃ t c, h.get? S = some (tmpL #[.int (sumV ys) t] c)
theorem lnkS (S : Addr) : Lnk [S] (LkS S) := ⟨fun _ _ _ ⟨t, c, e⟩ k => ⟨t, c, k S (List.mem_singleton.mpr rfl) _ e⟩⟩
def cyS : Cy := fun ys y H Nx => ∃ z, y = .int z ∧ InLong z ∧ InLong (sumV ys + z) ∧ Nx (ys ++ [y]) H
section
variable {X : Cx} {pins : List (Addr × Obj)} {σ : L2.St} {sg : Shared} {Hg : Hp} {fp : List Addr} {a g S : Addr} {go : Obj} {A A1 : Around} {ce : Env} {Qe : List V → Hp → Prop} {R : Result → Shared → Prop}
theorem gx_drain (M : GMk X pins σ sg Hg fp a g go) (hh : A.handled = none) (hd : A.depth < recursionLimit) (hSa : a ∉ [S]) (hSc : cStatics ∉ [S]) {res : Value}
    (fin : ∀ (s' : Shared) (ys : List V) (H : Hp) (acc : Array Value) (c : Nat), Inv X pins σ H s' → H S = none → s'.heap.get? S = some (tmpL acc c) → Vals ys acc.toList → ys.length ≤ sizeLine → Qe ys H → R (.ok (.ret res)) s') :
    ∀ (n : Nat) (ys : List V) (s : Shared), GRun (gcx X A1 sg Hg ce fp) [S] (LkT S) cyT Qe a g go A.in1.in1 n ys s → LkT S ys s.heap → AllBare s.gens → codeAny (model X.prog X.w) A (.builtin "list.extend.loop" ⟨[.ref S, .ref a, res], []⟩) R s := by
  have E0 := F.entry_extend_loop
  intro n
  induction n with
  | zero =>
    intro ys s G lk hb
    obtain ⟨acc, c, eS, r, hz⟩ := id lk
    refine codeAny_builtin E0 ?_
    rw [Around.under_plainId F.plain_extend_loop]
    refine wpAny_bind (thnF (gx_next M (lnkT S) hSa hSc (A := A.in1) hh hd G hb (fun b hb => ?_) lk) fun r s1 hN => ?_)
    · rw [List.mem_singleton.mp hb]
      exact ⟨_, eS, fun v z => by cases z⟩
    · obtain ⟨kc, hN⟩ := hN
      cases r with
      | none =>
        obtain ⟨ys1, H1, I1, n1, ⟨acc1, c1, e1, r1, z1⟩, q1⟩ := hN
        exact wpAny_pure (fin s1 ys1 H1 acc1 c1 I1 (n1 S (List.mem_singleton.mpr rfl)) e1 r1 z1 q1)
      | some v =>
        obtain ⟨ys1, y, H1, Nx, I1, ry, n1, ⟨acc1, c1, e1, r1, z1⟩, ⟨hlt, hN1⟩, wake⟩ := hN
        have hs : acc1.size < sizeLine := by
          have := r1.length
          simp only [Array.length_toList] at this
          omega
        show wpAny _ A.in1 (updateSeq S (·.push v) >>= _) _ _ _
        refine wpAny_bind (wpAny_updateSeq e1 rfl ?_ (Nat.le_of_lt hs) (by show (acc1.push v).size ≤ sizeLine + 1; rw [Array.size_push]; omega))
        have o1 := Heap.get?_update_self (Obj.mapSeq (·.push v)) e1 rfl
        refine (wake (ys1 ++ [y]) hN1 { s1 with heap := s1.heap.update S (Obj.mapSeq (·.push v)) } ⟨rfl, I1.bare, fun b o hb e => ?_, fun b hb => ?_⟩ ⟨_, _, o1, ?_, ?_⟩ rfl).elim (fun n' h => (Nat.succ_ne_zero n' h.1.symm).elim)
        · exact (Heap.get?_update_other _ _ (fun z => hb (List.mem_singleton.mpr z.symm))).trans e
        · rw [List.mem_singleton.mp hb]
          exact ⟨_, o1, fun v z => by cases z⟩
        · rw [Array.toList_push]
          exact r1.append (.cons ry .nil)
        · rw [List.length_append]
          exact hlt
  | succ n ih =>
    intro ys s G lk hb
    obtain ⟨acc, c, eS, r, hz⟩ := id lk
    refine codeAny_builtin E0 ?_
    rw [Around.under_plainId F.plain_extend_loop]
    refine wpAny_bind (thnF (gx_next M (lnkT S) hSa hSc (A := A.in1) hh hd G hb (fun b hb => ?_) lk) fun r s1 hN => ?_)
    · rw [List.mem_singleton.mp hb]
      exact ⟨_, eS, fun v z => by cases z⟩
    · obtain ⟨kc, hN⟩ := hN
      cases r with
      | none =>
        obtain ⟨ys1, H1, I1, n1, ⟨acc1, c1, e1, r1, z1⟩, q1⟩ := hN
        exact wpAny_pure (fin s1 ys1 H1 acc1 c1 I1 (n1 S (List.mem_singleton.mpr rfl)) e1 r1 z1 q1)
      | some v =>
        obtain ⟨ys1, y, H1, Nx, I1, ry, n1, ⟨acc1, c1, e1, r1, z1⟩, ⟨hlt, hN1⟩, wake⟩ := hN
        have hs : acc1.size < sizeLine := by
          have := r1.length
          simp only [Array.length_toList] at this
          omega
        show wpAny _ A.in1 (updateSeq S (·.push v) >>= _) _ _ _
        refine wpAny_bind (wpAny_updateSeq e1 rfl (wpAny_pure ⟨plainId_quiet F.plain_extend_loop _, ?_⟩) (Nat.le_of_lt hs) (by show (acc1.push v).size ≤ sizeLine + 1; rw [Array.size_push]; omega))
        have o1 := Heap.get?_update_self (Obj.mapSeq (·.push v)) e1 rfl
        have lk2 : LkT S (ys1 ++ [y]) (s1.heap.update S (Obj.mapSeq (·.push v))) := ⟨_, _, o1, by rw [Array.toList_push]; exact r1.append (.cons ry .nil), by rw [List.length_append]; exact hlt⟩
        obtain ⟨n', hn, G'⟩ := wake (ys1 ++ [y]) hN1 { s1 with heap := s1.heap.update S (Obj.mapSeq (·.push v)) } ⟨rfl, I1.bare, fun b o hb e => (Heap.get?_update_other _ _ (fun z => hb (List.mem_singleton.mpr z.symm))).trans e, fun b hb => by
          rw [List.mem_singleton.mp hb]
          exact ⟨_, o1, fun v z => by cases z⟩⟩ lk2 rfl
        cases hn
        exact ih (ys1 ++ [y]) _ G' lk2 I1.bare
end
end GXP
namespace GXP
open PySem PySem.Spec PyProof.Rows L2
section
variable {X : Cx} {pins : List (Addr × Obj)} {σ : L2.St} {sg : Shared} {Hg : Hp} {fp : List Addr} {a g S : Addr} {go : Obj} {A A1 : Around} {ce : Env} {Qe : List V → Hp → Prop} {Qf : Hp → Prop} {R : Result → Shared → Prop}
theorem gx_all (M : GMk X pins σ sg Hg fp a g go) (hh : A.handled = none) (hd : A.depth < recursionLimit)
    (fin : ∀ (s' : Shared) (H : Hp) (b : Bool), Inv X pins σ H s' → (b = true → ∃ ys, Qe ys H) → (b = false → Qf H) → R (.ok (.ret (.bool b))) s') :
    ∀ (n : Nat) (ys : List V) (s : Shared), GRun (gcx X A1 sg Hg ce fp) [] (fun _ _ => True) (cyB false Qf) Qe a g go A.in1.in1 n ys s → AllBare s.gens → codeAny (model X.prog X.w) A (.builtin "all.loop" ⟨[.ref a], []⟩) R s := by
  have E0 := F.entry_all_loop
  intro n
  induction n with
  | zero =>
    intro ys s G hb
    refine codeAny_builtin E0 ?_
    rw [Around.under_plainId F.plain_all_loop]
    refine wpAny_bind (thnF (gx_next M lnkN (by simp) (by simp) (A := A.in1) hh hd G hb (fun b hb => by cases hb) trivial) fun r s1 ⟨_, hN⟩ => ?_)
    cases r with
    | none =>
      obtain ⟨ys1, H1, I1, _, _, q1⟩ := hN
      exact wpAny_bind (wpAny_rule (wpAny_pure (fin s1 H1 true I1 (fun _ => ⟨ys1, q1⟩) (fun z => by cases z))))
    | some v =>
      obtain ⟨ys1, y, H1, Nx, I1, ry, _, _, ⟨b, rfl, q⟩, wake⟩ := hN
      cases ry
      refine wpAny_bind (wpAny_holding (wpAny_truthy_bool (wpAny_bind (wpAny_letGo ?_))))
      cases b with
      | true =>
        rw [if_neg (by decide)] at q
        obtain ⟨n', h, _⟩ := wake _ q s1 ⟨rfl, I1.bare, fun _ _ _ e => e, fun b hb => by cases hb⟩ trivial rfl
        cases h
      | false =>
        rw [if_pos rfl] at q
        exact wpAny_bind (wpAny_rule (wpAny_pure (fin s1 H1 false I1 (fun z => by cases z) (fun _ => q))))
  | succ n ih =>
    intro ys s G hb
    refine codeAny_builtin E0 ?_
    rw [Around.under_plainId F.plain_all_loop]
    refine wpAny_bind (thnF (gx_next M lnkN (by simp) (by simp) (A := A.in1) hh hd G hb (fun b hb => by cases hb) trivial) fun r s1 ⟨_, hN⟩ => ?_)
    cases r with
    | none =>
      obtain ⟨ys1, H1, I1, _, _, q1⟩ := hN
      exact wpAny_bind (wpAny_rule (wpAny_pure (fin s1 H1 true I1 (fun _ => ⟨ys1, q1⟩) (fun z => by cases z))))
    | some v =>
      obtain ⟨ys1, y, H1, Nx, I1, ry, _, _, ⟨b, rfl, q⟩, wake⟩ := hN
      cases ry
      refine wpAny_bind (wpAny_holding (wpAny_truthy_bool (wpAny_bind (wpAny_letGo ?_))))
      cases b with
      | true =>
        rw [if_neg (by decide)] at q
        obtain ⟨n', h, G'⟩ := wake _ q s1 ⟨rfl, I1.bare, fun _ _ _ e => e, fun b hb => by cases hb⟩ trivial rfl
        cases h
        exact wpAny_pure ⟨plainId_quiet F.plain_all_loop _, ih _ s1 G' I1.bare⟩
      | false =>
        rw [if_pos rfl] at q
        exact wpAny_bind (wpAny_rule (wpAny_pure (fin s1 H1 false I1 (fun z => by cases z) (fun _ => q))))
theorem gx_any (M : GMk X pins σ sg Hg fp a g go) (hh : A.handled = none) (hd : A.depth < recursionLimit)
    (fin : ∀ (s' : Shared) (H : Hp) (b : Bool), Inv X pins σ H s' → (b = false → ∃ ys, Qe ys H) → (b = true → Qf H) → R (.ok (.ret (.bool b))) s') :
    ∀ (n : Nat) (ys : List V) (s : Shared), GRun (gcx X A1 sg Hg ce fp) [] (fun _ _ => True) (cyB true Qf) Qe a g go A.in1.in1 n ys s → AllBare s.gens → codeAny (model X.prog X.w) A (.builtin "any.loop" ⟨[.ref a], []⟩) R s := by
  have E0 := F.entry_any_loop
  intro n
  induction n with
  | zero =>
    intro ys s G hb
    refine codeAny_builtin E0 ?_
    rw [Around.under_plainId F.plain_any_loop]
    refine wpAny_bind (thnF (gx_next M lnkN (by simp) (by simp) (A := A.in1) hh hd G hb (fun b hb => by cases hb) trivial) fun r s1 ⟨_, hN⟩ => ?_)
    cases r with
    | none =>
      obtain ⟨ys1, H1, I1, _, _, q1⟩ := hN
      exact wpAny_bind (wpAny_rule (wpAny_pure (fin s1 H1 false I1 (fun _ => ⟨ys1, q1⟩) (fun z => by cases z))))
    | some v =>
      obtain ⟨ys1, y, H1, Nx, I1, ry, _, _, ⟨b, rfl, q⟩, wake⟩ := hN
      cases ry
      refine wpAny_bind (wpAny_holding (wpAny_truthy_bool (wpAny_bind (wpAny_letGo ?_))))
      cases b with
      | false =>
        rw [if_neg (by decide)] at q
        obtain ⟨n', h, _⟩ := wake _ q s1 ⟨rfl, I1.bare, fun _ _ _ e => e, fun b hb => by cases hb⟩ trivial rfl
        cases h
      | true =>
        rw [if_pos rfl] at q
        exact wpAny_bind (wpAny_rule (wpAny_pure (fin s1 H1 true I1 (fun z => by cases z) (fun _ => q))))
  | succ n ih =>
    intro ys s G hb
    refine codeAny_builtin E0 ?_
    rw [Around.under_plainId F.plain_any_loop]
    refine wpAny_bind (thnF (gx_next M lnkN (by simp) (by simp) (A := A.in1) hh hd G hb (fun b hb => by cases hb) trivial) fun r s1 ⟨_, hN⟩ => ?_)
    cases r with
    | none =>
      obtain ⟨ys1, H1, I1, _, _, q1⟩ := hN
      exact wpAny_bind (wpAny_rule (wpAny_pure (fin s1 H1 false I1 (fun _ => ⟨ys1, q1⟩) (fun z => by cases z))))
    | some v =>
      obtain ⟨ys1, y, H1, Nx, I1, ry, _, _, ⟨b, rfl, q⟩, wake⟩ := hN
      cases ry
      refine wpAny_bind (wpAny_holding (wpAny_truthy_bool (wpAny_bind (wpAny_letGo ?_))))
      cases b with
      | false =>
        rw [if_neg (by decide)] at q
        obtain ⟨n', h, G'⟩ := wake _ q s1 ⟨rfl, I1.bare, fun _ _ _ e => e, fun b hb => by cases hb⟩ trivial rfl
        cases h
        exact wpAny_pure ⟨plainId_quiet F.plain_any_loop _, ih _ s1 G' I1.bare⟩
      | true =>
        rw [if_pos rfl] at q
        exact wpAny_bind (wpAny_rule (wpAny_pure (fin s1 H1 true I1 (fun z => by cases z) (fun _ => q))))
theorem gx_sum (M : GMk X pins σ sg Hg fp a g go) (hh : A.handled = none) (hd : A.depth < recursionLimit) (hSa : a ∉ [S]) (hSc : cStatics ∉ [S])
    (fin : ∀ (s' : Shared) (ys : List V) (H : Hp) (t : Tok), Inv X pins σ H s' → H S = none → Qe ys H → R (.ok (.ret (.int (sumV ys) t))) s') :
    ∀ (n : Nat) (ys : List V) (s : Shared), GRun (gcx X A1 sg Hg ce fp) [S] (LkS S) cyS Qe a g go A.in1.in1 n ys s → LkS S ys s.heap → AllBare s.gens → codeAny (model X.prog X.w) A (.builtin "sum.loop" ⟨[.ref a, .ref S, rawInt 0, rawInt 0], []⟩) R s := by
  have E0 := F.entry_sum_loop
  have cwt : ∀ {ys : List V} {s : Shared}, LkS S ys s.heap → ∀ b ∈ [S], ∃ o, s.heap.get? b = some o ∧ ∀ v, o.data ≠ .cell v := fun {ys s} lk b hb => by
    obtain ⟨t, c, e⟩ := lk
    rw [List.mem_singleton.mp hb]
    exact ⟨_, e, fun v z => by cases z⟩
  have turn : ∀ (n : Nat) (ys : List V) (s : Shared), GRun (gcx X A1 sg Hg ce fp) [S] (LkS S) cyS Qe a g go A.in1.in1 n ys s → LkS S ys s.heap → AllBare s.gens →
      (∀ ys2 s2, (∃ n', n = n' + 1 ∧ GRun (gcx X A1 sg Hg ce fp) [S] (LkS S) cyS Qe a g go A.in1.in1 n' ys2 s2) → LkS S ys2 s2.heap → AllBare s2.gens → codeAny (model X.prog X.w) A (.builtin "sum.loop" ⟨[.ref a, .ref S, rawInt 0, rawInt 0], []⟩) R s2) →
      codeAny (model X.prog X.w) A (.builtin "sum.loop" ⟨[.ref a, .ref S, rawInt 0, rawInt 0], []⟩) R s := by
    intro n ys s G lk hb next
    obtain ⟨t, c, eS⟩ := id lk
    refine codeAny_builtin E0 ?_
    rw [Around.under_plainId F.plain_sum_loop]
    show wpAny _ A.in1 (seqItems? (.ref S) >>= _) _ _ s
    refine wpAny_bind (wpAny_seqItems eS rfl ?_)
    show wpAny _ A.in1 (tryCatch (pyNext (.ref a)) _ >>= _) _ _ s
    refine wpAny_bind (wpAny_tryCatch (thnF (gx_next M (lnkS S) hSa hSc (A := A.in1) hh hd G hb (cwt lk) lk) fun r s1 ⟨kc, hN⟩ => ?_))
    have eS1 := kc S (List.mem_singleton.mpr rfl) _ eS
    cases r with
    | none =>
      obtain ⟨ys1, H1, I1, n1, ⟨t1, c1, e1⟩, q1⟩ := hN
      have hd1 := congrArg Obj.data (Option.some.inj (eS1.symm.trans e1))
      simp only [Data.seq.injEq, Array.mk.injEq, List.cons.injEq, Value.int.injEq, and_true] at hd1
      rw [hd1.1.1]
      exact wpAny_pure (fin s1 ys1 H1 _ I1 (n1 S (List.mem_singleton.mpr rfl)) q1)
    | some v =>
      obtain ⟨ys1, y, H1, Nx, I1, ry, n1, ⟨t1, c1, e1⟩, ⟨z, rfl, ⟨f1, f2⟩, ⟨f3, f4⟩, hN1⟩, wake⟩ := hN
      obtain ⟨tz, rfl⟩ := ry
      have hd1 := congrArg Obj.data (Option.some.inj (eS1.symm.trans e1))
      simp only [Data.seq.injEq, Array.mk.injEq, List.cons.injEq, Value.int.injEq, and_true] at hd1
      rw [hd1.1.1]
      have hc : ((decide (-(2 ^ 63) ≤ z) && decide (z < 2 ^ 63)) && (decide (-(2 ^ 63) ≤ sumV ys1 + z) && decide (sumV ys1 + z < 2 ^ 63))) = true := by
        simp only [Bool.and_eq_true, decide_eq_true_eq]
        exact ⟨⟨f1, f2⟩, f3, f4⟩
      show wpAny _ A.in1 (if (_ : Bool) = true then (mkInt (sumV ys1 + z) >>= _) else _) _ _ _
      split
      · refine wpAny_bind (wpAny_mkInt ?_)
        show wpAny _ A.in1 (updateSeq S (fun _ => #[.int (sumV ys1 + z) s1.toks]) >>= _) _ _ _
        have o1 := Heap.get?_update_self (Obj.mapSeq (fun _ => #[Value.int (sumV ys1 + z) s1.toks])) e1 rfl
        have lk2 : LkS S (ys1 ++ [.int z]) (s1.heap.update S (Obj.mapSeq (fun _ => #[Value.int (sumV ys1 + z) s1.toks]))) := ⟨s1.toks, _, by rw [sumV_snoc]; exact o1⟩
        refine wpAny_bind (wpAny_updateSeq e1 rfl (wpAny_pure ⟨plainId_quiet F.plain_sum_loop _, ?_⟩))
        refine next (ys1 ++ [.int z]) _ (wake _ hN1 { s1 with heap := s1.heap.update S (Obj.mapSeq (fun _ => #[Value.int (sumV ys1 + z) s1.toks])), toks := s1.toks + 1 } ⟨rfl, I1.bare, fun b o hb e => (Heap.get?_update_other _ _ (fun q => hb (List.mem_singleton.mpr q.symm))).trans e, cwt lk2⟩ lk2 rfl) lk2 I1.bare
      · rename_i hneg
        exact absurd hc hneg
  intro n
  induction n with
  | zero =>
    intro ys s G lk hb
    exact turn 0 ys s G lk hb fun ys2 s2 ⟨n', h, _⟩ => by cases h
  | succ n ih =>
    intro ys s G lk hb
    refine turn (n + 1) ys s G lk hb fun ys2 s2 ⟨n', h, G'⟩ lk2 hb2 => ?_
    cases h
    exact ih ys2 s2 G' lk2 hb2
end
end GXP
namespace GXP
open PySem PySem.Spec PyProof.Rows L2
section
variable {X : Cx} {pins : List (Addr × Obj)} {σ : L2.St} {a : Addr} {A : Around} {Qe : List V → Hp → Prop} {s : Shared} {m : Nat} {E : Value → Shared → Prop}
theorem gx_collect (hG : GReady X pins σ m cyT Qe a s) (hh : A.handled = none) (hf : A.frames = some X.stack) (hd : A.depth ≤ X.A.depth + 1) (hu : A.units + 2 ≤ X.A.units + 8) (hl : A.depth < recursionLimit) {Q : List Value → Shared → Prop}
    (hQ : ∀ (items : List Value) (s' : Shared) (ys : List V) (H : Hp), Inv X pins σ H s' → Vals ys items → ys.length ≤ sizeLine → Qe ys H → Q items s') : wpAny (model X.prog X.w) A (collect (.ref a)) Q E s := by
  obtain ⟨g, go, sg, Hg, fp, ce, M, I0, ha, lim, ready⟩ := hG.ex
  have hgen := fun (h : Heap) (e : h.get? a = some go) => M.isGen h e
  have hSa : s.heap.objs.size ≠ a := fun z => by
    have := Heap.lt_size ha
    rw [← z] at this
    exact Nat.lt_irrefl _ this
  have hSc : s.heap.objs.size ≠ cStatics := fun z => by
    obtain ⟨_, hn, _⟩ := lim
    have := hn.lt
    rw [← z] at this
    exact Nat.lt_irrefl _ this
  unfold collect
  refine wpAny_bind (wpAny_runValue (codeAny_builtin F.entry_proto_collect ?_))
  rw [Around.under_plainId F.plain_proto_collect]
  show wpAny _ A.in1 (newList [] >>= fun l => again (.builtin "list.__iadd__" ⟨[l, .ref a], []⟩)) _ _ s
  refine wpAny_bind (wpAny_newObj_type (wpAny_pure ⟨plainId_quiet F.plain_list_iadd _, codeAny_builtin F.entry_list_iadd ?_⟩))
  rw [Around.under_plainId F.plain_list_iadd]
  show wpAny _ A.in1 (Builtin.List.listExtendWith (.ref s.heap.objs.size) (.ref a) (.ref s.heap.objs.size)) _ _ _
  unfold Builtin.List.listExtendWith
  have k1 : ∀ b o, s.heap.get? b = some o → (s.heap.push { cls := .type "list", data := .seq ([] : List Value).toArray }).get? b = some o := fun b o e => Heap.get?_push_of_some _ e
  refine wpAny_bind (wpAny_typeOf (Heap.IsGen.typeIs (s := { s with heap := _ }) (hgen _ (k1 _ _ ha))) ?_)
  have q1 : Builtin.List.listSameRef (.ref s.heap.objs.size) (.ref a) = false := by simp [Builtin.List.listSameRef, hSa]
  have q2 : (Value.type "generator" == Value.type "list") = false := by decide
  have q3 : (Value.type "generator" == Value.type "tuple") = false := by decide
  simp only [q1, q2, q3, Bool.or_false, Bool.false_eq_true, if_false]
  refine wpAny_bind (wpAny_pyIter_gen (s := { s with heap := _ }) (hgen _ (k1 _ _ ha)) (wpAny_bind (wpAny_holding ?_)))
  unfold Builtin.List.listLengthHint
  refine wpAny_bind (wpAny_specialOf (Heap.IsGen.typeIs (s := { s with heap := _ }) (hgen _ (k1 _ _ ha))) F.gen_no_len ?_)
  show wpAny _ A.in1 (specialOf (Value.ref a) (Str.ofString "__length_hint__") >>= _) _ _ _
  refine wpAny_bind (wpAny_specialOf (Heap.IsGen.typeIs (s := { s with heap := _ }) (hgen _ (k1 _ _ ha))) F.gen_no_hint (wpAny_pure ?_))
  show wpAny _ A.in1 (rule "list.extend.makes-room" >>= fun _ => Builtin.List.listTouch (.ref s.heap.objs.size) >>= fun _ =>
    again (.builtin "list.extend.loop" ⟨[.ref s.heap.objs.size, .ref a, .ref s.heap.objs.size], []⟩)) _ _ _
  refine wpAny_bind (wpAny_rule (wpAny_bind ?_))
  have o1 : (s.heap.push { cls := .type "list", data := .seq ([] : List Value).toArray }).get? s.heap.objs.size = some { cls := .type "list", data := .seq ([] : List Value).toArray } := Heap.get?_push_size _ rfl
  show wpAny _ A.in1 (updateSeq s.heap.objs.size (·.push .none) >>= fun _ => updateSeq s.heap.objs.size (·.pop)) _ _ _
  refine wpAny_bind (wpAny_updateSeq o1 rfl ?_)
  have o2 := Heap.get?_update_self (Obj.mapSeq (·.push Value.none)) o1 rfl
  refine wpAny_updateSeq o2 rfl (wpAny_pure ⟨plainId_quiet F.plain_extend_loop _, ?_⟩)
  have o3 := Heap.get?_update_self (Obj.mapSeq (·.pop)) o2 rfl
  have k3 : ∀ b o, s.heap.get? b = some o → (((s.heap.push { cls := .type "list", data := .seq ([] : List Value).toArray }).update s.heap.objs.size (Obj.mapSeq (·.push Value.none))).update s.heap.objs.size (Obj.mapSeq (·.pop))).get? b = some o := fun b o e =>
    have hb : s.heap.objs.size ≠ b := fun z => Nat.lt_irrefl b (by have := Heap.lt_size e; rw [z] at this; exact this)
    (Heap.get?_update_other _ _ hb).trans ((Heap.get?_update_other _ _ hb).trans (k1 b o e))
  have lk0 : LkT s.heap.objs.size [] (((s.heap.push { cls := .type "list", data := .seq ([] : List Value).toArray }).update s.heap.objs.size (Obj.mapSeq (·.push Value.none))).update s.heap.objs.size (Obj.mapSeq (·.pop))) := ⟨_, _, o3, .nil, Nat.zero_le _⟩
  have G := ready [s.heap.objs.size] (LkT s.heap.objs.size) A.in1.in1 { s with heap := ((s.heap.push { cls := .type "list", data := .seq ([] : List Value).toArray }).update s.heap.objs.size (Obj.mapSeq (·.push Value.none))).update s.heap.objs.size (Obj.mapSeq (·.pop)) } (lnkT _) hh hf hd hu
    (fun b hb => by rw [List.mem_singleton.mp hb]; exact Nat.le_refl _) k3 (fun b hb => by rw [List.mem_singleton.mp hb]; exact ⟨_, o3, fun v z => by cases z⟩) rfl rfl lk0
  refine gx_drain M hh hl (fun hm => hSa (List.mem_singleton.mp hm).symm) (fun hm => hSc (List.mem_singleton.mp hm).symm) (fun s' ys H acc c I' n' e' r' z' q' => ?_) m [] _ G lk0 I0.bare
  show wpAny _ A (load s.heap.objs.size >>= _) _ _ s'
  exact wpAny_bind (wpAny_load e' (wpAny_pure (hQ acc.toList s' ys H I' r' z' q')))
theorem call_tuple_gx (hr : Room 1 X.A) (hf : X.A.frames = some X.stack) {Q : VK} (hG : GReady X pins σ m cyT (fun ys H => ∀ p, H p = none → Q (.ref p) (upd H p (.tup ys))) a s) :
    wpAny (model X.prog X.w) X.A (call (.type "tuple") [.ref a]) (EP X pins σ Q) E s := by
  obtain ⟨g, go, sg, Hg, fp, ce, M, I0, ha, lim, ready⟩ := id hG.ex
  have hTI : s.TypeIs (.ref a) "generator" := (M.isGen _ ha).typeIs
  refine callType_codes (Q₁ := fun obj s1 => s1.TypeIs obj "tuple" ∧ EP X pins σ Q obj s1) F.called_tuple (F.typeCall_tuple_1 _) F.entry_object_init (codeAny_of_tree ?_) fun obj s1 h1 =>
    ⟨h1.1, F.args_object_init_2 obj _, object_init_meets F.called_tuple.init.lookup F.called_tuple.made (by decide) X.prog X.w X.A.in1 _ s1 ⟨h1.1, rfl, h1.2⟩⟩
  show wpAny _ X.A.in1.in1 (do checkBuiltinCall "tuple.__new__" ⟨[.type "tuple", .ref a], []⟩; again (.builtin "tuple.__new__" ⟨[.type "tuple", .ref a], []⟩)) _ _ s
  refine wpAny_bind (wpAny_of_eq (F.newCall_tuple_1 _) (wpAny_pure ⟨plainId_quiet F.plain_tuple_new _, codeAny_builtin F.entry_tuple_new ?_⟩))
  rw [Around.under_plainId F.plain_tuple_new]
  have hsub := sub_tuple_self
  have hinit := init_tuple_lookup
  have hmh := madeHere_tuple
  have hr1 := hr.dp
  have hr2 := hr.hd
  have col := fun (Q : List Value → Shared → Prop) (E : Value → Shared → Prop) hQ => gx_collect (A := X.A.in1.in1) (E := E) (Q := Q) hG hr2 hf (Nat.le_succ _) (by show X.A.units + 1 + 1 + 2 ≤ _; omega) (by show X.A.depth < _; omega) hQ
  wp_walk using wpAny_typeOf hTI, col
  intro items s' ys H I' r' z' q'
  show wpAny _ _ (Builtin.Tuple.tupleExact items.toArray >>= fun v => ret v) _ _ _
  unfold Builtin.Tuple.tupleExact
  refine wpAny_bind (wpAny_newObj_type (wpAny_pure ?_) ?_)
  · have hn : H s'.heap.objs.size = none := I'.hok.fresh (Nat.le_refl _)
    refine ⟨⟨_, Heap.get?_push_size _ rfl, rfl⟩, .ref s'.heap.objs.size, _, I'.laid (t' := s'.toks) (o := .tup ys) (fun b o e => Heap.get?_push_of_some _ e) (Nat.le_refl _) ⟨z', items, r', ?_⟩, rfl, q' _ hn⟩
    exact ⟨_, Heap.get?_push_size _ rfl, rfl, 0, rfl⟩
  · show items.toArray.size ≤ sizeLine
    rw [List.size_toArray, ← r'.length]
    exact z'
theorem call_all_gx (hr : Room 1 X.A) (hf : X.A.frames = some X.stack) {Q : VK} (hG : GReady X pins σ m (cyB false (Q (.bl false))) (fun _ H => Q (.bl true) H) a s) :
    wpAny (model X.prog X.w) X.A (call (.builtin "all") [.ref a]) (EP X pins σ Q) E s := by
  obtain ⟨g, go, sg, Hg, fp, ce, M, I0, ha, lim, ready⟩ := id hG.ex
  have hr1 := hr.dp
  refine call_function_tree F.kind_all F.plain_all F.entry_all (F.args_all1 _) ?_
  unfold Builtin.«all»
  refine wpAny_bind (m := oneArg "all" _) (wpAny_pure (wpAny_bind (wpAny_pyIter_gen (M.isGen _ ha) (wpAny_pure ⟨plainId_quiet F.plain_all_loop _, ?_⟩))))
  have G := ready [] (fun _ _ => True) X.A.in1.in1 s lnkN hr.hd hf (Nat.le_succ _) (by show X.A.units + 1 + 1 ≤ _; omega) (fun b hb => by cases hb) (fun _ _ e => e) (fun b hb => by cases hb) rfl rfl trivial
  refine gx_all M hr.hd (by omega) (fun s' H b I' h1 h2 => ?_) m [] s G I0.bare
  cases b with
  | true =>
    obtain ⟨_, q⟩ := h1 rfl
    exact ⟨.bl true, H, I', rfl, q⟩
  | false => exact ⟨.bl false, H, I', rfl, h2 rfl⟩
theorem call_any_gx (hr : Room 1 X.A) (hf : X.A.frames = some X.stack) {Q : VK} (hG : GReady X pins σ m (cyB true (Q (.bl true))) (fun _ H => Q (.bl false) H) a s) :
    wpAny (model X.prog X.w) X.A (call (.builtin "any") [.ref a]) (EP X pins σ Q) E s := by
  obtain ⟨g, go, sg, Hg, fp, ce, M, I0, ha, lim, ready⟩ := id hG.ex
  have hr1 := hr.dp
  refine call_function_tree F.kind_any F.plain_any F.entry_any (F.args_any1 _) ?_
  unfold Builtin.«any»
  refine wpAny_bind (m := oneArg "any" _) (wpAny_pure (wpAny_bind (wpAny_pyIter_gen (M.isGen _ ha) (wpAny_pure ⟨plainId_quiet F.plain_any_loop _, ?_⟩))))
  have G := ready [] (fun _ _ => True) X.A.in1.in1 s lnkN hr.hd hf (Nat.le_succ _) (by show X.A.units + 1 + 1 ≤ _; omega) (fun b hb => by cases hb) (fun _ _ e => e) (fun b hb => by cases hb) rfl rfl trivial
  refine gx_any M hr.hd (by omega) (fun s' H b I' h1 h2 => ?_) m [] s G I0.bare
  cases b with
  | false =>
    obtain ⟨_, q⟩ := h1 rfl
    exact ⟨.bl false, H, I', rfl, q⟩
  | true => exact ⟨.bl true, H, I', rfl, h2 rfl⟩
theorem call_sum_gx (hr : Room 1 X.A) (hf : X.A.frames = some X.stack) {Q : VK} (hG : GReady X pins σ m cyS (fun ys H => Q (.int (sumV ys)) H) a s) :
    wpAny (model X.prog X.w) X.A (call (.builtin "sum") [.ref a]) (EP X pins σ Q) E s := by
  obtain ⟨g, go, sg, Hg, fp, ce, M, I0, ha, lim, ready⟩ := id hG.ex
  have hr1 := hr.dp
  have hSa : s.heap.objs.size ≠ a := fun z => by
    have := Heap.lt_size ha
    rw [← z] at this
    exact Nat.lt_irrefl _ this
  have hSc : s.heap.objs.size ≠ cStatics := fun z => by
    obtain ⟨_, hn, _⟩ := lim
    have := hn.lt
    rw [← z] at this
    exact Nat.lt_irrefl _ this
  refine call_function_tree F.kind_sum F.plain_sum F.entry_sum (F.args_sum1 _) ?_
  unfold Builtin.«sum»
  simp only [List.length_cons, List.length_nil]; rw [if_neg (by decide)]
  refine wpAny_bind (wpAny_of_eq (show Builtin.Builtins.bindParams "sum" ["start"] 0 { } = pure [none] from rfl) (wpAny_bind (wpAny_pyIter_gen (M.isGen _ ha) (wpAny_bind (wpAny_mkInt (wpAny_bind (wpAny_pure ?_)))))))
  simp only [List.forIn_cons, List.forIn_nil]; refine wpAny_bind (wpAny_bind (wpAny_bind (wpAny_isInstance (T := "int") (b := false) (typeIs_int _ _ _) PySem.sub_int_str ?_)))
  simp only [Bool.false_eq_true, if_false]; refine wpAny_pure (wpAny_bind (wpAny_bind (wpAny_isInstance (T := "int") (b := false) (typeIs_int _ _ _) sub_int_bytes ?_)))
  simp only [Bool.false_eq_true, if_false]; refine wpAny_pure (wpAny_bind (wpAny_bind (wpAny_isInstance (T := "int") (b := false) (typeIs_int _ _ _) sub_int_bytearray ?_)))
  simp only [Bool.false_eq_true, if_false]; refine wpAny_pure (wpAny_pure (wpAny_bind (wpAny_newObj_type (wpAny_pure ⟨plainId_quiet F.plain_sum_loop _, ?_⟩))))
  have o1 : (s.heap.push { cls := .type "list", data := .seq ([.int 0 s.toks] : List Value).toArray }).get? s.heap.objs.size = some { cls := .type "list", data := .seq ([.int 0 s.toks] : List Value).toArray } := Heap.get?_push_size _ rfl
  have lk0 : LkS s.heap.objs.size [] (s.heap.push { cls := .type "list", data := .seq ([.int 0 s.toks] : List Value).toArray }) := ⟨s.toks, 0, o1⟩
  have G := ready [s.heap.objs.size] (LkS s.heap.objs.size) X.A.in1.in1 { s with heap := s.heap.push { cls := .type "list", data := .seq ([.int 0 s.toks] : List Value).toArray }, toks := s.toks + 1 } (lnkS _) hr.hd hf (Nat.le_succ _) (by show X.A.units + 1 + 1 ≤ _; omega)
    (fun b hb => by rw [List.mem_singleton.mp hb]; exact Nat.le_refl _) (fun b o e => Heap.get?_push_of_some _ e) (fun b hb => by rw [List.mem_singleton.mp hb]; exact ⟨_, o1, fun v z => by cases z⟩) rfl rfl lk0
  refine gx_sum M hr.hd (by omega) (fun hm => hSa (List.mem_singleton.mp hm).symm) (fun hm => hSc (List.mem_singleton.mp hm).symm) (fun s' ys H t I' n' q' => ?_) m [] _ G lk0 I0.bare
  exact ⟨.int (sumV ys), H, I', ⟨t, rfl⟩, q'⟩
end
end GXP
namespace GXP
open PySem PySem.Spec PyProof.Rows L2
/-- F(elt for target in iter if ..): what its reading asks; P the table of the def's code object -/
def tGx (P : Addr) (wi : TI) (g : TG) (tt : TT) (te : TE) (vs : List Nat) (cy : VK → Cy) (Qe : VK → List V → Hp → Prop) : TE := fun σ H Q =>
  wi σ H fun J H1 => GxR.TabG H1 P ∧ ∀ H2, GxR.Tabbed P H1 H2 → ∃ W m, W 0 m [] H2 ∧ Turns J g tt te vs σ (cy Q) (Qe Q) W
section
variable {X : Cx} {c P : Addr} {elt iter tg : Expr} {ifs : List Expr} {scope : Scope} {p pos gpos : Pos} {own : List (Str × Nat)} {wi : TI} {g : TG} {tt : TT} {te : TE} {k : Nat}
/-- what is asked of the expression itself -/
structure GxOk (X : Cx) (k : Nat) (c P : Addr) (elt tg iter : Expr) (ifs : List Expr) (scope : Scope) (own : List (Str × Nat)) (wi : TI) (g : TG) (tt : TT) (te : TE) : Prop where
  hr : Room (k + 1) X.A
  hc : X.calm = true
  tb : LamX.TabB X.base X.mg c P
  code : X.env.code = .ref c
  co : scope.isCoroutine = false
  ok : BlkOk X.N X.env.scope scope own
  nd : X.N.Nodup
  nocell : ∀ y ∈ scope.names, y.2 ≠ .cell
  dot : scope.names.lookup (".0" : Str) = some NameKind.local
  pi : PI X tg iter wi
  pg : ∀ (A : Around) (s : Shared) (H : Hp) (C : Addr) (cl : List (Str × Addr)) (code : Value) (bi : Addr) (fp : List Addr), Room k A → PG (gcx X A s H (genEnv scope cl C code bi X.env) fp) tg g
  pt : ∀ (A : Around) (s : Shared) (H : Hp) (C : Addr) (cl : List (Str × Addr)) (code : Value) (bi : Addr) (fp : List Addr), Room k A → PTs (gcx X A s H (genEnv scope cl C code bi X.env) fp) ifs tt
  pe : ∀ (A : Around) (s : Shared) (H : Hp) (C : Addr) (cl : List (Str × Addr)) (code : Value) (bi : Addr) (fp : List Addr), Room k A → PE (gcx X A s H (genEnv scope cl C code bi X.env) fp) elt te
  fold : ∀ v, genFold iter X.env v = pure v
theorem GxOk.make (G : GxOk X k c P elt tg iter ifs scope own wi g tt te) {cy : Cy} {Qe : List V → Hp → Prop} {pins : List (Addr × Obj)} {s : Shared} {σ : L2.St} {H : Hp} (I : Inv X pins σ H s)
    (h : wi σ H fun J H1 => GxR.TabG H1 P ∧ ∀ H2, GxR.Tabbed P H1 H2 → ∃ W m, W 0 m [] H2 ∧ Turns J g tt te (own.map (·.2)) σ cy Qe W) :
    wpAny (model X.prog X.w) X.A (eval (gxE elt tg iter ifs scope gpos) X.env) (fun u s' => ∃ a m, u = .ref a ∧ GReady X pins σ m cy Qe a s') X.xe s :=
  gx_make G.hr G.tb G.code G.co G.ok G.nd G.nocell G.dot G.pi G.pg G.pt G.pe G.fold I h
theorem pe_tupleGx (hg : Gl X "tuple") (hm : X.mg "tuple" = none) (G : GxOk X k c P elt tg iter ifs scope own wi g tt te)
    (he : starEach [gxE elt tg iter ifs scope gpos] X.env = (false, eval (gxE elt tg iter ifs scope gpos) X.env) :: starEach [] X.env := by rfl) :
    PE X (.Call (.Name "tuple" p) [gxE elt tg iter ifs scope gpos] [] pos) (tGx P wi g tt te (own.map (·.2)) (fun _ => cyT) fun Q ys H => ∀ p, H p = none → Q (.ref p) (upd H p (.tup ys))) := by
  refine ⟨fun pins s σ H Q I h => ?_⟩
  refine wpAny_Call_Name_kw (ld_blt I hg hm (by decide +kernel : bootBuiltins "tuple" = some (.type "tuple")) (PyProof.Rows.callWith_type1 ?_ he (by rfl)))
  rw [he]
  show wpAny _ _ (spliced ((false, eval (gxE elt tg iter ifs scope gpos) X.env) :: backTo pos (starEach [] X.env))) _ _ s
  exact Calls.spliced_cons (thn (G.make I h) fun u s1 ⟨a, m, e, hG⟩ => e ▸ Calls.spliced_nil (call_tuple_gx (G.hr.mono (by omega)) I.ok.frames hG))
theorem pe_allGx (hg : Gl X "all") (hm : X.mg "all" = none) (G : GxOk X k c P elt tg iter ifs scope own wi g tt te)
    (he : starEach [gxE elt tg iter ifs scope gpos] X.env = (false, eval (gxE elt tg iter ifs scope gpos) X.env) :: starEach [] X.env := by rfl) :
    PE X (.Call (.Name "all" p) [gxE elt tg iter ifs scope gpos] [] pos) (tGx P wi g tt te (own.map (·.2)) (fun Q => cyB false (Q (.bl false))) fun Q _ H => Q (.bl true) H) := by
  refine ⟨fun pins s σ H Q I h => ?_⟩
  refine wpAny_Call_Name_kw (ld_blt I hg hm (by decide +kernel : bootBuiltins "all" = some (.builtin "all")) (PyProof.Rows.callWith_builtin1 ?_ he (by rfl)))
  rw [he]
  show wpAny _ _ (spliced ((false, eval (gxE elt tg iter ifs scope gpos) X.env) :: backTo pos (starEach [] X.env))) _ _ s
  exact Calls.spliced_cons (thn (G.make I h) fun u s1 ⟨a, m, e, hG⟩ => e ▸ Calls.spliced_nil (call_all_gx (G.hr.mono (by omega)) I.ok.frames hG))
theorem pe_anyGx (hg : Gl X "any") (hm : X.mg "any" = none) (G : GxOk X k c P elt tg iter ifs scope own wi g tt te)
    (he : starEach [gxE elt tg iter ifs scope gpos] X.env = (false, eval (gxE elt tg iter ifs scope gpos) X.env) :: starEach [] X.env := by rfl) :
    PE X (.Call (.Name "any" p) [gxE elt tg iter ifs scope gpos] [] pos) (tGx P wi g tt te (own.map (·.2)) (fun Q => cyB true (Q (.bl true))) fun Q _ H => Q (.bl false) H) := by
  refine ⟨fun pins s σ H Q I h => ?_⟩
  refine wpAny_Call_Name_kw (ld_blt I hg hm (by decide +kernel : bootBuiltins "any" = some (.builtin "any")) (PyProof.Rows.callWith_builtin1 ?_ he (by rfl)))
  rw [he]
  show wpAny _ _ (spliced ((false, eval (gxE elt tg iter ifs scope gpos) X.env) :: backTo pos (starEach [] X.env))) _ _ s
  exact Calls.spliced_cons (thn (G.make I h) fun u s1 ⟨a, m, e, hG⟩ => e ▸ Calls.spliced_nil (call_any_gx (G.hr.mono (by omega)) I.ok.frames hG))
theorem pe_sumGx (hg : Gl X "sum") (hm : X.mg "sum" = none) (G : GxOk X k c P elt tg iter ifs scope own wi g tt te)
    (he : starEach [gxE elt tg iter ifs scope gpos] X.env = (false, eval (gxE elt tg iter ifs scope gpos) X.env) :: starEach [] X.env := by rfl) :
    PE X (.Call (.Name "sum" p) [gxE elt tg iter ifs scope gpos] [] pos) (tGx P wi g tt te (own.map (·.2)) (fun _ => cyS) fun Q ys H => Q (.int (sumV ys)) H) := by
  refine ⟨fun pins s σ H Q I h => ?_⟩
  refine wpAny_Call_Name_kw (ld_blt I hg hm (by decide +kernel : bootBuiltins "sum" = some (.builtin "sum")) (PyProof.Rows.callWith_builtin1 ?_ he (by rfl)))
  rw [he]
  show wpAny _ _ (spliced ((false, eval (gxE elt tg iter ifs scope gpos) X.env) :: backTo pos (starEach [] X.env))) _ _ s
  exact Calls.spliced_cons (thn (G.make I h) fun u s1 ⟨a, m, e, hG⟩ => e ▸ Calls.spliced_nil (call_sum_gx (G.hr.mono (by omega)) I.ok.frames hG))
end
/-! readings over a list, a tuple, a range: an invariant by the turn, the items so far, the heap -/
section
variable {K : PySem.W.Frag} {a : Addr} {xs : List V} {g : TG} {tt : TT} {te : TE} {vs : List Nat} {σ : L2.St} {cy : Cy} {Qe : List V → Hp → Prop} {H0 : Hp}
theorem gx_tup (Pv : Nat → List V → Hp → Prop) (h0 : Pv 0 [] H0) (hl : ∀ i ys H, i ≤ xs.length → Pv i ys H → SqT K H a xs)
    (hs : ∀ i x ys H, xs[i]? = some x → Pv i ys H → g x (wipe σ vs) H fun σ2 H2 => wipe σ2 vs = wipe σ vs ∧ tt σ2 H2 fun b H3 => if b = true then te σ2 H3 fun y H4 => cy ys y H4 (Pv (i + 1)) else Pv (i + 1) ys H3)
    (hd : ∀ ys H, Pv xs.length ys H → Qe ys H) : ∃ W m, W 0 m [] H0 ∧ Turns (Itt K a) g tt te vs σ cy Qe W := by
  refine ⟨fun i m ys H => m = xs.length - i ∧ i ≤ xs.length ∧ Pv i ys H, xs.length, ⟨rfl, Nat.zero_le _, h0⟩, ?_⟩
  rintro i m ys H ⟨rfl, hi, p⟩
  have q := hl i ys H hi p
  by_cases hlt : i < xs.length
  · refine .inr ⟨⟨xs, _, q, List.getElem?_eq_getElem hlt⟩, by omega, Pv (i + 1), fun ys' H' p' => ⟨_, by omega, rfl, hlt, p'⟩, fun x H' y => ?_⟩
    obtain ⟨rfl, y⟩ := y
    exact hs i x ys _ (y xs q) p
  · have e : i = xs.length := by omega
    subst e
    exact .inl ⟨⟨xs, q, Nat.le_refl _⟩, hd ys H p⟩
theorem gx_list (Pv : Nat → List V → Hp → Prop) (h0 : Pv 0 [] H0) (hl : ∀ i ys H, i ≤ xs.length → Pv i ys H → SqL K H a xs)
    (hs : ∀ i x ys H, xs[i]? = some x → Pv i ys H → g x (wipe σ vs) H fun σ2 H2 => wipe σ2 vs = wipe σ vs ∧ tt σ2 H2 fun b H3 => if b = true then te σ2 H3 fun y H4 => cy ys y H4 (Pv (i + 1)) else Pv (i + 1) ys H3)
    (hd : ∀ ys H, Pv xs.length ys H → Qe ys H) : ∃ W m, W 0 m [] H0 ∧ Turns (Itl K a) g tt te vs σ cy Qe W := by
  refine ⟨fun i m ys H => m = xs.length - i ∧ i ≤ xs.length ∧ Pv i ys H, xs.length, ⟨rfl, Nat.zero_le _, h0⟩, ?_⟩
  rintro i m ys H ⟨rfl, hi, p⟩
  have q := hl i ys H hi p
  by_cases hlt : i < xs.length
  · refine .inr ⟨⟨xs, _, q, List.getElem?_eq_getElem hlt⟩, by omega, Pv (i + 1), fun ys' H' p' => ⟨_, by omega, rfl, hlt, p'⟩, fun x H' y => ?_⟩
    obtain ⟨rfl, y⟩ := y
    exact hs i x ys _ (y xs q) p
  · have e : i = xs.length := by omega
    subst e
    exact .inl ⟨⟨xs, q, Nat.le_refl _⟩, hd ys H p⟩
theorem gx_range {lo : Int} {n : Nat} (Pv : Nat → List V → Hp → Prop) (h0 : Pv 0 [] H0)
    (hs : ∀ i ys H, i < n → Pv i ys H → g (.int (lo + i)) (wipe σ vs) H fun σ2 H2 => wipe σ2 vs = wipe σ vs ∧ tt σ2 H2 fun b H3 => if b = true then te σ2 H3 fun y H4 => cy ys y H4 (Pv (i + 1)) else Pv (i + 1) ys H3)
    (hd : ∀ ys H, Pv n ys H → Qe ys H) : ∃ W m, W 0 m [] H0 ∧ Turns (Itr lo n) g tt te vs σ cy Qe W := by
  refine ⟨fun i m ys H => m = n - i ∧ i ≤ n ∧ Pv i ys H, n, ⟨rfl, Nat.zero_le _, h0⟩, ?_⟩
  rintro i m ys H ⟨rfl, hi, p⟩
  by_cases hlt : i < n
  · refine .inr ⟨hlt, by omega, Pv (i + 1), fun ys' H' p' => ⟨_, by omega, rfl, hlt, p'⟩, fun x H' y => ?_⟩
    obtain ⟨rfl, rfl⟩ := y
    exact hs i ys _ hlt p
  · have e : i = n := by omega
    subst e
    exact .inl ⟨Nat.le_refl _, hd ys H p⟩
end
end GXP
/-! ### sorted(d) of a dict whose keys are pairs of ints, any number of them -/
namespace SDT
open PySem PySem.Spec PyProof.Rows L2
def keyAt (H : Hp) (b : Addr) : Int × Int := match H b with
  | some (.tup [.int i, .int j]) => (i, j)
  | _ => (0, 0)
def keyOf (H : Hp) (v : Value) : Int × Int := match v with
  | .ref b => keyAt H b
  | _ => (0, 0)
theorem keyAt_of {H : Hp} {b : Addr} {i j : Int} (e : H b = some (.tup [.int i, .int j])) : keyAt H b = (i, j) := by
  unfold keyAt
  rw [e]
def pairKey (k : Int × Int) : List Key := [Sum.inl k.1, Sum.inl k.2]
/-- b holds the pair k -/
abbrev PairAt (H : Hp) (k : Int × Int) (b : Addr) : Prop := H b = some (.tup [.int k.1, .int k.2])
def rSortedDT : List V → Hp → VK → Prop := fun vs H Q => ∃ (d : Addr) (kvs : List (List Key × V)) (ks : List (Int × Int)), vs = [V.ref d] ∧ Rd H d (.dT kvs) ∧ kvs.map (·.1) = ks.map pairKey ∧
  ∀ (ys : List (Int × Int)) (bs : List Addr) (p : Addr), ys.Perm ks → ys.Pairwise (fun x y => SrtO.lexB y x = false) → Paired (PairAt H) ys bs → H p = none → Q (.ref p) (upd H p (.lst (bs.map V.ref)))
theorem paired_keys {H : Hp} : ∀ {kvs : List (List Key × V)} {xs : List (List Key × Addr × Value)} {ks : List (Int × Int)}, KT H kvs xs → kvs.map (·.1) = ks.map pairKey → (∀ x ∈ xs, ∃ k : Int × Int, PairAt H k x.2.1) ∧ xs.map (fun x => keyAt H x.2.1) = ks
  | _, _, [], .nil, _ => ⟨fun x m => absurd m List.not_mem_nil, rfl⟩
  | _, _, _ :: _, .nil, e => by cases e
  | _, _, [], .cons _ _, e => by cases e
  | _, _, k :: ks, .cons h t, e => by
    obtain ⟨e1, e2⟩ := List.cons.inj e
    obtain ⟨h1, h2, _⟩ := h
    dsimp only at e1
    rw [e1] at h2
    have q : PairAt H k _ := h2
    obtain ⟨r1, r2⟩ := paired_keys t e2
    refine ⟨fun x m => ?_, ?_⟩
    · rcases List.mem_cons.mp m with rfl | m
      · exact ⟨k, q⟩
      · exact r1 x m
    · rw [List.map_cons, keyAt_of q, r2]
theorem paired_of {H : Hp} : ∀ {bs : List Addr}, (∀ b ∈ bs, ∃ k : Int × Int, PairAt H k b) → Paired (PairAt H) (bs.map (keyAt H)) bs
  | [], _ => .nil
  | b :: bs, h => by
    refine .cons ?_ (paired_of fun x m => h x (List.mem_cons_of_mem _ m))
    obtain ⟨k, e⟩ := h b List.mem_cons_self
    rw [keyAt_of e]
    exact e
theorem refs_of : ∀ {us : List Value}, (∀ u ∈ us, ∃ a, u = Value.ref a) → ∃ bs : List Addr, us = bs.map Value.ref
  | [], _ => ⟨[], rfl⟩
  | u :: us, h => by
    obtain ⟨bs, e⟩ := refs_of (us := us) fun x m => h x (List.mem_cons_of_mem _ m)
    obtain ⟨a, e2⟩ := h u List.mem_cons_self
    exact ⟨a :: bs, by rw [e, e2]; rfl⟩
section
variable {X : Cx}
theorem cr_sortedDT (hc : X.calm = true) : CallR X (.builtin "sorted") rSortedDT := by
  intro pins s σ H xs us Q I r h
  obtain ⟨d, kvs, ks, rfl, hd, hks, q⟩ := h
  obtain ⟨u, rfl, rx⟩ := vals1 r
  cases rx
  obtain ⟨z, hs, ps, pr, o, es, ep, ho, hx, hdt, he, hn⟩ := (show ObjOk X.prog X.w H s.heap d (.dT kvs) from hd.ok I.hok)
  have l1 : es.size = ps.length := size_of_entries he
  have l2 : kvs.length = ps.length := Paired.length pr
  obtain ⟨pk, ek⟩ := paired_keys pr hks
  refine Calls.call_function_entry PyProof.Rows.kind_sorted PyProof.Rows.plain_sorted PyProof.Rows.entry_sorted (PyProof.Rows.args_sorted1 _) ?_
  unfold Builtin.«sorted»
  refine wpAny_bind (m := checkCount "sorted" 1 1 _) (wpAny_pure ?_)
  refine wpAny_bind (PySem.W.kdu_collect (A := X.A.in1) (kdl_raw hs hx hdt) (I.ok.hd hc) ho (by omega) fun h' tk acc hk it => ?_)
  have ea : acc.toList = ps.map fun x => Value.ref x.2.1 := by
    have hl : acc.toList.length = ps.length := by rw [Array.length_toList, it.1]; exact l1
    apply List.ext_getElem?
    intro j
    rw [List.getElem?_map]
    cases hj : acc.toList[j]? with
    | none =>
      have h1 := List.getElem?_eq_none_iff.mp hj
      rw [List.getElem?_eq_none (by omega)]
      all_goals rfl
    | some v =>
      obtain ⟨en, hen, hv⟩ := it.2 j v (by rw [← Array.getElem?_toList]; exact hj)
      have qe := entry_at he j
      rw [hen] at qe
      cases hb : ps[j]? with
      | none =>
        rw [hb] at qe
        exact nomatch (show some en = none from qe)
      | some b =>
        rw [hb] at qe
        have e2 : en = entryOfKey (tupleKind (mixKind X.prog X.w)) b := Option.some.inj qe
        rw [hv, e2]
        all_goals rfl
  have hal : acc.toList.length = ps.length := by rw [ea, List.length_map]
  have I1 : Inv X pins σ H { s with heap := h', toks := tk } := I.kept hk
  refine wpAny_bind (wpAny_newList ?_ (by rw [hal]; omega))
  have hoL : (h'.push (seqObj "list" acc.toList.toArray 0)).get? h'.objs.size = some (seqObj "list" acc.toList.toArray 0) := Heap.get?_push_size _ rfl
  show wpAny _ _ _ _ _ { s with heap := h'.push (seqObj "list" acc.toList.toArray 0), toks := tk }
  have pair : ∀ v ∈ acc.toList, Srt.IsPair (h'.push (seqObj "list" acc.toList.toArray 0)) v (keyOf H v).1 (keyOf H v).2 := fun v m => by
    rw [ea] at m
    obtain ⟨x, hm, rfl⟩ := List.mem_map.mp m
    obtain ⟨k, hk2⟩ := pk x hm
    obtain ⟨_, its2, r2, o2, ho2, hc2, n2, hd2⟩ := I1.hok _ _ hk2
    obtain ⟨u1, u2, rfl, ri, rj⟩ := vals2 r2
    obtain ⟨t1, rfl⟩ := ri
    obtain ⟨t2, rfl⟩ := rj
    have e : keyOf H (Value.ref x.2.1) = k := keyAt_of hk2
    rw [e]
    exact ⟨x.2.1, o2, t1, t2, n2, rfl, Heap.get?_push_of_some _ ho2, hc2, hd2⟩
  refine wpAny_bind (wpAny_holding (wpAny_call_entry PyProof.Rows.slot_list_sort ⟨_, hoL, rfl⟩ PyProof.Rows.entry_list_sort
    (SrtO.list_sort_ord (s := { s with heap := h'.push (seqObj "list" acc.toList.toArray 0), toks := tk }) (SrtO.swo_lex (keyOf H)) hoL (by rw [hal]; omega)
      (fun h2 => SrtO.pairs_sortableO (by omega) pair fun o1 e c => ?_) fun out h1 h2 => ⟨_, rfl, ?_⟩)
    (PyProof.Rows.args_list_sort _)))
  · have e' : some o1 = some (seqObj "list" acc.toList.toArray 0) := e.symm.trans hoL
    cases e'
    exact absurd (Value.type.inj c) (by decide)
  obtain ⟨e', he'⟩ := PyProof.Rows.sortedHeap_at (vs := acc.toList) (out := out.toArray) hoL
  have hm : ∀ u ∈ out, ∃ x ∈ ps, u = Value.ref x.2.1 := fun u hu => by
    have := h2.perm.mem_iff.mp hu
    rw [ea] at this
    obtain ⟨x, hx, e⟩ := List.mem_map.mp this
    exact ⟨x, hx, e.symm⟩
  obtain ⟨bs, rfl⟩ := refs_of (us := out) fun u hu => by
    obtain ⟨x, _, e⟩ := hm u hu
    exact ⟨_, e⟩
  have hb : ∀ b ∈ bs, ∃ k : Int × Int, PairAt H k b := fun b hb => by
    obtain ⟨x, hx, e⟩ := hm _ (List.mem_map.mpr ⟨b, hb, rfl⟩)
    cases e
    exact pk x hx
  have ev : (bs.map Value.ref).map (keyOf H) = bs.map (keyAt H) := by
    rw [List.map_map]
    rfl
  have hp : (bs.map (keyAt H)).Perm ks := by
    have := h2.perm.map (keyOf H)
    rw [ev, ea, List.map_map] at this
    rw [← ek]
    exact this
  have hsr : (bs.map (keyAt H)).Pairwise fun x y => SrtO.lexB y x = false := by
    rw [← ev]
    exact SrtO.srtd_map (f := keyOf H) (lt := SrtO.lexB) h1
  have hlen : (bs.map V.ref).length ≤ sizeLine := by
    have := h2.perm.length_eq
    rw [List.length_map] at this
    rw [List.length_map]
    omega
  refine wpAny_pure ⟨_, rfl, .ref h'.objs.size, upd H h'.objs.size (.lst (bs.map V.ref)), I1.laid (t' := tk) (fun b u e => ?_) (Nat.le_refl _)
    (show ObjOk X.prog X.w _ _ _ (.lst (bs.map V.ref)) from ⟨hlen, bs.map Value.ref, e', vals_refs bs, he'⟩), rfl, q _ bs _ hp hsr (paired_of hb) (I1.hok.fresh (Nat.le_refl _))⟩
  have hb : b < h'.objs.size := Heap.lt_size e
  rw [PyProof.Rows.sortedHeap_old (Nat.ne_of_lt hb) (by rw [size_push']; exact Nat.lt_succ_of_lt hb)]
  exact Heap.get?_push_of_some _ e
end
end SDT
namespace PM
/-- terms: the pair of exponents and the coefficient -/
abbrev Ex := Int × Int
abbrev Trm := Ex × Int
def ltE (p q : Ex) : Prop := p.1 < q.1 ∨ (p.1 = q.1 ∧ p.2 < q.2)
instance (p q : Ex) : Decidable (ltE p q) := by
  unfold ltE
  exact inferInstance
theorem ltE_trans {p q r : Ex} (h : ltE p q) (k : ltE q r) : ltE p r := by
  unfold ltE at *
  omega
theorem ltE_irr {p : Ex} : ¬ ltE p p := by
  unfold ltE
  omega
theorem ltE_ne {p q : Ex} (h : ltE p q) : p ≠ q := fun e => by
  subst e
  exact ltE_irr h
theorem ltE_or {p q : Ex} (h : ¬ ltE p q) (k : p ≠ q) : ltE q p := by
  unfold ltE at *
  have k : ¬ (p.1 = q.1 ∧ p.2 = q.2) := fun z => k (Prod.ext z.1 z.2)
  omega
/-- the value of a list of terms under a weighing of the exponents -/
def lin (f : Ex → Int) : List Trm → Int
  | [] => 0
  | t :: r => t.2 * f t.1 + lin f r
def Eqv (p q : List Trm) : Prop := ∀ f, lin f p = lin f q
theorem Eqv.refl (p : List Trm) : Eqv p p := fun _ => rfl
theorem Eqv.symm {p q : List Trm} (h : Eqv p q) : Eqv q p := fun f => (h f).symm
theorem Eqv.trans {p q r : List Trm} (h : Eqv p q) (k : Eqv q r) : Eqv p r := fun f => (h f).trans (k f)
theorem lin_append (f : Ex → Int) : ∀ p q : List Trm, lin f (p ++ q) = lin f p + lin f q
  | [], q => by simp [lin]
  | t :: r, q => by
    simp only [List.cons_append, lin, lin_append f r q]
    omega
theorem Eqv.append {p p' q q' : List Trm} (h : Eqv p p') (k : Eqv q q') : Eqv (p ++ q) (p' ++ q') := fun f => by
  rw [lin_append, lin_append, h f, k f]
theorem Eqv.perm {p q : List Trm} (h : p.Perm q) : Eqv p q := fun f => by
  induction h with
  | nil => rfl
  | cons x _ ih => simp only [lin, ih]
  | swap x y l =>
    simp only [lin]
    omega
  | trans _ _ a b => exact a.trans b
/-- strictly ascending, no coefficient 0 -/
def Canon (p : List Trm) : Prop := p.Pairwise (fun s t => ltE s.1 t.1) ∧ ∀ t ∈ p, t.2 ≠ 0
theorem lin_zero {f : Ex → Int} : ∀ {p : List Trm}, (∀ t ∈ p, f t.1 = 0) → lin f p = 0
  | [], _ => rfl
  | t :: r, h => by
    rw [lin, h t List.mem_cons_self, lin_zero (p := r) fun s hs => h s (List.mem_cons_of_mem _ hs)]
    simp
theorem canon_uniq : ∀ {p q : List Trm}, Canon p → Canon q → Eqv p q → p = q
  | [], [], _, _, _ => rfl
  | [], t :: r, _, hq, h => by
    exfalso
    have e := h fun x => if x = t.1 then 1 else 0
    have z : lin (fun x => if x = t.1 then (1 : Int) else 0) r = 0 := lin_zero fun s hs => if_neg (ltE_ne ((List.pairwise_cons.mp hq.1).1 s hs)).symm
    simp only [lin, z, if_pos] at e
    exact hq.2 t List.mem_cons_self (by omega)
  | t :: r, [], hp, _, h => by
    exfalso
    have e := h fun x => if x = t.1 then 1 else 0
    have z : lin (fun x => if x = t.1 then (1 : Int) else 0) r = 0 := lin_zero fun s hs => if_neg (ltE_ne ((List.pairwise_cons.mp hp.1).1 s hs)).symm
    simp only [lin, z, if_pos] at e
    exact hp.2 t List.mem_cons_self (by omega)
  | t :: r, u :: w, hp, hq, h => by
    have p1 := List.pairwise_cons.mp hp.1
    have q1 := List.pairwise_cons.mp hq.1
    have key : t.1 = u.1 := by
      by_cases e : t.1 = u.1
      · exact e
      · exfalso
        by_cases l : ltE t.1 u.1
        · have z1 : lin (fun x => if x = t.1 then (1 : Int) else 0) r = 0 := lin_zero fun s hs => if_neg (ltE_ne (p1.1 s hs)).symm
          have z2 : lin (fun x => if x = t.1 then (1 : Int) else 0) (u :: w) = 0 := lin_zero fun s hs => by
            refine if_neg (Ne.symm ?_)
            rcases List.mem_cons.mp hs with rfl | hs
            · exact e
            · exact ltE_ne (ltE_trans l (q1.1 s hs))
          have e2 := h fun x => if x = t.1 then 1 else 0
          rw [z2] at e2
          simp only [lin, z1, if_pos] at e2
          exact hp.2 t List.mem_cons_self (by omega)
        · have l := ltE_or l e
          have z1 : lin (fun x => if x = u.1 then (1 : Int) else 0) w = 0 := lin_zero fun s hs => if_neg (ltE_ne (q1.1 s hs)).symm
          have z2 : lin (fun x => if x = u.1 then (1 : Int) else 0) (t :: r) = 0 := lin_zero fun s hs => by
            refine if_neg (Ne.symm ?_)
            rcases List.mem_cons.mp hs with rfl | hs
            · exact Ne.symm e
            · exact ltE_ne (ltE_trans l (p1.1 s hs))
          have e2 := h fun x => if x = u.1 then 1 else 0
          rw [z2] at e2
          simp only [lin, z1, if_pos] at e2
          exact hq.2 u List.mem_cons_self (by omega)
    have z1 : lin (fun x => if x = t.1 then (1 : Int) else 0) r = 0 := lin_zero fun s hs => if_neg (ltE_ne (p1.1 s hs)).symm
    have z2 : lin (fun x => if x = t.1 then (1 : Int) else 0) w = 0 := lin_zero fun s hs => if_neg (by rw [key]; exact (ltE_ne (q1.1 s hs)).symm)
    have e2 := h fun x => if x = t.1 then 1 else 0
    simp only [lin, z1, z2] at e2
    simp only [if_true, if_pos key.symm] at e2
    have ec : t.2 = u.2 := by omega
    have et : t = u := Prod.ext key ec
    have er : Eqv r w := fun f => by
      have e3 := h f
      simp only [lin, et] at e3
      omega
    rw [et, canon_uniq ⟨p1.2, fun s hs => hp.2 s (List.mem_cons_of_mem _ hs)⟩ ⟨q1.2, fun s hs => hq.2 s (List.mem_cons_of_mem _ hs)⟩ er]
/-- a term put into a list in order -/
def ins (t : Trm) : List Trm → List Trm
  | [] => if t.2 = 0 then [] else [t]
  | u :: r => if ltE t.1 u.1 then (if t.2 = 0 then u :: r else t :: u :: r) else if t.1 = u.1 then (if t.2 + u.2 = 0 then r else (t.1, t.2 + u.2) :: r) else u :: ins t r
def canon (ts : List Trm) : List Trm := ts.foldr ins []
theorem lin_ins (f : Ex → Int) (t : Trm) : ∀ p : List Trm, lin f (ins t p) = t.2 * f t.1 + lin f p
  | [] => by
    unfold ins
    split
    · rename_i h
      rw [h]
      simp [lin]
    · simp [lin]
  | u :: r => by
    unfold ins
    split
    · split
      · rename_i h
        rw [h]
        simp
      · simp [lin]
    · split
      · rename_i e
        split
        · rename_i h
          simp only [lin]
          rw [← e]
          have : t.2 * f t.1 + u.2 * f t.1 = 0 := by
            rw [← Int.add_mul, h, Int.zero_mul]
          omega
        · simp only [lin]
          rw [← e, Int.add_mul]
          omega
      · simp only [lin, lin_ins f t r]
        omega
theorem eqv_canon (ts : List Trm) : Eqv (canon ts) ts := fun f => by
  induction ts with
  | nil => rfl
  | cons t r ih =>
    show lin f (ins t (canon r)) = _
    rw [lin_ins, ih]
    rfl
theorem mem_ins {t s : Trm} : ∀ {p : List Trm}, s ∈ ins t p → s.1 = t.1 ∨ s ∈ p
  | [], h => by
    unfold ins at h
    split at h
    · cases h
    · rw [List.mem_singleton] at h
      exact .inl (by rw [h])
  | u :: r, h => by
    unfold ins at h
    split at h
    · split at h
      · exact .inr h
      · rcases List.mem_cons.mp h with h | h
        · exact .inl (by rw [h])
        · exact .inr h
    · split at h
      · split at h
        · exact .inr (List.mem_cons_of_mem _ h)
        · rcases List.mem_cons.mp h with h | h
          · exact .inl (by rw [h])
          · exact .inr (List.mem_cons_of_mem _ h)
      · rcases List.mem_cons.mp h with h | h
        · exact .inr (h ▸ List.mem_cons_self)
        · rcases mem_ins h with h | h
          · exact .inl h
          · exact .inr (List.mem_cons_of_mem _ h)
theorem canon_ins {t : Trm} : ∀ {p : List Trm}, Canon p → Canon (ins t p)
  | [], _ => by
    unfold ins
    split
    · exact ⟨List.Pairwise.nil, fun s hs => by cases hs⟩
    · rename_i h
      exact ⟨List.pairwise_singleton _ _, fun s hs => by
        rw [List.mem_singleton] at hs
        rw [hs]
        exact h⟩
  | u :: r, hp => by
    have p1 := List.pairwise_cons.mp hp.1
    have tl : Canon r := ⟨p1.2, fun s hs => hp.2 s (List.mem_cons_of_mem _ hs)⟩
    unfold ins
    split
    · rename_i l
      split
      · exact hp
      · rename_i h
        refine ⟨List.pairwise_cons.mpr ⟨fun s hs => ?_, hp.1⟩, fun s hs => ?_⟩
        · rcases List.mem_cons.mp hs with rfl | hs
          · exact l
          · exact ltE_trans l (p1.1 s hs)
        · rcases List.mem_cons.mp hs with rfl | hs
          · exact h
          · exact hp.2 s hs
    · rename_i l
      split
      · rename_i e
        split
        · exact tl
        · rename_i h
          refine ⟨List.pairwise_cons.mpr ⟨fun s hs => ?_, p1.2⟩, fun s hs => ?_⟩
          · show ltE t.1 s.1
            rw [e]
            exact p1.1 s hs
          · rcases List.mem_cons.mp hs with rfl | hs
            · exact h
            · exact hp.2 s (List.mem_cons_of_mem _ hs)
      · rename_i e
        have ih := canon_ins (t := t) tl
        refine ⟨List.pairwise_cons.mpr ⟨fun s hs => ?_, ih.1⟩, fun s hs => ?_⟩
        · rcases mem_ins hs with h | h
          · rw [h]
            exact ltE_or l e
          · exact p1.1 s h
        · rcases List.mem_cons.mp hs with rfl | hs
          · exact hp.2 s List.mem_cons_self
          · exact ih.2 s hs
theorem canon_canon (ts : List Trm) : Canon (canon ts) := by
  induction ts with
  | nil => exact ⟨List.Pairwise.nil, fun s hs => by cases hs⟩
  | cons t r ih => exact canon_ins ih
theorem canon_of {p ts : List Trm} (h : Canon p) (e : Eqv p ts) : p = canon ts := canon_uniq h (canon_canon ts) (e.trans (eqv_canon ts).symm)
theorem canon_congr {p q : List Trm} (h : Eqv p q) : canon p = canon q := canon_uniq (canon_canon p) (canon_canon q) ((eqv_canon p).trans (h.trans (eqv_canon q).symm))
theorem canon_self {p : List Trm} (h : Canon p) : canon p = p := (canon_of h (Eqv.refl p)).symm
/-! products -/
def addE (p q : Ex) : Ex := (p.1 + q.1, p.2 + q.2)
def mulT (p q : List Trm) : List Trm := p.flatMap fun x => q.map fun y => (addE x.1 y.1, x.2 * y.2)
theorem lin_scale (f : Ex → Int) (x : Trm) : ∀ q : List Trm, lin f (q.map fun y => (addE x.1 y.1, x.2 * y.2)) = x.2 * lin (fun y => f (addE x.1 y)) q
  | [] => by simp [lin]
  | y :: r => by
    simp only [List.map_cons, lin, lin_scale f x r]
    rw [Int.mul_add, Int.mul_assoc]
theorem lin_mul (f : Ex → Int) (q : List Trm) : ∀ p : List Trm, lin f (mulT p q) = lin (fun x => lin (fun y => f (addE x y)) q) p
  | [] => rfl
  | x :: r => by
    show lin f ((q.map fun y => (addE x.1 y.1, x.2 * y.2)) ++ mulT r q) = _
    rw [lin_append, lin_scale, lin_mul f q r]
    rfl
theorem lin_congr {f g : Ex → Int} (h : ∀ x, f x = g x) (p : List Trm) : lin f p = lin g p := by
  rw [show f = g from funext h]
theorem lin_add (f g : Ex → Int) : ∀ p : List Trm, lin (fun x => f x + g x) p = lin f p + lin g p
  | [] => by simp [lin]
  | t :: r => by
    simp only [lin, lin_add f g r]
    rw [Int.mul_add]
    omega
theorem lin_smul (c : Int) (f : Ex → Int) : ∀ p : List Trm, lin (fun x => c * f x) p = c * lin f p
  | [] => by simp [lin]
  | t :: r => by
    simp only [lin, lin_smul c f r]
    rw [Int.mul_add, Int.mul_left_comm]
theorem lin_const0 : ∀ p : List Trm, lin (fun _ => 0) p = 0
  | [] => rfl
  | t :: r => by simp [lin, lin_const0 r]
theorem lin_swap (g : Ex → Ex → Int) (q : List Trm) : ∀ p : List Trm, lin (fun x => lin (fun y => g x y) q) p = lin (fun y => lin (fun x => g x y) p) q
  | [] => by simp only [lin, lin_const0]
  | t :: r => by
    simp only [lin]
    rw [lin_swap g q r, lin_add, lin_smul]
theorem Eqv.mul {p p' q q' : List Trm} (h : Eqv p p') (k : Eqv q q') : Eqv (mulT p q) (mulT p' q') := fun f => by
  rw [lin_mul, lin_mul, h, lin_congr fun x => k _]
theorem mul_comm (p q : List Trm) : Eqv (mulT p q) (mulT q p) := fun f => by
  rw [lin_mul, lin_mul, lin_swap]
  refine lin_congr (fun y => lin_congr (fun x => ?_) _) _
  unfold addE
  rw [Int.add_comm, Int.add_comm x.2]
theorem mul_assoc (p q r : List Trm) : Eqv (mulT (mulT p q) r) (mulT p (mulT q r)) := fun f => by
  rw [lin_mul, lin_mul, lin_mul]
  refine lin_congr (fun x => ?_) _
  rw [lin_mul]
  refine lin_congr (fun y => lin_congr (fun z => ?_) _) _
  unfold addE
  simp only [Int.add_assoc]
def one : List Trm := [((0, 0), 1)]
theorem one_mul (p : List Trm) : Eqv (mulT one p) p := fun f => by
  rw [lin_mul]
  show (1 : Int) * lin _ p + 0 = _
  rw [Int.one_mul, Int.add_zero]
  refine lin_congr (fun y => ?_) _
  unfold addE
  simp
/-- powers -/
def pw (p : List Trm) : Nat → List Trm
  | 0 => one
  | n + 1 => mulT (pw p n) p
theorem pw_add (p : List Trm) (i : Nat) : ∀ j, Eqv (mulT (pw p i) (pw p j)) (pw p (i + j))
  | 0 => (mul_comm _ _).trans (one_mul _)
  | j + 1 => (mul_assoc _ _ _).symm.trans (Eqv.mul (pw_add p i j) (Eqv.refl p))
theorem pw_congr {p q : List Trm} (h : Eqv p q) : ∀ n, Eqv (pw p n) (pw q n)
  | 0 => Eqv.refl _
  | n + 1 => Eqv.mul (pw_congr h n) h
/-! the size of coefficients -/
def norm : List Trm → Nat
  | [] => 0
  | t :: r => t.2.natAbs + norm r
theorem norm_append : ∀ p q : List Trm, norm (p ++ q) = norm p + norm q
  | [], q => by simp [norm]
  | t :: r, q => by
    simp only [List.cons_append, norm, norm_append r q]
    omega
theorem norm_ins (t : Trm) : ∀ p : List Trm, norm (ins t p) ≤ t.2.natAbs + norm p
  | [] => by
    unfold ins
    split <;> simp [norm]
  | u :: r => by
    unfold ins
    split
    · split <;> simp [norm]
    · split
      · split
        · simp only [norm]
          omega
        · simp only [norm]
          omega
      · have := norm_ins t r
        simp only [norm]
        omega
theorem norm_canon : ∀ ts : List Trm, norm (canon ts) ≤ norm ts
  | [] => Nat.le_refl _
  | t :: r => by
    show norm (ins t (canon r)) ≤ _
    have h1 := norm_ins t (canon r)
    have h2 := norm_canon r
    simp only [norm]
    omega
theorem norm_scale (x : Trm) : ∀ q : List Trm, norm (q.map fun y => (addE x.1 y.1, x.2 * y.2)) = x.2.natAbs * norm q
  | [] => by simp [norm]
  | y :: r => by
    simp only [List.map_cons, norm, norm_scale x r]
    rw [Nat.mul_add, Int.natAbs_mul]
theorem norm_mul (q : List Trm) : ∀ p : List Trm, norm (mulT p q) = norm p * norm q
  | [] => by simp [norm, mulT]
  | x :: r => by
    show norm ((q.map fun y => (addE x.1 y.1, x.2 * y.2)) ++ mulT r q) = _
    rw [norm_append, norm_scale, norm_mul q r]
    simp only [norm]
    rw [Nat.add_mul]
theorem norm_mem {t : Trm} : ∀ {p : List Trm}, t ∈ p → t.2.natAbs ≤ norm p
  | u :: r, h => by
    rcases List.mem_cons.mp h with rfl | h
    · simp only [norm]
      omega
    · have := norm_mem h
      simp only [norm]
      omega
theorem length_canon_le : ∀ ts : List Trm, (canon ts).length ≤ ts.length
  | [] => Nat.le_refl _
  | t :: r => by
    have h : ∀ p : List Trm, (ins t p).length ≤ p.length + 1 := by
      intro p
      induction p with
      | nil =>
        unfold ins
        split <;> simp
      | cons u w ih =>
        unfold ins
        split
        · split <;> simp
        · split
          · split <;> simp <;> omega
          · simp only [List.length_cons]
            omega
    have h2 := length_canon_le r
    have h3 := h (canon r)
    show (ins t (canon r)).length ≤ _
    simp only [List.length_cons]
    omega
theorem length_mul (p q : List Trm) : (mulT p q).length = p.length * q.length := by
  induction p with
  | nil => simp [mulT]
  | cons x r ih =>
    show ((q.map fun y => (addE x.1 y.1, x.2 * y.2)) ++ mulT r q).length = _
    rw [List.length_append, List.length_map, ih, List.length_cons, Nat.add_mul]
    omega
/-! a dict that gathers: pairs in the order in which they came, no key twice -/
def look (d : List Trm) (k : Ex) : Int := match d.find? (fun p => decide (p.1 = k)) with
  | some p => p.2
  | none => 0
def put (d : List Trm) (k : Ex) (v : Int) : List Trm := if d.any (fun p => decide (p.1 = k)) then d.map (fun p => if p.1 = k then (p.1, v) else p) else d ++ [(k, v)]
def addTo (d : List Trm) (t : Trm) : List Trm := put d t.1 (look d t.1 + t.2)
def gather (ts : List Trm) : List Trm := ts.foldl addTo []
def keys (d : List Trm) : List Ex := d.map (·.1)
theorem keys_put (d : List Trm) (k : Ex) (v : Int) : keys (put d k v) = if k ∈ keys d then keys d else keys d ++ [k] := by
  have h : (d.any fun p => decide (p.1 = k)) = true ↔ k ∈ keys d := by
    rw [List.any_eq_true]
    unfold keys
    constructor
    · rintro ⟨p, hp, e⟩
      exact List.mem_map.mpr ⟨p, hp, of_decide_eq_true e⟩
    · intro h
      obtain ⟨p, hp, e⟩ := List.mem_map.mp h
      exact ⟨p, hp, decide_eq_true e⟩
  unfold put
  by_cases hk : k ∈ keys d
  · rw [if_pos (h.mpr hk), if_pos hk]
    unfold keys
    rw [List.map_map]
    refine List.map_congr_left fun p _ => ?_
    show (if p.1 = k then (p.1, v) else p).1 = p.1
    split <;> rfl
  · rw [if_neg (fun z => hk (h.mp z)), if_neg hk]
    unfold keys
    rw [List.map_append]
    rfl
theorem nodup_put {d : List Trm} (h : (keys d).Nodup) (k : Ex) (v : Int) : (keys (put d k v)).Nodup := by
  rw [keys_put]
  split
  · exact h
  · rename_i hk
    rw [List.nodup_append]
    refine ⟨h, List.pairwise_singleton _ _, fun a ha b hb => ?_⟩
    rw [List.mem_singleton] at hb
    rw [hb]
    exact fun e => hk (e ▸ ha)
theorem look_none {d : List Trm} {k : Ex} (h : k ∉ keys d) : look d k = 0 := by
  unfold look
  rw [List.find?_eq_none.mpr]
  intro p hp e
  exact h (List.mem_map.mpr ⟨p, hp, of_decide_eq_true e⟩)
theorem look_cons (p : Trm) (d : List Trm) (k : Ex) : look (p :: d) k = if p.1 = k then p.2 else look d k := by
  unfold look
  rw [List.find?_cons]
  by_cases h : p.1 = k
  · simp [h]
  · simp [h]
theorem lin_map_put (f : Ex → Int) (k : Ex) (v : Int) : ∀ {d : List Trm}, (keys d).Nodup → k ∈ keys d → lin f (d.map fun p => if p.1 = k then (p.1, v) else p) = lin f d + (v - look d k) * f k
  | [], _, h => by simp [keys] at h
  | p :: r, hn, hk => by
    have n1 : p.1 ∉ keys r ∧ (keys r).Nodup := List.nodup_cons.mp hn
    rw [look_cons]
    simp only [List.map_cons, lin]
    by_cases e : p.1 = k
    · rw [if_pos e, if_pos e]
      have z : r.map (fun p => if p.1 = k then (p.1, v) else p) = r := by
        refine (List.map_congr_left fun q hq => if_neg fun z => n1.1 (List.mem_map.mpr ⟨q, hq, by rw [z, e]⟩)).trans (List.map_id' r)
      rw [z, ← e, Int.sub_mul]
      show v * f p.1 + lin f r = _
      omega
    · have hk2 : k ∈ keys r := by
        rcases List.mem_cons.mp (show k ∈ p.1 :: keys r from hk) with z | z
        · exact absurd z.symm e
        · exact z
      rw [if_neg e, if_neg e, lin_map_put f k v n1.2 hk2]
      omega
theorem lin_put (f : Ex → Int) {d : List Trm} (hn : (keys d).Nodup) (k : Ex) (v : Int) : lin f (put d k v) = lin f d + (v - look d k) * f k := by
  have h : (d.any fun p => decide (p.1 = k)) = true ↔ k ∈ keys d := by
    rw [List.any_eq_true]
    unfold keys
    constructor
    · rintro ⟨p, hp, e⟩
      exact List.mem_map.mpr ⟨p, hp, of_decide_eq_true e⟩
    · intro h
      obtain ⟨p, hp, e⟩ := List.mem_map.mp h
      exact ⟨p, hp, decide_eq_true e⟩
  unfold put
  by_cases hk : k ∈ keys d
  · rw [if_pos (h.mpr hk), lin_map_put f k v hn hk]
  · rw [if_neg (fun z => hk (h.mp z)), lin_append, look_none hk]
    simp [lin]
theorem gather_go (f : Ex → Int) : ∀ (ts d : List Trm), (keys d).Nodup → (keys (ts.foldl addTo d)).Nodup ∧ lin f (ts.foldl addTo d) = lin f d + lin f ts
  | [], d, h => ⟨h, by simp [lin]⟩
  | t :: r, d, h => by
    have n := nodup_put h t.1 (look d t.1 + t.2)
    obtain ⟨h1, h2⟩ := gather_go f r (addTo d t) n
    refine ⟨h1, ?_⟩
    show lin f (r.foldl addTo (addTo d t)) = _
    rw [h2]
    unfold addTo
    rw [lin_put f h]
    simp only [lin]
    rw [show look d t.1 + t.2 - look d t.1 = t.2 by omega]
    omega
theorem gather_nodup (ts : List Trm) : (keys (gather ts)).Nodup := (gather_go (fun _ => 0) ts [] List.nodup_nil).1
theorem gather_eqv (ts : List Trm) : Eqv (gather ts) ts := fun f => by
  have h := (gather_go f ts [] List.nodup_nil).2
  simp only [lin] at h
  unfold gather
  omega
theorem length_put (d : List Trm) (k : Ex) (v : Int) : (put d k v).length ≤ d.length + 1 := by
  unfold put
  split
  · rw [List.length_map]
    omega
  · rw [List.length_append]
    exact Nat.le_refl _
theorem length_gather_go : ∀ (ts d : List Trm), (ts.foldl addTo d).length ≤ d.length + ts.length
  | [], d => Nat.le_refl _
  | t :: r, d => by
    have h1 := length_gather_go r (addTo d t)
    have h2 : (addTo d t).length ≤ d.length + 1 := length_put _ _ _
    show (r.foldl addTo (addTo d t)).length ≤ _
    simp only [List.length_cons]
    omega
theorem look_of_mem : ∀ {d : List Trm} {p : Trm}, (keys d).Nodup → p ∈ d → look d p.1 = p.2
  | q :: r, p, hn, hp => by
    have n1 : q.1 ∉ keys r ∧ (keys r).Nodup := List.nodup_cons.mp hn
    rw [look_cons]
    rcases List.mem_cons.mp hp with rfl | hp
    · rw [if_pos rfl]
    · rw [if_neg (fun e => n1.1 (List.mem_map.mpr ⟨p, hp, e.symm⟩)), look_of_mem n1.2 hp]
/-- what is read off by keys in order -/
def read (d : List Trm) (ks : List Ex) : List Trm := (ks.filter fun k => decide (look d k ≠ 0)).map fun k => (k, look d k)
theorem lin_read (f : Ex → Int) (d : List Trm) : ∀ ks : List Ex, lin f (read d ks) = lin f (ks.map fun k => (k, look d k))
  | [] => rfl
  | k :: r => by
    have ih := lin_read f d r
    unfold read at *
    rw [List.filter_cons]
    by_cases h : look d k = 0
    · simp only [h, ne_eq, not_true_eq_false, decide_false, Bool.false_eq_true, if_false, List.map_cons, lin]
      rw [ih]
      simp
    · rw [if_pos (decide_eq_true h)]
      simp only [List.map_cons, lin, ih]
theorem map_look {d : List Trm} (hn : (keys d).Nodup) : (keys d).map (fun k => (k, look d k)) = d := by
  unfold keys
  rw [List.map_map]
  refine (List.map_congr_left fun p hp => ?_).trans (List.map_id' d)
  show (p.1, look d p.1) = p
  rw [look_of_mem hn hp]
theorem read_canon {ts d : List Trm} {ks : List Ex} (hn : (keys d).Nodup) (he : Eqv d ts) (hp : ks.Perm (keys d)) (hs : ks.Pairwise fun a b => ¬ ltE b a) : read d ks = canon ts := by
  refine canon_of ⟨?_, fun t ht => ?_⟩ fun f => ?_
  · have h2 : ks.Pairwise ltE := by
      exact (List.Pairwise.and hs (hp.nodup_iff.mpr hn)).imp fun h => ltE_or h.1 (Ne.symm h.2)
    unfold read
    rw [List.pairwise_map]
    exact h2.sublist List.filter_sublist
  · obtain ⟨k, hk, rfl⟩ := List.mem_map.mp ht
    exact of_decide_eq_true (List.mem_filter.mp hk).2
  · rw [lin_read]
    have h3 : (ks.map fun k => (k, look d k)).Perm d := by
      have := hp.map fun k => (k, look d k)
      rw [map_look hn] at this
      exact this
    rw [Eqv.perm h3 f]
    exact he f
end PM
/-! ### heaps that grow: what is no table stays, tables stay tables -/
namespace EXT
open PySem PySem.Spec PyProof.Rows L2 SDT PM
structure Ext (H H' : Hp) : Prop where
  keep : ∀ b x, H b = some x → (∀ ps, x ≠ .tbl ps) → H' b = some x
  tabs : ∀ b ps, H b = some (.tbl ps) → ∃ qs, H' b = some (.tbl qs) ∧ (TriplesOk ps.toList → TriplesOk qs.toList)
theorem Ext.tab {H H' : Hp} (s : Ext H H') {b : Addr} (h : GxR.TabG H b) : GxR.TabG H' b := by
  obtain ⟨ps, h1, h2⟩ := h
  obtain ⟨qs, g1, g2⟩ := s.tabs b ps h1
  exact ⟨qs, g1, g2 h2⟩
theorem Ext.refl (H : Hp) : Ext H H := ⟨fun _ _ e _ => e, fun _ ps h => ⟨ps, h, id⟩⟩
theorem Ext.trans {H H1 H2 : Hp} (a : Ext H H1) (b : Ext H1 H2) : Ext H H2 := ⟨fun c x e n => b.keep c x (a.keep c x e n) n, fun c ps h => by
  obtain ⟨qs, g1, g2⟩ := a.tabs c ps h
  obtain ⟨rs, k1, k2⟩ := b.tabs c qs g1
  exact ⟨rs, k1, fun z => k2 (g2 z)⟩⟩
theorem Ext.own {H H1 : Hp} {d : Addr} {o : HO} (s : Ext H H1) (hd : H d = none) : Ext H (upd H1 d o) := by
  refine ⟨fun b x e n => ?_, fun b ps h => ?_⟩
  · rw [upd_ne (ne_of_none e hd)]
    exact s.keep b x e n
  · obtain ⟨qs, g1, g2⟩ := s.tabs b ps h
    exact ⟨qs, by rw [upd_ne (ne_of_none h hd)]; exact g1, g2⟩
theorem ext_upd {H : Hp} {p : Addr} {o : HO} (h : H p = none) : Ext H (upd H p o) := (Ext.refl H).own h
theorem Ext.new {H H1 : Hp} {p : Addr} {o : HO} (s : Ext H H1) (h : H1 p = none) : Ext H (upd H1 p o) := s.trans (ext_upd h)
theorem ext_tabbed {H H' : Hp} {P : Addr} (t : GxR.TabG H P) (h : GxR.Tabbed P H H') : Ext H H' := by
  obtain ⟨ps, e0, _⟩ := t
  refine ⟨fun b x e n => ?_, fun b qs g => ?_⟩
  · rw [h.2 b (fun z => ?_)]
    · exact e
    · rw [z, e0] at e
      exact n ps (Option.some.inj e).symm
  · by_cases z : b = P
    · obtain ⟨rs, g1, g2⟩ := h.1
      rw [z]
      exact ⟨rs, g1, fun _ => g2⟩
    · exact ⟨qs, by rw [h.2 b z]; exact g, id⟩
theorem Ext.tabbed {H H1 H2 : Hp} {P : Addr} (s : Ext H H1) (t : GxR.TabG H1 P) (h : GxR.Tabbed P H1 H2) : Ext H H2 := s.trans (ext_tabbed t h)
theorem Ext.free {H H' : Hp} {p : Addr} (s : Ext H H') (h : H' p = none) : H p = none := by
  cases e : H p with
  | none => rfl
  | some x =>
    cases x with
    | tbl ps =>
      obtain ⟨qs, g, _⟩ := s.tabs p ps e
      rw [h] at g
      cases g
    | _ =>
      have := s.keep p _ e (fun ps z => by cases z)
      rw [h] at this
      cases this
theorem _root_.L2.Same.ext {H H' : Hp} (s : Same H H') : Ext H H' := ⟨fun b x e _ => s b x e, fun b ps e => ⟨ps, s _ _ e, id⟩⟩
section
variable {K : PySem.W.Frag} {H H' : Hp} (s : Ext H H')
include s
theorem Ext.rdL {a : Addr} {xs : List V} (h : Rd H a (.lst xs)) : Rd H' a (.lst xs) := by
  rcases h with h | ⟨o, h⟩
  · exact .inl (s.keep _ _ h (fun _ z => by cases z))
  · exact .inr ⟨o, s.keep _ _ h (fun _ z => by cases z)⟩
theorem Ext.rdT {a : Addr} {xs : List V} (h : Rd H a (.tup xs)) : Rd H' a (.tup xs) := by
  rcases h with h | ⟨o, h⟩
  · exact .inl (s.keep _ _ h (fun _ z => by cases z))
  · exact .inr ⟨o, s.keep _ _ h (fun _ z => by cases z)⟩
theorem Ext.seq {a : Addr} {xs : List V} (h : SqL K H a xs) : SqL K H' a xs := h.imp s.rdL id
theorem Ext.tup {a : Addr} {xs : List V} (h : SqT K H a xs) : SqT K H' a xs := h.imp s.rdT id
theorem Ext.at {a : Addr} {xs : List V} (h : H a = some (.tup xs)) : H' a = some (.tup xs) := s.keep _ _ h (fun _ z => by cases z)
theorem Ext.dt {a : Addr} {xs : List (List Key × V)} (h : H a = some (.dT xs)) : H' a = some (.dT xs) := s.keep _ _ h (fun _ z => by cases z)
theorem Ext.lst {a : Addr} {xs : List V} (h : H a = some (.lst xs)) : H' a = some (.lst xs) := s.keep _ _ h (fun _ z => by cases z)
end
mutual
theorem dp_ext {K : PySem.W.Frag} {H H' : Hp} (s : Ext H H') : ∀ {v : V} {d : PyData}, Dp K H v d → Dp K H' v d
  | _, _, .non => .non
  | _, _, .bl b => .bl b
  | _, _, .int i => .int i
  | _, _, .str x => .str x
  | _, _, .lst h t => .lst (s.seq h) (dpAll_ext s t)
  | _, _, .tup h t => .tup (s.tup h) (dpAll_ext s t)
theorem dpAll_ext {K : PySem.W.Frag} {H H' : Hp} (s : Ext H H') : ∀ {vs : List V} {ds : List PyData}, DpAll K H vs ds → DpAll K H' vs ds
  | _, _, .nil => .nil
  | _, _, .cons h t => .cons (dp_ext s h) (dpAll_ext s t)
end
theorem Ext.pairs {H H' : Hp} (s : Ext H H') : ∀ {ks : List (Int × Int)} {bs : List Addr}, Paired (PairAt H) ks bs → Paired (PairAt H') ks bs
  | _, _, .nil => .nil
  | _, _, .cons h t => .cons (s.at h) (s.pairs t)
/-! ### terms and polynomials in the heap -/
/-- v is the term t -/
def TermAt (K : PySem.W.Frag) (H : Hp) (v : V) (t : Trm) : Prop := ∃ a b, v = .ref a ∧ SqT K H a [.ref b, .int t.2] ∧ SqT K H b [.int t.1.1, .int t.1.2]
/-- the same, the key known to be one -/
def TermT (H : Hp) (v : V) (t : Trm) : Prop := ∃ a b, v = .ref a ∧ H a = some (.tup [.ref b, .int t.2]) ∧ PairAt H t.1 b
theorem TermT.at {K : PySem.W.Frag} {H : Hp} {v : V} {t : Trm} (h : TermT H v t) : TermAt K H v t := by
  obtain ⟨a, b, e, h1, h2⟩ := h
  exact ⟨a, b, e, .inl (.inl h1), .inl (.inl h2)⟩
theorem Ext.termT {H H' : Hp} (s : Ext H H') {v : V} {t : Trm} (h : TermT H v t) : TermT H' v t := by
  obtain ⟨a, b, e, h1, h2⟩ := h
  exact ⟨a, b, e, s.at h1, s.at h2⟩
theorem Ext.term {K : PySem.W.Frag} {H H' : Hp} (s : Ext H H') {v : V} {t : Trm} (h : TermAt K H v t) : TermAt K H' v t := by
  obtain ⟨a, b, e, h1, h2⟩ := h
  exact ⟨a, b, e, s.tup h1, s.tup h2⟩
theorem paired_imp {α β : Type} {R R' : α → β → Prop} (h : ∀ a b, R a b → R' a b) : ∀ {as : List α} {bs : List β}, Paired R as bs → Paired R' as bs
  | _, _, .nil => .nil
  | _, _, .cons x t => .cons (h _ _ x) (paired_imp h t)
/-- the item of a pairing at a place -/
theorem paired_at {α β : Type} {R : α → β → Prop} : ∀ {as : List α} {bs : List β} {i : Nat} {a : α}, Paired R as bs → as[i]? = some a → ∃ b, bs[i]? = some b ∧ R a b
  | _, _, _, _, .nil, h => by simp at h
  | _, _, 0, _, .cons x t, h => by
    simp only [List.getElem?_cons_zero, Option.some.injEq] at h
    subst h
    exact ⟨_, rfl, x⟩
  | _, _, i + 1, _, .cons x t, h => by
    simp only [List.getElem?_cons_succ] at h
    obtain ⟨b, h1, h2⟩ := paired_at t h
    exact ⟨b, by simpa using h1, h2⟩
theorem paired_app {α β : Type} {R : α → β → Prop} : ∀ {as : List α} {bs : List β} {as' : List α} {bs' : List β}, Paired R as bs → Paired R as' bs' → Paired R (as ++ as') (bs ++ bs')
  | _, _, _, _, .nil, k => k
  | _, _, _, _, .cons x t, k => .cons x (paired_app t k)
theorem paired_snoc {α β : Type} {R : α → β → Prop} {as : List α} {bs : List β} {a : α} {b : β} (h : Paired R as bs) (x : R a b) : Paired R (as ++ [a]) (bs ++ [b]) := paired_app h (.cons x .nil)
/-- vs are the terms ts -/
abbrev Terms (K : PySem.W.Frag) (H : Hp) (vs : List V) (ts : List Trm) : Prop := Paired (TermAt K H) vs ts
abbrev TermsT (H : Hp) (vs : List V) (ts : List Trm) : Prop := Paired (TermT H) vs ts
theorem Ext.terms {K : PySem.W.Frag} {H H' : Hp} (s : Ext H H') {vs : List V} {ts : List Trm} (h : Terms K H vs ts) : Terms K H' vs ts := paired_imp (fun _ _ => s.term) h
theorem Ext.termsT {H H' : Hp} (s : Ext H H') {vs : List V} {ts : List Trm} (h : TermsT H vs ts) : TermsT H' vs ts := paired_imp (fun _ _ => s.termT) h
theorem terms_of {K : PySem.W.Frag} {H : Hp} {vs : List V} {ts : List Trm} (h : TermsT H vs ts) : Terms K H vs ts := paired_imp (fun _ _ h => h.at) h
/-- a tuple of terms at p -/
def PolyAt (K : PySem.W.Frag) (H : Hp) (p : Addr) (ts : List Trm) : Prop := ∃ vs, SqT K H p vs ∧ Terms K H vs ts
def PolyT (H : Hp) (p : Addr) (ts : List Trm) : Prop := ∃ vs, H p = some (.tup vs) ∧ TermsT H vs ts
theorem PolyT.at {K : PySem.W.Frag} {H : Hp} {p : Addr} {ts : List Trm} (h : PolyT H p ts) : PolyAt K H p ts := by
  obtain ⟨vs, h1, h2⟩ := h
  exact ⟨vs, .inl (.inl h1), terms_of h2⟩
theorem Ext.poly {K : PySem.W.Frag} {H H' : Hp} (s : Ext H H') {p : Addr} {ts : List Trm} (h : PolyAt K H p ts) : PolyAt K H' p ts := by
  obtain ⟨vs, h1, h2⟩ := h
  exact ⟨vs, s.tup h1, s.terms h2⟩
theorem Ext.polyT {H H' : Hp} (s : Ext H H') {p : Addr} {ts : List Trm} (h : PolyT H p ts) : PolyT H' p ts := by
  obtain ⟨vs, h1, h2⟩ := h
  exact ⟨vs, s.at h1, s.termsT h2⟩
/-- a term, a polynomial as data -/
def termD (t : Trm) : PyData := .tuple [.tuple [.int t.1.1, .int t.1.2], .int t.2]
def polyD (ts : List Trm) : PyData := .tuple (ts.map termD)
theorem TermAt.dp {K : PySem.W.Frag} {H : Hp} {v : V} {t : Trm} (h : TermAt K H v t) : Dp K H v (termD t) := by
  obtain ⟨a, b, rfl, h1, h2⟩ := h
  exact .tup h1 (.cons (.tup h2 (.cons (.int _) (.cons (.int _) .nil))) (.cons (.int _) .nil))
theorem terms_dp {K : PySem.W.Frag} {H : Hp} : ∀ {vs : List V} {ts : List Trm}, Terms K H vs ts → DpAll K H vs (ts.map termD)
  | _, _, .nil => .nil
  | _, _, .cons h t => .cons h.dp (terms_dp t)
theorem PolyAt.dp {K : PySem.W.Frag} {H : Hp} {p : Addr} {ts : List Trm} (h : PolyAt K H p ts) : Dp K H (.ref p) (polyD ts) := by
  obtain ⟨vs, h1, h2⟩ := h
  exact .tup h1 (terms_dp h2)
/-! ### a dict of exponents -/
def kvsOf (d : List Trm) : List (List Key × V) := d.map fun t => (pairKey t.1, .int t.2)
theorem pairKey_inj {k j : Ex} (h : pairKey k = pairKey j) : k = j := by
  obtain ⟨h1, h2⟩ := List.cons.inj h
  obtain ⟨h3, _⟩ := List.cons.inj h2
  exact Prod.ext (Sum.inl.inj h1) (Sum.inl.inj h3)
theorem valV_kvs (k : Ex) : ∀ d : List Trm, valV (kvsOf d) (pairKey k) = if k ∈ keys d then some (.int (look d k)) else none
  | [] => rfl
  | t :: d => by
    by_cases e : t.1 = k
    · rw [show kvsOf (t :: d) = (pairKey t.1, V.int t.2) :: kvsOf d from rfl, valV_pos (by rw [e]), if_pos (by rw [← e]; exact List.mem_map.mpr ⟨t, List.mem_cons_self, rfl⟩), look_cons, if_pos e]
    · rw [show kvsOf (t :: d) = (pairKey t.1, V.int t.2) :: kvsOf d from rfl, valV_neg (fun z => e (pairKey_inj z)), valV_kvs k d, look_cons, if_neg e]
      have : (k ∈ keys (t :: d)) ↔ k ∈ keys d := by
        show k ∈ t.1 :: keys d ↔ _
        rw [List.mem_cons]
        exact ⟨fun z => z.resolve_left fun q => e q.symm, .inr⟩
      by_cases m : k ∈ keys d
      · rw [if_pos m, if_pos (this.mpr m)]
      · rw [if_neg m, if_neg (fun z => m (this.mp z))]
theorem getD_kvs (d : List Trm) (k : Ex) : (valV (kvsOf d) (pairKey k)).getD (.int 0) = .int (look d k) := by
  rw [valV_kvs]
  by_cases m : k ∈ keys d
  · rw [if_pos m]
    rfl
  · rw [if_neg m, look_none m]
    rfl
theorem put_kvs (d : List Trm) (k : Ex) (v : Int) : putK (kvsOf d) (pairKey k) (.int v) = kvsOf (put d k v) := by
  have e : ((kvsOf d).any fun kv => decide (kv.1 = pairKey k)) = d.any fun p => decide (p.1 = k) := by
    unfold kvsOf
    rw [List.any_map]
    congr 1
    funext t
    show decide (pairKey t.1 = pairKey k) = decide (t.1 = k)
    by_cases z : t.1 = k
    · rw [decide_eq_true z, decide_eq_true (by rw [z])]
    · rw [decide_eq_false z, decide_eq_false (fun q => z (pairKey_inj q))]
  unfold putK put
  rw [e]
  by_cases z : (d.any fun p => decide (p.1 = k)) = true
  · rw [if_pos z, if_pos z]
    unfold kvsOf
    rw [List.map_map, List.map_map]
    refine List.map_congr_left fun t _ => ?_
    show (if pairKey t.1 = pairKey k then (pairKey t.1, V.int v) else (pairKey t.1, V.int t.2)) = _
    by_cases q : t.1 = k
    · rw [if_pos (by rw [q])]
      simp only [Function.comp, if_pos q]
    · rw [if_neg (fun w => q (pairKey_inj w))]
      simp only [Function.comp, if_neg q]
  · rw [if_neg z, if_neg z]
    unfold kvsOf
    rw [List.map_append]
    rfl
theorem length_kvs (d : List Trm) : (kvsOf d).length = d.length := by
  unfold kvsOf
  rw [List.length_map]
theorem keys_kvs (d : List Trm) : (kvsOf d).map (·.1) = (keys d).map pairKey := by
  unfold kvsOf keys
  rw [List.map_map, List.map_map]
  rfl
theorem lex_lt {p q : Ex} : SrtO.lexB p q = false ↔ ¬ ltE p q := SrtO.lexB_no
end EXT
/-! ### a def whose code object is known -/
namespace L2
open PySem PySem.Spec PyProof.Rows
structure FunC (K : PySem.W.Frag) (x qual : Str) (st : Stmt) (f : Addr) (fd : FuncData) (c : Addr) : Prop where
  ex : ∃ (oc : Value) (od : Option Addr) (kV doc pm : Value) (an : Option Addr) (ct : Value) (osl : Array (Option Value)),
    fd = PySem.W.fnOf x qual (defArgs st) (defBody st) (defScope st) .none kV doc pm an (.ref c) ct ∧ K.lookup f = some ⟨oc, od, .func fd, osl⟩ ∧ PySem.W.codeIn K (.ref c) qual = true
  kp : PySem.W.keepIn K (.ref f) = true
section
variable {P : Program} {w : World} {K : PySem.W.Frag} {mg : Str → Option Value} {base : Heap}
theorem FunC.ok {x qual : Str} {st : Stmt} {f c : Addr} {fd : FuncData} {N ps : List Str} {k : Nat} {sp : Sp} (F : FunC K x qual st f fd c) (S : FnScope N ps (defScope st)) (len : ∀ vs H Q E, sp vs H Q E → vs.length = ps.length)
    (hbody : ∀ (A : Around) (outer : List Env) (s : Shared) (H : Hp) (vs : List V) (Q : VK) (E : XK), Room k (A.deeper (envOfC qual (defScope st) s.heap.objs.size f (.ref c))) → sp vs H Q E →
      ∃ t, PSs (cxOf CX0 P w K mg base N qual (defScope st) f (.ref c) A outer s H E).nox (defBody st) t ∧ t { nx := fun _ H' => Q .non H', rt := Q } (start N vs) H) :
    FnOk P w K mg base CX0 (k + 1) f fd ps sp := by
  obtain ⟨oc, od, kV, doc, pm, an, ct, osl, e, lk, hcd⟩ := F.ex
  subst e
  refine fn_of lk hcd S len fun A outer s H vs Q E hr hsp => ?_
  obtain ⟨t, h, q⟩ := hbody A outer s H vs Q E hr hsp
  exact ⟨t, h.nox, q⟩
theorem FunC.binds {x qual : Str} {st : Stmt} {f c : Addr} {fd : FuncData} {ps : List Str} (F : FunC K x qual st f fd c)
    (h : ∀ (kV doc pm : Value) (an : Option Addr) (cdv ct : Value) (us : List Value), us.length = ps.length → bindArgs (PySem.W.fnOf x qual (defArgs st) (defBody st) (defScope st) .none kV doc pm an cdv ct) ⟨us, []⟩ = pure (ps.zip us)) : Binds K fd ps [] := by
  obtain ⟨oc, od, kV, doc, pm, an, ct, osl, e, lk, hcd⟩ := F.ex
  subst e
  exact .all (h kV doc pm an (.ref c) ct)
theorem funC_mk {x qual : Str} {st : Stmt} {f c : Addr} {oc : Value} {od an : Option Addr} {osl : Array (Option Value)} {kV doc pm ct : Value} (l : K.lookup f = some ⟨oc, od, .func (PySem.W.fnOf x qual (defArgs st) (defBody st) (defScope st) .none kV doc pm an (.ref c) ct), osl⟩)
    (h : PySem.W.codeIn K (.ref c) qual = true) (k : PySem.W.keepIn K (.ref f) = true) : FunC K x qual st f (PySem.W.fnOf x qual (defArgs st) (defBody st) (defScope st) .none kV doc pm an (.ref c) ct) c := ⟨⟨oc, od, kV, doc, pm, an, ct, osl, rfl, l, h⟩, k⟩
end
end L2
/-! ### the end: the tables of all defs -/
namespace LamX
open PySem PySem.Spec PyProof.Rows L2
/-- the table of each def of the text is empty -/
def AllTab (q : Program) (K : PySem.W.Frag) (h : Heap) : Prop := ∀ (y : Str) (f c P : Addr) (o : Obj) (fd : FuncData) (e : Value) (dd : Option Addr) (vs : Array Value) (sl : Array (Option Value)), ((recsOf q).any fun r => r.name == y) = true →
  PySem.W.nsIn K mainGlobals y = some (some (.ref f)) → K.lookup f = some o → o.data = .func fd → fd.code = .ref c → K.lookup c = some ⟨e, dd, .fields vs, sl⟩ → vs[11]? = some (.ref P) → h.get? P = some { cls := .none, data := .fields #[] }
theorem walk_ofAll {l : PySem.W.OpenLaw} {n k : Nat} {q : Program} {loose : List Str} {XP : (Str → Option Value) → Heap → Prop} {YP : World → Heap → Prop} {d : DefRec} {K : Params → PySem.W.Frag} {CX : World → CXT} {x : Str}
    (hn : l.most = some n) (hn2 : n ≤ sizeLine) (hdf : d.params.defaults = []) (hr : Room k callerA) (hY : ∀ (w : World) (h : Heap), YP w h → (K w.params).In h)
    (F : ∀ (w : World) (mg : Str → Option Value) (fa : Addr) (h : Heap), YP w h → (K w.params).In h → h.Ns mainGlobals mg → mg d.name = some (.ref fa) → AllTab q (K w.params) h → LawAtS l w (K w.params) (CX w) k n x mg fa h)
    (hCX : ∀ (w : World) (H : Hp) (s : Shared) (e : Value) (s' : Shared), CX w [] H s (fun _ _ _ => False) e s' → False) :
    PySem.W.WalkO q loose XP YP l.row.toRowW d [] (fun f vs => PySem.call f vs) := by
  refine Att.attach_callB hn hdf fun w s₀ s₁ mg mb fa o pm cd doc a vs ns G Y ho hd hcd hmg hobj hints hlen hbits hg => ?_
  have KX := hY w _ Y
  have own : AllTab q (K w.params) s₁.heap := fun y f c P o1 fd1 e dd vs1 sl hrec k0 k1 k2 k3 k4 k5 => by
    obtain ⟨dL, hm, hn1⟩ := List.any_eq_true.mp hrec
    have hn2 : dL.name = y := beq_iff_eq.mp hn1
    obtain ⟨a', o', fd', c', P', h1, h2, h3, h4, h5, h6⟩ := G.T.tab dL hm
    rw [hn2, PySem.W.mg_of KX G.T.g k0] at h1
    cases h1
    have g1 := KX _ _ k1
    rw [g1] at h2
    cases h2
    rw [k2] at h3
    cases h3
    rw [k3] at h4
    cases h4
    obtain ⟨⟨oc, vc, e1, _, e3, e4⟩, hP⟩ := h6
    have g2 := KX _ _ k4
    rw [g2] at e1
    cases e1
    cases e3
    rw [k5] at e4
    cases e4
    exact hP
  obtain ⟨fd, cs, sp, hT, nT, C, hb, hsp, hF⟩ := F w mg fa _ Y KX G.T.g hmg own
  exact law_callTs KX G.T.g G.T.b G.T.builtins G.T.nolimit hg hT nT C G.T.bmain hobj hints (Nat.le_trans hlen hn2) hr hF hb (fun H hH hS => hsp H a ns hlen hbits hH hS) fun H e s' => hCX w H s₁ e s'
end LamX
namespace L2
open PySem PySem.Spec PyProof.Rows
/-- a list or a tuple, walked -/
def iSeq (K : PySem.W.Frag) (tl : TE) : TI := fun σ H R => tl σ H fun x H1 => ∃ a, x = .ref a ∧ (((∃ xs, SqL K H1 a xs) ∧ R (Itl K a) H1) ∨ ((∃ xs, SqT K H1 a xs) ∧ R (Itt K a) H1))
theorem pi_seq {X : Cx} {tg l : Expr} {tl : TE} (hl : PE X l tl) : PI X tg l (iSeq X.K tl) := by
  refine ⟨fun pins s σ H R I h => ?_⟩
  refine thn (hl.run pins s σ H _ I h) fun v s1 ⟨x, H1, I1, r1, a, e, q1⟩ => ?_
  subst e
  cases r1
  rcases q1 with ⟨⟨xs, hq⟩, q⟩ | ⟨⟨xs, hq⟩, q⟩
  · obtain ⟨its, rv, p, hz⟩ := I1.list hq
    refine wpAny_pyIter_list p.isList ⟨s1.heap.objs.size, [s1.heap.objs.size], _, _, H1, rfl, I1.kept (t' := s1.toks) fun b o e => Heap.get?_push_of_some _ e, turn_list a _, ⟨_, Heap.get?_push_size _ rfl, rfl, rfl⟩, fun b hb => ?_, q⟩
    obtain rfl : b = s1.heap.objs.size := by simpa using hb
    exact I1.fpOk (Nat.le_refl _) (I1.hok.fresh (Nat.le_refl _))
  · obtain ⟨its, rv, p, hz⟩ := I1.tuple hq
    refine wpAny_pyIter_tuple (show s1.heap.IsTuple a its.toArray from p) ⟨s1.heap.objs.size, [s1.heap.objs.size], _, _, H1, rfl, I1.kept (t' := s1.toks) fun b o e => Heap.get?_push_of_some _ e, turn_tuple a _, ⟨_, Heap.get?_push_size _ rfl, rfl, rfl⟩, fun b hb => ?_, q⟩
    obtain rfl : b = s1.heap.objs.size := by simpa using hb
    exact I1.fpOk (Nat.le_refl _) (I1.hok.fresh (Nat.le_refl _))
/-- walking a list or a tuple: one invariant -/
theorem for_seq {K : PySem.W.Frag} {a : Addr} {xs : List V} {g : TG} {tb : TS} {D : Ends} {σ : St} {H H0 : Hp} (ha : SqL K H0 a xs ∨ SqT K H0 a xs) (Pv : Nat → St → Hp → Prop) (h0 : Pv 0 σ H) (hl : ∀ i σ H1, i ≤ xs.length → Pv i σ H1 → EXT.Ext H0 H1)
    (hs : ∀ i x σ H, xs[i]? = some x → Pv i σ H → g x σ H fun σ2 H2 => tb { D with nx := Pv (i + 1), ct := Pv (i + 1), bk := D.nx } σ2 H2) (hd : ∀ σ H, Pv xs.length σ H → D.nx σ H) :
    let G : It → Prop := fun J => ∃ W : Nat → Nat → St → Hp → Prop, (∃ m, W 0 m σ H) ∧ ∀ i m σ H, W i m σ H →
      ((J.stop i H ∧ D.nx σ H) ∨ (J.go i H ∧ ∃ N : St → Hp → Prop, (∀ σ' H', N σ' H' → ∃ m', m' < m ∧ W (i + 1) m' σ' H') ∧ ∀ x H', J.yld i H x H' → g x σ H' fun σ2 H2 => tb { D with nx := N, ct := N, bk := D.nx } σ2 H2))
    ((∃ xs, SqL K H a xs) ∧ G (Itl K a)) ∨ ((∃ xs, SqT K H a xs) ∧ G (Itt K a)) := by
  rcases ha with h | h
  · exact .inl ⟨⟨xs, (hl _ _ _ (Nat.zero_le _) h0).seq h⟩, for_list Pv h0 (fun i σ H1 hi p => (hl i σ H1 hi p).seq h) hs hd⟩
  · exact .inr ⟨⟨xs, (hl _ _ _ (Nat.zero_le _) h0).tup h⟩, for_tup Pv h0 (fun i σ H1 hi p => (hl i σ H1 hi p).tup h) hs hd⟩
end L2
namespace L2
open PySem PySem.Spec PyProof.Rows
/-- pairs of ints, by their first, then by their second -/
def geP (x y : Int × Int) : Bool := !SrtO.lexB x y
theorem ge_not (i j : Int) : (!decide (i < j)) = decide (j ≤ i) := by
  by_cases z : i < j
  · rw [decide_eq_true z, decide_eq_false (by omega)]
    rfl
  · rw [decide_eq_false z, decide_eq_true (by omega)]
    rfl
/-- t >= u of two pairs of ints -/
def rGeP (K : PySem.W.Frag) : R2 := fun x y H Q => ∃ (a b : Addr) (p q : Int × Int), x = .ref a ∧ y = .ref b ∧ SqT K H a [.int p.1, .int p.2] ∧ SqT K H b [.int q.1, .int q.2] ∧ Q (.bl (geP p q)) H
theorem pair_vals {i j : Int} {its : List Value} (r : Vals [V.int i, .int j] its) : ∃ t u, its = [.int i t, .int j u] := by
  obtain ⟨u1, u2, rfl, ⟨t, rfl⟩, ⟨u, rfl⟩⟩ := vals2 r
  exact ⟨t, u, rfl⟩
theorem op_geP {X : Cx} (hu : X.A.units < cLine) : OpR X (compareOp .GtE) (rGeP X.K) := by
  intro pins s σ H x y v u Q I rx ry h
  obtain ⟨a, b, p, q, rfl, rfl, ha, hb, k⟩ := h
  cases rx
  cases ry
  obtain ⟨its, r1, p1, _⟩ := I.tuple ha
  obtain ⟨its2, r2, p2, _⟩ := I.tuple hb
  obtain ⟨t1, t2, rfl⟩ := pair_vals r1
  obtain ⟨t3, t4, rfl⟩ := pair_vals r2
  have R := Ob.RcOp.tuples_ge (A := X.A) (s := s) (e := fun j => if j = 0 then (p.1 == q.1) else (p.2 == q.2)) (r := fun j => if j = 0 then decide (q.1 ≤ p.1) else decide (q.2 ≤ p.2)) p1 p2 hu (fun j h1 h2 => by
    match j, h1, h2 with
    | 0, _, _ => exact SeqAt.EqAt.int_int _ _ _ _
    | 1, _, _ => exact SeqAt.EqAt.int_int _ _ _ _) (fun j h1 h2 _ => by
    match j, h1, h2 with
    | 0, _, _ => exact Ob.RcOp.ge_int _ _ _ _
    | 1, _, _ => exact Ob.RcOp.ge_int _ _ _ _)
  have e : geP p q = Ob.lexAt (fun j => if j = 0 then (p.1 == q.1) else (p.2 == q.2)) (fun j => if j = 0 then decide (q.1 ≤ p.1) else decide (q.2 ≤ p.2)) (decide (2 ≥ 2)) 0 2 := by
    rw [Ob.lexAt_succ, Ob.lexAt_succ, Ob.lexAt_zero]
    unfold geP SrtO.lexB
    by_cases e1 : p.1 = q.1
    · rw [if_pos e1, ge_not]
      by_cases e2 : p.2 = q.2
      · have b1 : (p.1 == q.1) = true := beq_iff_eq.mpr e1
        have b2 : (p.2 == q.2) = true := beq_iff_eq.mpr e2
        have z : q.2 ≤ p.2 := by omega
        simp [b1, b2, z]
      · have b1 : (p.1 == q.1) = true := beq_iff_eq.mpr e1
        have b2 : (p.2 == q.2) = false := beq_eq_false_iff_ne.mpr e2
        simp [b1, b2]
    · have b1 : (p.1 == q.1) = false := beq_eq_false_iff_ne.mpr e1
      rw [if_neg e1, ge_not]
      simp [b1]
  rw [e] at k
  have z : wpAny (model X.prog X.w) X.A (compareOp .GtE (.ref a) (.ref b)) (EP X pins σ Q) X.xe s := R X.prog X.w X.xe (EP X pins σ Q) ⟨.bl _, H, I, rfl, k⟩
  exact z
/-- a op b op' c op'' d -/
def tChain3 (r r' r'' : R2) (ta tb tc td : TE) : TE := fun σ H Q => ta σ H fun x H1 => tb σ H1 fun y H2 => r x y H2 fun z H3 => ∃ k, z = .bl k ∧
  (if k = true then tc σ H3 fun w' H4 => r' y w' H4 fun z2 H5 => ∃ k2, z2 = .bl k2 ∧ (if k2 = true then td σ H5 fun w2 H6 => r'' w' w2 H6 Q else Q (.bl false) H5) else Q (.bl false) H3)
theorem pe_chain3 {X : Cx} {a b c d : Expr} {pos : Pos} {ta tb tc td : TE} {op op' op'' : CmpOp} {r r' r'' : R2} (ho : OpR X (compareOp op) r) (ho' : OpR X (compareOp op') r') (ho'' : OpR X (compareOp op'') r'') (ha : PE X a ta) (hb : PE X b tb) (hc : PE X c tc) (hd : PE X d td)
    (hm : lastMarks [op, op', op''] [b, c, d] = false := by with_unfolding_all rfl) : PE X (.Compare a [op, op', op''] [b, c, d] pos) (tChain3 r r' r'' ta tb tc td) := by
  refine ⟨fun pins s σ H Q I h => ?_⟩
  refine Compare_chain (thn (ha.run pins s σ H _ I h) fun v s1 ⟨x, H1, I1, r1, q1⟩ => chain_link (thn (hb.run pins s1 σ H1 _ I1 q1) fun u s2 ⟨y, H2, I2, r2, q2⟩ =>
    thn (ho pins s2 σ H2 x y v u _ I2 r1 r2 q2) fun d s3 ⟨z, H3, I3, r3, k, e, q3⟩ => ?_)) hm
  subst e
  cases r3
  refine wpAny_truthy_bool ?_
  cases k with
  | false => exact ite_ff ⟨.bl false, H3, I3, rfl, q3⟩
  | true =>
    refine ite_tt (chain_link (thn (hc.run pins s3 σ H3 _ I3 q3) fun w' s4 ⟨z', H4, I4, r4, q4⟩ => thn (ho' pins s4 σ H4 y z' u w' _ I4 r2 r4 q4) fun d5 s5 ⟨z5, H5, I5, r5, k5, e5, q5⟩ => ?_))
    subst e5
    cases r5
    refine wpAny_truthy_bool ?_
    cases k5 with
    | false => exact ite_ff ⟨.bl false, H5, I5, rfl, q5⟩
    | true => exact ite_tt (chain_last (thn (hd.run pins s5 σ H5 _ I5 q5) fun w2 s6 ⟨z6, H6, I6, r6, q6⟩ => ho'' pins s6 σ H6 z' z6 w' w2 Q I6 r4 r6 q6))
theorem pt_chain3 {X : Cx} {a b c d : Expr} {pos : Pos} {ta tb tc td : TE} {op op' op'' : CmpOp} {r r' r'' : R2} (ho : OpR X (compareOp op) r) (ho' : OpR X (compareOp op') r') (ho'' : OpR X (compareOp op'') r'') (ha : PE X a ta) (hb : PE X b tb) (hc : PE X c tc) (hd : PE X d td)
    (hm : lastMarks [op, op', op''] [b, c, d] = false := by with_unfolding_all rfl) : PT X (.Compare a [op, op', op''] [b, c, d] pos) (tTest (tChain3 r r' r'' ta tb tc td)) := by
  refine ⟨fun pins s σ H Q I h => ?_⟩
  refine isTrue_chain (thn (ha.run pins s σ H _ I h) fun v s1 ⟨x, H1, I1, r1, q1⟩ => test_link (thn (hb.run pins s1 σ H1 _ I1 q1) fun u s2 ⟨y, H2, I2, r2, q2⟩ =>
    thn (ho pins s2 σ H2 x y v u _ I2 r1 r2 q2) fun d s3 ⟨z, H3, I3, r3, k, e, q3⟩ => ?_)) hm
  subst e
  cases r3
  refine wpAny_truthy_bool ?_
  cases k with
  | false =>
    obtain ⟨k', e', q'⟩ := q3
    cases e'
    exact ite_ff ⟨H3, I3, q'⟩
  | true =>
    refine ite_tt (test_link (thn (hc.run pins s3 σ H3 _ I3 q3) fun w' s4 ⟨z', H4, I4, r4, q4⟩ => thn (ho' pins s4 σ H4 y z' u w' _ I4 r2 r4 q4) fun d5 s5 ⟨z5, H5, I5, r5, k5, e5, q5⟩ => ?_))
    subst e5
    cases r5
    refine wpAny_truthy_bool ?_
    cases k5 with
    | false =>
      obtain ⟨k', e', q'⟩ := q5
      cases e'
      exact ite_ff ⟨H5, I5, q'⟩
    | true =>
      refine ite_tt (test_last (thn (hd.run pins s5 σ H5 _ I5 q5) fun w2 s6 ⟨z6, H6, I6, r6, q6⟩ => thn (ho'' pins s6 σ H6 z' z6 w' w2 _ I6 r4 r6 q6) fun d7 s7 ⟨z7, H7, I7, r7, k7, e7, q7⟩ => ?_))
      subst e7
      cases r7
      exact wpAny_truthy_bool ⟨H7, I7, q7⟩
end L2
namespace L2
open PySem PySem.Spec PyProof.Rows RZ
/-- zip of two tuples, the second not longer than the first -/
theorem for_zipM {K : PySem.W.Frag} {a b : Addr} {xs ys : List V} {g : TG} {tb : TS} {D : Ends} {σ : L2.St} {H : Hp} (hl : ys.length ≤ xs.length) (Pv : Nat → L2.St → Hp → Prop) (h0 : Pv 0 σ H) (hq : ∀ i σ H, Pv i σ H → SqT K H a xs ∧ SqT K H b ys)
    (hs : ∀ (i : Nat) (x y : V) (T : Addr) (σ : L2.St) (H : Hp), xs[i]? = some x → ys[i]? = some y → Pv i σ H → H T = none → g (.ref T) σ (upd H T (.tup [x, y])) fun σ2 H2 => tb { D with nx := Pv (i + 1), ct := Pv (i + 1), bk := D.nx } σ2 H2)
    (hd : ∀ σ H, Pv ys.length σ H → D.nx σ H) :
    ∃ W : Nat → Nat → L2.St → Hp → Prop, (∃ m, W 0 m σ H) ∧ ∀ i m σ H, W i m σ H →
      ((ItzT K a b).stop i H ∧ D.nx σ H) ∨ ((ItzT K a b).go i H ∧ ∃ N : L2.St → Hp → Prop, (∀ σ' H', N σ' H' → ∃ m', m' < m ∧ W (i + 1) m' σ' H') ∧ ∀ v H', (ItzT K a b).yld i H v H' → g v σ H' fun σ2 H2 => tb { D with nx := N, ct := N, bk := D.nx } σ2 H2) := by
  refine ⟨fun i m σ H => m = ys.length - i ∧ i ≤ ys.length ∧ Pv i σ H, ⟨ys.length, rfl, Nat.zero_le _, h0⟩, ?_⟩
  rintro i m σ H ⟨rfl, hi, p⟩
  obtain ⟨qx, qy⟩ := hq i σ H p
  by_cases hlt : i < ys.length
  · have hlx : i < xs.length := by omega
    refine .inr ⟨⟨xs, ys, _, _, qx, qy, List.getElem?_eq_getElem hlx, List.getElem?_eq_getElem hlt⟩, Pv (i + 1), fun σ' H' p' => ⟨ys.length - (i + 1), by omega, rfl, hlt, p'⟩, fun v H' y => ?_⟩
    obtain ⟨T, x', y', rfl, hT, rfl, f1, f2⟩ := y
    exact hs i x' y' T σ H (f1 xs qx) (f2 ys qy) p hT
  · obtain rfl : i = ys.length := by omega
    exact .inl ⟨⟨xs, ys, qx, qy, Or.inr (Nat.le_refl _)⟩, hd σ H p⟩
end L2
namespace L2
open PySem PySem.Spec PyProof.Rows
section
variable {X : Cx} {CX : CXT} {k : Nat} {f C : Addr} {fd : FuncData} {ps : List Str} {sp : Sp} {E : St → XK} {x : Str} {p pos : Pos} {e : Expr} {es : List Expr} {t : TA}
/-- C(..) in a try's body: what it lets out may speak of the slots -/
theorem run_makeS {pins : List (Addr × Obj)} {σ : St} {H : Hp} {s : Shared} {Q : VK} {us : List Value} {vs : List V} (M : Mk X.K C f) (F : FnOk X.prog X.w X.K X.mg X.base CX k f fd ps sp) (hr : Room (k + 1) X.A) (hb : Binds X.K fd ps [])
    (hx : PassesAt CX X σ (E σ)) (I : Inv X pins σ H s) (r : Vals vs us)
    (h : ∀ x dx, H x = none → H dx = none → dx ≠ x → sp (.ref x :: vs) (upd (upd H dx (.own x)) x (.ins C dx [])) (fun v H2 => v = .non ∧ Q (.ref x) H2) (E σ)) :
    wpAny (model X.prog X.w) X.A (call (.ref C) us) (EP X pins σ Q) X.xe s := by
  have hq := h (s.heap.objs.size + 1) s.heap.objs.size (I.hok.fresh (Nat.le_succ _)) (I.hok.fresh (Nat.le_refl _)) (Nat.ne_of_lt (Nat.lt_succ_self _))
  have I2 := Inv.made (C := C) I
  have r2 : Vals (V.ref (s.heap.objs.size + 1) :: vs) (Value.ref (s.heap.objs.size + 1) :: us) := .cons rfl r
  have hl : (Value.ref (s.heap.objs.size + 1) :: us).length = ps.length := by
    have l1 := r2.length
    rw [F.len _ _ _ _ hq] at l1
    exact l1.symm
  have bb := hb _ (Value.ref (s.heap.objs.size + 1) :: us) I2.kIn (by rw [List.append_nil]; exact hl)
  rw [List.append_nil] at bb
  refine wpAny_call (make_map (f := f) I.kIn M.makes M.init (beq_iff_eq.mp M.fn) (codeAny_mono (F.run _ X.stack _ _ ⟨Value.ref (s.heap.objs.size + 1) :: us, []⟩ (Value.ref (s.heap.objs.size + 1) :: us) _ _ (E σ) (hr.make C us []) (I2.env0.make C us []) bb r2 hq) fun r s' hq' => ?_))
  cases r with
  | error e => exact hx pins _ _ e s' I2 hq'
  | ok fl =>
    cases fl with
    | ret u =>
      obtain ⟨v, H', I3, rv, ev, q3⟩ := I2.after hq'
      subst ev
      exact ⟨rv, ⟨V.ref (s.heap.objs.size + 1), H', I3, rfl, q3⟩⟩
    | next => exact False.elim hq'
    | brk => exact False.elim hq'
    | cont => exact False.elim hq'
def tMakeS (C : Addr) (sp : Sp) (E : St → XK) (t : TA) : TE := fun σ H Q => t σ H fun vs H1 => ∀ x dx, H1 x = none → H1 dx = none → dx ≠ x →
  sp (.ref x :: vs) (upd (upd H1 dx (.own x)) x (.ins C dx [])) (fun v H2 => v = .non ∧ Q (.ref x) H2) (E σ)
theorem pe_makeS (M : Mk X.K C f) (F : FnOk X.prog X.w X.K X.mg X.base CX k f fd ps sp) (hr : Room (k + 1) X.A) (hg : Gl X x) (hm : X.mg x = some (.ref C)) (hb : Binds X.K fd ps []) (hx : ∀ σ, PassesAt CX X σ (E σ))
    (ha : PA X (e :: es) t) (hdb : (x == ("__debug__" : Str)) = false := by decide) (he : starEach (e :: es) X.env = (false, eval e X.env) :: starEach es X.env := by rfl) (hpl : (backTo pos (starEach es X.env)).any (·.1) = false := by rfl) :
    PE X (.Call (.Name x p) (e :: es) [] pos) (tMakeS C sp E t) := by
  refine ⟨fun pins s σ H Q I h => ?_⟩
  refine wpAny_Call_Name_kw (ld_glob I hg hm ?_ hdb)
  refine PySem.W.callWith_K (h₀ := X.base) I.ok.mod.kin M.kp (thn (ha.run pos pins s σ H _ I h) fun us s1 ⟨vs, H1, I1, r, q⟩ => ⟨I1.kIn, ?_⟩) he hpl
  exact run_makeS M F hr hb (hx σ) I1 r q
end
end L2
/-! ### sum of a tuple of ints -/
namespace L2
open PySem PySem.Spec PyProof.Rows
def rSumT (K : PySem.W.Frag) : List V → Hp → VK → Prop := fun vs H Q => ∃ (a : Addr) (ns : List Int), vs = [V.ref a] ∧ SqT K H a (ns.map V.int) ∧ Q (.int ns.sum) H
theorem preSum_at (ns : List Int) : ∀ k, k ≤ ns.length → preSum (fun i => (ns[i]?).getD 0) k = (ns.take k).sum
  | 0, _ => by simp [preSum]
  | k + 1, h => by
    rw [preSum, preSum_at ns k (by omega), List.take_add_one, List.getElem?_eq_getElem (by omega : k < ns.length), List.sum_append]
    simp
theorem vals_ints_at : ∀ {ns : List Int} {its : List Value} {i : Nat} {v : Value}, Vals (ns.map V.int) its → its[i]? = some v → ∃ t, v = .int ((ns[i]?).getD 0) t
  | [], _, i, v, .nil, h => by simp at h
  | n :: ns, _, 0, v, .cons r t, h => by
    simp only [List.getElem?_cons_zero, Option.some.injEq] at h
    subst h
    obtain ⟨t, e⟩ := r
    exact ⟨t, e⟩
  | n :: ns, _, i + 1, v, .cons r t, h => by
    simp only [List.getElem?_cons_succ] at h
    simpa using vals_ints_at t h
theorem cr_sumT {X : Cx} (hc : X.calm = true) : CallR X (.builtin "sum") (rSumT X.K) := by
  intro pins s σ H xs us Q I hv h
  obtain ⟨a, ns, rfl, hq, q⟩ := h
  cases hv with
  | cons r t =>
    cases t
    cases r
    obtain ⟨its, rv, p, hz⟩ := I.tuple hq
    have p' : s.heap.IsTuple a its.toArray := p
    obtain ⟨o, ho, p2⟩ := id p'
    have hne : a ≠ s.heap.objs.size := Nat.ne_of_lt (Heap.lt_size ho)
    have hl := rv.length
    rw [List.length_map] at hl
    refine call_sum_walkG (wpAny_pyIter_tuple p' ⟨s.heap.objs.size, [s.heap.objs.size, a], [s.heap.objs.size], _, _, _, fun i => (ns[i]?).getD 0, rfl, Walks.tuple (A := X.A.in1) (I.ok.hd hc) _ a hne its.toArray, ⟨⟨_, Heap.get?_push_size _ rfl, rfl, rfl⟩, ⟨o, Heap.get?_push_of_some _ ho, p2⟩⟩, fun b hb => ?_, fun i v hi => ?_, fun h' tk t' hk => ?_⟩)
    · have h1 := Heap.lt_size ho
      simp only [List.mem_cons, List.not_mem_nil, or_false] at hb
      show b < (s.heap.push _).objs.size
      rw [PyProof.Rows.size_push']
      rcases hb with e | e
      · rw [e]
        exact Nat.lt_succ_self _
      · rw [e]
        exact Nat.lt_succ_of_lt h1
    · refine vals_ints_at rv ?_
      simpa using hi
    · refine ⟨.int (preSum (fun i => (ns[i]?).getD 0) its.toArray.size), H, I.kept (t' := tk) fun b o e => hk b o (fun m => ?_) (Heap.get?_push_of_some _ e), ⟨_, rfl⟩, ?_⟩
      · have h1 := Heap.lt_size e
        rw [List.mem_singleton.mp m] at h1
        exact Nat.lt_irrefl _ h1
      · have e : preSum (fun i => (ns[i]?).getD 0) its.toArray.size = ns.sum := by
          rw [List.size_toArray, ← hl, preSum_at ns _ (Nat.le_refl _), List.take_length]
        rw [e]
        exact q
end L2
/-! ### walks with an invariant on the heap alone: the inner for of a comprehension; zip in a generator expression -/
namespace L2
open PySem PySem.Spec PyProof.Rows
theorem passes_no {X : Cx} : Passes (L2.CX X.prog X.w) X (fun _ _ _ => False) := fun pins σ H s e s' I h => by
  obtain ⟨a, B, H', cls, d, _, _, _, _, _, _, _, h⟩ := h
  exact h.elim
section
variable {K : PySem.W.Frag} {a b : Addr} {xs ys : List V} {H0 : Hp} {B : V → Hp → (Hp → Prop) → Prop} {Nx : Hp → Prop}
theorem w_tup (Pv : Nat → Hp → Prop) (h0 : Pv 0 H0) (hl : ∀ i H, i ≤ xs.length → Pv i H → SqT K H a xs) (hs : ∀ i x H, xs[i]? = some x → Pv i H → B x H (Pv (i + 1))) (hd : ∀ H, Pv xs.length H → Nx H) :
    ∃ W : Nat → Nat → Hp → Prop, (∃ m, W 0 m H0) ∧ ∀ i m H, W i m H → ((Itt K a).stop i H ∧ Nx H) ∨ ((Itt K a).go i H ∧ ∃ N : Hp → Prop, (∀ H', N H' → ∃ m', m' < m ∧ W (i + 1) m' H') ∧ ∀ x H', (Itt K a).yld i H x H' → B x H' N) := by
  refine ⟨fun i m H => m = xs.length - i ∧ i ≤ xs.length ∧ Pv i H, ⟨xs.length, rfl, Nat.zero_le _, h0⟩, ?_⟩
  rintro i m H ⟨rfl, hi, p⟩
  have q := hl i H hi p
  by_cases hlt : i < xs.length
  · refine .inr ⟨⟨xs, _, q, List.getElem?_eq_getElem hlt⟩, Pv (i + 1), fun H' p' => ⟨_, by omega, rfl, hlt, p'⟩, fun x H' y => ?_⟩
    obtain ⟨rfl, y⟩ := y
    exact hs i x _ (y xs q) p
  · have e : i = xs.length := by omega
    subst e
    exact .inl ⟨⟨xs, q, Nat.le_refl _⟩, hd H p⟩
theorem w_list (Pv : Nat → Hp → Prop) (h0 : Pv 0 H0) (hl : ∀ i H, i ≤ xs.length → Pv i H → SqL K H a xs) (hs : ∀ i x H, xs[i]? = some x → Pv i H → B x H (Pv (i + 1))) (hd : ∀ H, Pv xs.length H → Nx H) :
    ∃ W : Nat → Nat → Hp → Prop, (∃ m, W 0 m H0) ∧ ∀ i m H, W i m H → ((Itl K a).stop i H ∧ Nx H) ∨ ((Itl K a).go i H ∧ ∃ N : Hp → Prop, (∀ H', N H' → ∃ m', m' < m ∧ W (i + 1) m' H') ∧ ∀ x H', (Itl K a).yld i H x H' → B x H' N) := by
  refine ⟨fun i m H => m = xs.length - i ∧ i ≤ xs.length ∧ Pv i H, ⟨xs.length, rfl, Nat.zero_le _, h0⟩, ?_⟩
  rintro i m H ⟨rfl, hi, p⟩
  have q := hl i H hi p
  by_cases hlt : i < xs.length
  · refine .inr ⟨⟨xs, _, q, List.getElem?_eq_getElem hlt⟩, Pv (i + 1), fun H' p' => ⟨_, by omega, rfl, hlt, p'⟩, fun x H' y => ?_⟩
    obtain ⟨rfl, y⟩ := y
    exact hs i x _ (y xs q) p
  · have e : i = xs.length := by omega
    subst e
    exact .inl ⟨⟨xs, q, Nat.le_refl _⟩, hd H p⟩
theorem w_range {lo : Int} {n : Nat} (Pv : Nat → Hp → Prop) (h0 : Pv 0 H0) (hs : ∀ i H, i < n → Pv i H → B (.int (lo + i)) H (Pv (i + 1))) (hd : ∀ H, Pv n H → Nx H) :
    ∃ W : Nat → Nat → Hp → Prop, (∃ m, W 0 m H0) ∧ ∀ i m H, W i m H → ((Itr lo n).stop i H ∧ Nx H) ∨ ((Itr lo n).go i H ∧ ∃ N : Hp → Prop, (∀ H', N H' → ∃ m', m' < m ∧ W (i + 1) m' H') ∧ ∀ x H', (Itr lo n).yld i H x H' → B x H' N) := by
  refine ⟨fun i m H => m = n - i ∧ i ≤ n ∧ Pv i H, ⟨n, rfl, Nat.zero_le _, h0⟩, ?_⟩
  rintro i m H ⟨rfl, hi, p⟩
  by_cases hlt : i < n
  · refine .inr ⟨hlt, Pv (i + 1), fun H' p' => ⟨_, by omega, rfl, hlt, p'⟩, fun x H' y => ?_⟩
    obtain ⟨rfl, rfl⟩ := y
    exact hs i _ hlt p
  · have e : i = n := by omega
    subst e
    exact .inl ⟨Nat.le_refl _, hd H p⟩
end
end L2
namespace GXP
open PySem PySem.Spec PyProof.Rows L2 RZ
section
variable {K : PySem.W.Frag} {a b : Addr} {xs ys : List V} {g : TG} {tt : TT} {te : TE} {vs : List Nat} {σ : L2.St} {cy : Cy} {Qe : List V → Hp → Prop} {H0 : Hp}
/-- zip of two tuples of one length -/
theorem gx_zipT (hn : xs.length = ys.length) (Pv : Nat → List V → Hp → Prop) (h0 : Pv 0 [] H0) (hl : ∀ i zs H, Pv i zs H → SqT K H a xs ∧ SqT K H b ys)
    (hs : ∀ i x y T zs H, xs[i]? = some x → ys[i]? = some y → Pv i zs H → H T = none → g (.ref T) (wipe σ vs) (upd H T (.tup [x, y])) fun σ2 H2 => wipe σ2 vs = wipe σ vs ∧ tt σ2 H2 fun b H3 => if b = true then te σ2 H3 fun y H4 => cy zs y H4 (Pv (i + 1)) else Pv (i + 1) zs H3)
    (hd : ∀ zs H, Pv ys.length zs H → Qe zs H) : ∃ W m, W 0 m [] H0 ∧ Turns (ItzT K a b) g tt te vs σ cy Qe W := by
  refine ⟨fun i m zs H => m = ys.length - i ∧ i ≤ ys.length ∧ Pv i zs H, ys.length, ⟨rfl, Nat.zero_le _, h0⟩, ?_⟩
  rintro i m zs H ⟨rfl, hi, p⟩
  obtain ⟨qx, qy⟩ := hl i zs H p
  by_cases hlt : i < ys.length
  · have hlx : i < xs.length := by omega
    refine .inr ⟨⟨xs, ys, _, _, qx, qy, List.getElem?_eq_getElem hlx, List.getElem?_eq_getElem hlt⟩, by omega, Pv (i + 1), fun zs' H' p' => ⟨_, by omega, rfl, hlt, p'⟩, fun v H' y => ?_⟩
    obtain ⟨T, x', y', rfl, hT, rfl, f1, f2⟩ := y
    exact hs i x' y' T zs H (f1 xs qx) (f2 ys qy) p hT
  · have e : i = ys.length := by omega
    subst e
    exact .inl ⟨⟨xs, ys, qx, qy, Or.inr (Nat.le_refl _)⟩, hd zs H p⟩
end
end GXP
/-! ### enumerate of a list or a tuple -/
namespace L2
open PySem PySem.Spec PyProof.Rows
theorem wp_if {α : Type} {M : Model} {A : Around} {E : Value → Shared → Prop} {s : Shared} {c : Bool} {x y : Sem α} {Q : α → Shared → Prop} (h1 : wpAny M A x Q E s) (h2 : wpAny M A y Q E s) : wpAny M A (if c = true then x else y) Q E s := by
  cases c
  · exact h2
  · exact h1
theorem call_enumerate_tup {prog : Program} {w : World} {A : Around} {E : Value → Shared → Prop} {s : Shared} {t : Addr} {items : Array Value} {Q : Value → Shared → Prop} (hI : s.heap.IsTuple t items)
    (hQ : ∀ (h' : Heap) (e : Addr), s.heap.objs.size ≤ e → e ≠ s.heap.objs.size → IsEnum h' e s.heap.objs.size 0 Value.none → h'.IsTupleIter s.heap.objs.size t 0 → (∀ (b : Addr) (o : Obj), s.heap.get? b = some o → h'.get? b = some o) → Q (.ref e) { s with heap := h' }) :
    wpAny (model prog w) A (call (.type "enumerate") [.ref t]) Q E s := by
  refine callType_codes (Q₁ := fun obj s1 => s1.TypeIs obj "enumerate" ∧ Q obj s1) F.called_enumerate (F.typeCall_enumerate_1 _) F.entry_object_init (codeAny_of_tree ?_) fun obj s1 h1 =>
    ⟨h1.1, F.args_object_init_2 obj _, object_init_meets F.called_enumerate.init.lookup F.called_enumerate.made (by decide) prog w A.in1 _ s1 ⟨h1.1, rfl, h1.2⟩⟩
  have pl : plainId "enumerate.__new__" = true := by decide +kernel
  show wpAny _ A.in1.in1 (do checkBuiltinCall "enumerate.__new__" ⟨[.type "enumerate", .ref t], []⟩; again (.builtin "enumerate.__new__" ⟨[.type "enumerate", .ref t], []⟩)) _ _ s
  refine wpAny_bind (wpAny_of_eq (F.newCall_enumerate_1 _) (wpAny_pure ⟨plainId_quiet pl _, codeAny_builtin F.entry_enumerate_new ?_⟩))
  rw [Around.under_plainId pl]
  unfold Builtin.«enumerate.__new__»
  have hsub : isSubtype (Value.type "enumerate") (Value.type "enumerate") = pure true := by rfl
  wp_walk using wpAny_pyIter_tuple hI
  refine wpAny_stack_any fun st => wpAny_pure ?_
  refine wp_if ?_ ?_
  all_goals
    refine wpAny_bind (wpAny_of_eq (show _ = pure (Value.ref t, none) from rfl) ?_)
    wp_walk using wpAny_pyIter_tuple hI
  all_goals
    have o1 : ((s.heap.push { cls := .type "tuple_iterator", data := .fields #[.ref t, .int 0 0] }).push { cls := .type "enumerate", data := .fields #[.none, .bool false, .ref s.heap.objs.size, rawInt 0, .none, .none] }).get? (s.heap.push { cls := .type "tuple_iterator", data := .fields #[.ref t, .int 0 0] }).objs.size = some { cls := .type "enumerate", data := .fields #[.none, .bool false, .ref s.heap.objs.size, rawInt 0, .none, .none] } := Heap.get?_push_size _ rfl
    refine ⟨⟨_, o1, rfl⟩, ?_⟩
    have g2 : ((s.heap.push { cls := .type "tuple_iterator", data := .fields #[.ref t, .int 0 0] }).push { cls := .type "enumerate", data := .fields #[.none, .bool false, .ref s.heap.objs.size, rawInt 0, .none, .none] }).get? s.heap.objs.size = some { cls := .type "tuple_iterator", data := .fields #[.ref t, .int 0 0] } := Heap.get?_push_of_some _ (Heap.get?_push_size _ rfl)
    have hz : (s.heap.push { cls := .type "tuple_iterator", data := .fields #[.ref t, .int 0 0] }).objs.size = s.heap.objs.size + 1 := PyProof.Rows.size_push' _ _
    have hq := hQ _ _ (by rw [hz]; exact Nat.le_succ _) (by rw [hz]; exact Nat.succ_ne_self _) o1 ⟨_, g2, rfl, rfl⟩ fun b o e => Heap.get?_push_of_some _ (Heap.get?_push_of_some _ e)
    exact hq
/-- enumerate of a tuple of n things -/
def IteT (K : PySem.W.Frag) (a : Addr) (n : Nat) : It where
  go := fun i H => ∃ xs x, SqT K H a xs ∧ xs[i]? = some x ∧ xs.length = n
  yld := fun i H v H' => ∃ T x, v = V.ref T ∧ H T = none ∧ H' = upd H T (.tup [V.int (i : Int), x]) ∧ ∀ xs : List V, SqT K H a xs → xs[i]? = some x
  stop := fun i H => ∃ xs, SqT K H a xs ∧ xs.length = n ∧ n ≤ i
theorem vals_get : ∀ {xs : List V} {its : List Value} {i : Nat} {u : Value}, Vals xs its → its[i]? = some u → ∃ x, xs[i]? = some x ∧ RelV x u
  | _, _, i, u, .nil, h => by simp at h
  | _, _, 0, u, .cons r t, h => by
    simp only [List.getElem?_cons_zero, Option.some.injEq] at h
    subst h
    exact ⟨_, rfl, r⟩
  | _, _, i + 1, u, .cons r t, h => by
    simp only [List.getElem?_cons_succ] at h
    obtain ⟨x, h1, h2⟩ := vals_get t h
    exact ⟨x, by simpa using h1, h2⟩
theorem turn_enumT {P : Program} {w : World} {K : PySem.W.Frag} {elts : List Expr} {kk : Nat} {tpos : Pos} {a e it : Addr} {n : Nat} :
    Turn P w K (.Tuple elts kk tpos) (IteT K a n) [e, it] e fun i h => (∃ old, IsEnum h e it (i : Int) old) ∧ h.IsTupleIter it a i ∧ e ≠ it ∧ i ≤ n := by
  have ne_of : ∀ {h : Heap} {i : Nat} {old : Value} {items : Array Value}, IsEnum h e it (i : Int) old → h.IsTupleIter it a i → h.IsTuple a items → e ≠ it → a ≠ it ∧ e ∉ [it, a] := fun he hi ha hne => by
    obtain ⟨o, ho, hc, hd⟩ := hi
    obtain ⟨o2, ho2, hc2, _⟩ := ha
    refine ⟨fun z => ?_, fun m => ?_⟩
    · rw [z, ho] at ho2
      cases ho2
      rw [hc] at hc2
      exact absurd (Value.type.inj hc2) (by decide)
    · simp only [List.mem_cons, List.not_mem_nil, or_false] at m
      rcases m with m | m
      · exact hne m
      · have he2 : _ = some _ := he
        rw [m] at he2
        have he3 := he2.symm.trans ho2
        cases he3
        exact absurd (Value.type.inj hc2) (by decide)
  refine ⟨List.mem_cons_self, fun i h tn b hb => ?_, fun i h h' tn hk => ?_, fun X hP hw hK hcalm i pins s σ H E I hfp tn go => ?_, fun X hP hw hK hcalm i pins s σ H E I hfp tn st => ?_, fun A i s Q E tn q => ?_⟩
  · obtain ⟨⟨old, he⟩, ⟨o, ho, hc, hd⟩, hne, hn⟩ := tn
    simp only [List.mem_cons, List.not_mem_nil, or_false] at hb
    rcases hb with rfl | rfl
    · exact ⟨_, he, fun v z => by cases z⟩
    · exact ⟨o, ho, fun v z => by rw [hd] at z; cases z⟩
  · obtain ⟨⟨old, he⟩, ⟨o, ho, hc, hd⟩, hne, hn⟩ := tn
    exact ⟨⟨old, hk e (by simp) _ he⟩, ⟨o, hk it (by simp) _ ho, hc, hd⟩, hne, hn⟩
  · subst hP
    subst hw
    subst hK
    obtain ⟨xs, x, hq, hx, hlen⟩ := go
    obtain ⟨its, rv, p, hz⟩ := I.tuple hq
    have p' : s.heap.IsTuple a its.toArray := p
    obtain ⟨⟨old, he⟩, hi, hne, hn⟩ := tn
    obtain ⟨h1, h2⟩ := ne_of he hi p' hne
    have W := WalksT.enumerateD (prog := X.prog) (w := X.w) (A := X.A) (Draws.tuple (A := X.A.in1) (I.ok.hd hcalm) it a h1 its.toArray) e hne h2 (by simp)
    have hl := rv.length
    have hlt := (List.getElem?_eq_some_iff.mp hx).1
    refine W.item i s _ E (by rw [List.size_toArray]; omega) ⟨⟨old, he⟩, hi, p'⟩ (fun T vals h' tk hv hT hTup hmid hk => ⟨_, rfl, ?_⟩)
    obtain ⟨t, x', hx', rfl⟩ := hv
    have hTw := W.apart _ _ _ hmid
    refine W.go elts kk tpos i T { s with heap := h', toks := tk } _ E hmid (fun h2 hst hk2 => ?_)
    obtain ⟨⟨old2, he2⟩, hi2, _⟩ := hst
    obtain ⟨x2, hx2, hr⟩ := vals_get rv (by simpa using hx')
    have ex : x2 = x := Option.some.inj (hx2.symm.trans hx)
    subst ex
    obtain ⟨oT, hoT, hcT, nT, hdT⟩ := hTup
    have hn0 : ∀ b ∈ [e, it], b ≠ T := fun b hb z => by
      refine absurd hT (Nat.not_le_of_lt ?_)
      rw [← z]
      simp only [List.mem_cons, List.not_mem_nil, or_false] at hb
      rcases hb with rfl | rfl
      · exact Heap.lt_size he
      · obtain ⟨o, ho, _⟩ := hi
        exact Heap.lt_size ho
    refine ⟨.ref T, upd H T (.tup [V.int (i : Int), x2]), I.turnedNew (ch := [e, it]) (fun b o hb eo => hk2 b o hb (hk b o hb eo)) hfp hT
      (show ObjOk X.prog X.w _ _ _ (.tup [V.int (i : Int), x2]) from ⟨by rw [sizeLine_eq]; simp, [.int (i : Int) t, x'], .cons ⟨t, rfl⟩ (.cons hr .nil), oT, hk2 _ _ hTw hoT, hcT, nT, hdT⟩), rfl, ⟨T, x2, rfl, I.hok.fresh hT, rfl, fun ys hys => by rw [I.tuple_inj hys hq]; exact hx⟩, ⟨⟨old2, he2⟩, hi2, hne, by omega⟩, fun b hb => ?_⟩
    rw [upd_ne (hn0 b hb)]
    exact (hfp b hb).1
  · subst hP
    subst hw
    subst hK
    obtain ⟨xs, hq, hlen, hle⟩ := st
    obtain ⟨its, rv, p, hz⟩ := I.tuple hq
    have p' : s.heap.IsTuple a its.toArray := p
    obtain ⟨⟨old, he⟩, hi, hne, hn⟩ := tn
    obtain ⟨h1, h2⟩ := ne_of he hi p' hne
    have W := WalksT.enumerateD (prog := X.prog) (w := X.w) (A := X.A) (Draws.tuple (A := X.A.in1) (I.ok.hd hcalm) it a h1 its.toArray) e hne h2 (by simp)
    have hl := rv.length
    have ei : i = its.toArray.size := by rw [List.size_toArray]; omega
    refine W.done s _ E ⟨⟨old, by rw [← ei]; exact he⟩, by rw [← ei]; exact hi, p'⟩ (fun h' tk hk => ⟨rfl, I.turnedL (ch := [e, it]) hk hfp⟩)
  · obtain ⟨⟨old, he⟩, _⟩ := tn
    exact wpAny_pyIter_enum he q
/-- enumerate(l), l a tuple -/
def iEnumT (K : PySem.W.Frag) (ta : TA) : TI := fun σ H R => ta σ H fun vs H1 => ∃ a xs, vs = [.ref a] ∧ SqT K H1 a xs ∧ R (IteT K a xs.length) H1
theorem pi_enumT {X : Cx} {e : Expr} {ta : TA} {p pos tpos : Pos} {elts : List Expr} {kk : Nat} (hcalm : X.calm = true) (hg : Gl X "enumerate") (hm : X.mg "enumerate" = none) (ha : PA X [e] ta)
    (he : starEach [e] X.env = (false, eval e X.env) :: starEach [] X.env := by rfl) : PI X (.Tuple elts kk tpos) (.Call (.Name "enumerate" p) [e] [] pos) (iEnumT X.K ta) := by
  refine ⟨fun pins s σ H R I h => ?_⟩
  refine wpAny_Call_Name_kw (ld_blt I hg hm (by decide +kernel : bootBuiltins "enumerate" = some (.type "enumerate")) (PyProof.Rows.callWith_type1 (thn (ha.run pos pins s σ H _ I h) fun us s1 ⟨vs, H1, I1, r, a, xs, ev, hq, q⟩ => ?_) he (by rfl)))
  subst ev
  cases r with
  | cons r t =>
    cases t
    cases r
    obtain ⟨its, rv, p', hz⟩ := I1.tuple hq
    refine call_enumerate_tup (show s1.heap.IsTuple a its.toArray from p') fun h' e1 hle hne hE hT hk => ?_
    have I2 : Inv X pins σ H1 { s1 with heap := h' } := I1.kept (t' := s1.toks) hk
    refine wpAny_pyIter_enum hE ⟨e1, [e1, s1.heap.objs.size], _, _, H1, rfl, I2, turn_enumT, ⟨⟨_, hE⟩, hT, hne, Nat.zero_le _⟩, fun b hb => ?_, q⟩
    simp only [List.mem_cons, List.not_mem_nil, or_false] at hb
    rcases hb with rfl | rfl
    · exact I1.fpOk hle (I1.hok.fresh hle)
    · exact I1.fpOk (Nat.le_refl _) (I1.hok.fresh (Nat.le_refl _))
/-- a walk that counts the things of a list or a tuple that stood in H0 -/
structure EnumW (J : It) (H0 : Hp) (xs : List V) : Prop where
  go : ∀ i H, EXT.Ext H0 H → i < xs.length → J.go i H
  stop : ∀ H, EXT.Ext H0 H → J.stop xs.length H
  yld : ∀ i H v H', EXT.Ext H0 H → J.yld i H v H' → ∃ T x, v = V.ref T ∧ H T = none ∧ H' = upd H T (.tup [V.int (i : Int), x]) ∧ xs[i]? = some x
theorem enumW_list {K : PySem.W.Frag} {H0 : Hp} {a : Addr} {xs : List V} (h : SqL K H0 a xs) : EnumW (Ite K a) H0 xs :=
  ⟨fun i H s hi => ⟨xs, _, s.seq h, List.getElem?_eq_getElem hi⟩, fun H s => ⟨xs, s.seq h, Nat.le_refl _⟩, fun i H v H' s ⟨T, x, e1, e2, e3, e4⟩ => ⟨T, x, e1, e2, e3, e4 xs (s.seq h)⟩⟩
theorem enumW_tup {K : PySem.W.Frag} {H0 : Hp} {a : Addr} {xs : List V} (h : SqT K H0 a xs) : EnumW (IteT K a xs.length) H0 xs :=
  ⟨fun i H s hi => ⟨xs, _, s.tup h, List.getElem?_eq_getElem hi, rfl⟩, fun H s => ⟨xs, s.tup h, rfl, Nat.le_refl _⟩, fun i H v H' s ⟨T, x, e1, e2, e3, e4⟩ => ⟨T, x, e1, e2, e3, e4 xs (s.tup h)⟩⟩
/-- enumerate(l), l a list or a tuple -/
def iEnumS (K : PySem.W.Frag) (ta : TA) : TI := fun σ H R => ta σ H fun vs H1 => ∃ a xs H0, vs = [.ref a] ∧ EXT.Ext H0 H1 ∧ (SqL K H0 a xs ∨ SqT K H0 a xs) ∧ ∀ J, EnumW J H0 xs → R J H1
theorem pi_enumS {X : Cx} {e : Expr} {ta : TA} {p pos tpos : Pos} {elts : List Expr} {kk : Nat} (hcalm : X.calm = true) (hg : Gl X "enumerate") (hm : X.mg "enumerate" = none) (ha : PA X [e] ta)
    (he : starEach [e] X.env = (false, eval e X.env) :: starEach [] X.env := by rfl) : PI X (.Tuple elts kk tpos) (.Call (.Name "enumerate" p) [e] [] pos) (iEnumS X.K ta) := by
  refine ⟨fun pins s σ H R I h => ?_⟩
  refine wpAny_Call_Name_kw (ld_blt I hg hm (by decide +kernel : bootBuiltins "enumerate" = some (.type "enumerate")) (PyProof.Rows.callWith_type1 (thn (ha.run pos pins s σ H _ I h) fun us s1 ⟨vs, H1, I1, r, a, xs, H0, ev, hE0, hq, q⟩ => ?_) he (by rfl)))
  subst ev
  cases r with
  | cons r t =>
    cases t
    cases r
    rcases hq with hq | hq
    · obtain ⟨its, rv, p', hz⟩ := I1.list (hE0.seq hq)
      refine call_enumerate_list p'.isList fun h' hE hT hsz hk => ?_
      have I2 : Inv X pins σ H1 { s1 with heap := h' } := I1.kept (t' := s1.toks) hk
      have hle : s1.heap.objs.size ≤ s1.heap.objs.size + 1 := Nat.le_succ _
      refine wpAny_pyIter_enum hE ⟨s1.heap.objs.size + 1, [s1.heap.objs.size + 1, s1.heap.objs.size], _, _, H1, rfl, I2, turn_enum a _ _, ⟨⟨_, hE⟩, hT, Nat.succ_ne_self _⟩, fun b hb => ?_, q _ (enumW_list hq)⟩
      simp only [List.mem_cons, List.not_mem_nil, or_false] at hb
      rcases hb with rfl | rfl
      · exact I1.fpOk hle (I1.hok.fresh hle)
      · exact I1.fpOk (Nat.le_refl _) (I1.hok.fresh (Nat.le_refl _))
    · obtain ⟨its, rv, p', hz⟩ := I1.tuple (hE0.tup hq)
      refine call_enumerate_tup (show s1.heap.IsTuple a its.toArray from p') fun h' e1 hle hne hE hT hk => ?_
      have I2 : Inv X pins σ H1 { s1 with heap := h' } := I1.kept (t' := s1.toks) hk
      refine wpAny_pyIter_enum hE ⟨e1, [e1, s1.heap.objs.size], _, _, H1, rfl, I2, turn_enumT, ⟨⟨_, hE⟩, hT, hne, Nat.zero_le _⟩, fun b hb => ?_, q _ (enumW_tup hq)⟩
      simp only [List.mem_cons, List.not_mem_nil, or_false] at hb
      rcases hb with rfl | rfl
      · exact I1.fpOk hle (I1.hok.fresh hle)
      · exact I1.fpOk (Nat.le_refl _) (I1.hok.fresh (Nat.le_refl _))
section
variable {J : It} {H0 : Hp} {xs : List V}
theorem w_enum {B : V → Hp → (Hp → Prop) → Prop} {Nx : Hp → Prop} {H1 : Hp} (w : EnumW J H0 xs) (Pv : Nat → Hp → Prop) (h0 : Pv 0 H1) (hl : ∀ i H, i ≤ xs.length → Pv i H → EXT.Ext H0 H)
    (hs : ∀ i x T H, xs[i]? = some x → Pv i H → H T = none → B (.ref T) (upd H T (.tup [V.int (i : Int), x])) (Pv (i + 1))) (hd : ∀ H, Pv xs.length H → Nx H) :
    ∃ W : Nat → Nat → Hp → Prop, (∃ m, W 0 m H1) ∧ ∀ i m H, W i m H → (J.stop i H ∧ Nx H) ∨ (J.go i H ∧ ∃ N : Hp → Prop, (∀ H', N H' → ∃ m', m' < m ∧ W (i + 1) m' H') ∧ ∀ x H', J.yld i H x H' → B x H' N) := by
  refine ⟨fun i m H => m = xs.length - i ∧ i ≤ xs.length ∧ Pv i H, ⟨xs.length, rfl, Nat.zero_le _, h0⟩, ?_⟩
  rintro i m H ⟨rfl, hi, p⟩
  have s := hl i H hi p
  by_cases hlt : i < xs.length
  · refine .inr ⟨w.go i H s hlt, Pv (i + 1), fun H' p' => ⟨_, by omega, rfl, hlt, p'⟩, fun v H' y => ?_⟩
    obtain ⟨T, x, rfl, hT, rfl, hx⟩ := w.yld i H v H' s y
    exact hs i x T H hx p hT
  · have e : i = xs.length := by omega
    subst e
    exact .inl ⟨w.stop H s, hd H p⟩
theorem for_enum {g : TG} {tb : TS} {D : Ends} {σ0 : St} {H1 : Hp} (w : EnumW J H0 xs) (Pv : Nat → St → Hp → Prop) (h0 : Pv 0 σ0 H1) (hl : ∀ i σ H, i ≤ xs.length → Pv i σ H → EXT.Ext H0 H)
    (hs : ∀ i x T σ H, xs[i]? = some x → Pv i σ H → H T = none → g (.ref T) σ (upd H T (.tup [V.int (i : Int), x])) fun σ2 H2 => tb { D with nx := Pv (i + 1), ct := Pv (i + 1), bk := D.nx } σ2 H2) (hd : ∀ σ H, Pv xs.length σ H → D.nx σ H) :
    ∃ W : Nat → Nat → St → Hp → Prop, (∃ m, W 0 m σ0 H1) ∧ ∀ i m σ H, W i m σ H →
      (J.stop i H ∧ D.nx σ H) ∨ (J.go i H ∧ ∃ N : St → Hp → Prop, (∀ σ' H', N σ' H' → ∃ m', m' < m ∧ W (i + 1) m' σ' H') ∧ ∀ x H', J.yld i H x H' → g x σ H' fun σ2 H2 => tb { D with nx := N, ct := N, bk := D.nx } σ2 H2) := by
  refine ⟨fun i m σ H => m = xs.length - i ∧ i ≤ xs.length ∧ Pv i σ H, ⟨xs.length, rfl, Nat.zero_le _, h0⟩, ?_⟩
  rintro i m σ H ⟨rfl, hi, p⟩
  have s := hl i σ H hi p
  by_cases hlt : i < xs.length
  · refine .inr ⟨w.go i H s hlt, Pv (i + 1), fun σ' H' p' => ⟨_, by omega, rfl, hlt, p'⟩, fun v H' y => ?_⟩
    obtain ⟨T, x, rfl, hT, rfl, hx⟩ := w.yld i H v H' s y
    exact hs i x T σ H hx p hT
  · have e : i = xs.length := by omega
    subst e
    exact .inl ⟨w.stop H s, hd σ H p⟩
end
/-- a walk over a list or a tuple that stood in H0 -/
structure SeqW (J : It) (H0 : Hp) (xs : List V) : Prop where
  go : ∀ i H, EXT.Ext H0 H → i < xs.length → J.go i H
  stop : ∀ H, EXT.Ext H0 H → J.stop xs.length H
  yld : ∀ i H v H', EXT.Ext H0 H → J.yld i H v H' → H' = H ∧ xs[i]? = some v
theorem seqW_list {K : PySem.W.Frag} {H : Hp} {a : Addr} {xs : List V} (h : SqL K H a xs) : SeqW (Itl K a) H xs := ⟨fun i H s hi => ⟨xs, _, s.seq h, List.getElem?_eq_getElem hi⟩, fun H s => ⟨xs, s.seq h, Nat.le_refl _⟩, fun i H v H' s y => ⟨y.1, y.2 xs (s.seq h)⟩⟩
theorem seqW_tup {K : PySem.W.Frag} {H : Hp} {a : Addr} {xs : List V} (h : SqT K H a xs) : SeqW (Itt K a) H xs := ⟨fun i H s hi => ⟨xs, _, s.tup h, List.getElem?_eq_getElem hi⟩, fun H s => ⟨xs, s.tup h, Nat.le_refl _⟩, fun i H v H' s y => ⟨y.1, y.2 xs (s.tup h)⟩⟩
/-- a list or a tuple, walked alike -/
def iSeqW (K : PySem.W.Frag) (tl : TE) : TI := fun σ H R => tl σ H fun x H1 => ∃ a xs H0, x = .ref a ∧ EXT.Ext H0 H1 ∧ (SqL K H0 a xs ∨ SqT K H0 a xs) ∧ ∀ J, SeqW J H0 xs → R J H1
theorem pi_seqW {X : Cx} {tg l : Expr} {tl : TE} (hl : PE X l tl) : PI X tg l (iSeqW X.K tl) := by
  refine ⟨fun pins s σ H R I h => ?_⟩
  refine thn (hl.run pins s σ H _ I h) fun v s1 ⟨x, H1, I1, r1, a, xs, H0, e, hE0, hq, q⟩ => ?_
  subst e
  cases r1
  rcases hq with hq | hq
  · obtain ⟨its, rv, p, hz⟩ := I1.list (hE0.seq hq)
    refine wpAny_pyIter_list p.isList ⟨s1.heap.objs.size, [s1.heap.objs.size], _, _, H1, rfl, I1.kept (t' := s1.toks) fun b o e => Heap.get?_push_of_some _ e, turn_list a _, ⟨_, Heap.get?_push_size _ rfl, rfl, rfl⟩, fun b hb => ?_, q _ (seqW_list hq)⟩
    obtain rfl : b = s1.heap.objs.size := by simpa using hb
    exact I1.fpOk (Nat.le_refl _) (I1.hok.fresh (Nat.le_refl _))
  · obtain ⟨its, rv, p, hz⟩ := I1.tuple (hE0.tup hq)
    refine wpAny_pyIter_tuple (show s1.heap.IsTuple a its.toArray from p) ⟨s1.heap.objs.size, [s1.heap.objs.size], _, _, H1, rfl, I1.kept (t' := s1.toks) fun b o e => Heap.get?_push_of_some _ e, turn_tuple a _, ⟨_, Heap.get?_push_size _ rfl, rfl, rfl⟩, fun b hb => ?_, q _ (seqW_tup hq)⟩
    obtain rfl : b = s1.heap.objs.size := by simpa using hb
    exact I1.fpOk (Nat.le_refl _) (I1.hok.fresh (Nat.le_refl _))
theorem w_seq {J : It} {H0 : Hp} {xs : List V} {B : V → Hp → (Hp → Prop) → Prop} {Nx : Hp → Prop} {H1 : Hp} (w : SeqW J H0 xs) (Pv : Nat → Hp → Prop) (h0 : Pv 0 H1) (hl : ∀ i H, i ≤ xs.length → Pv i H → EXT.Ext H0 H)
    (hs : ∀ i x H, xs[i]? = some x → Pv i H → B x H (Pv (i + 1))) (hd : ∀ H, Pv xs.length H → Nx H) :
    ∃ W : Nat → Nat → Hp → Prop, (∃ m, W 0 m H1) ∧ ∀ i m H, W i m H → (J.stop i H ∧ Nx H) ∨ (J.go i H ∧ ∃ N : Hp → Prop, (∀ H', N H' → ∃ m', m' < m ∧ W (i + 1) m' H') ∧ ∀ x H', J.yld i H x H' → B x H' N) := by
  refine ⟨fun i m H => m = xs.length - i ∧ i ≤ xs.length ∧ Pv i H, ⟨xs.length, rfl, Nat.zero_le _, h0⟩, ?_⟩
  rintro i m H ⟨rfl, hi, p⟩
  have s := hl i H hi p
  by_cases hlt : i < xs.length
  · refine .inr ⟨w.go i H s hlt, Pv (i + 1), fun H' p' => ⟨_, by omega, rfl, hlt, p'⟩, fun v H' y => ?_⟩
    obtain ⟨rfl, hx⟩ := w.yld i H v H' s y
    exact hs i v _ hx p
  · have e : i = xs.length := by omega
    subst e
    exact .inl ⟨w.stop H s, hd H p⟩
end L2
/-! ### o[i] of a list, by values; sorted of a tuple of ints -/
namespace AUG
open PySem PySem.Spec PyProof.Rows L2
section
variable {X : Cx}
def rGetL (K : PySem.W.Frag) : V → V → Hp → VK → Prop := fun x y H Q => ∃ p xs i v, x = .ref p ∧ y = .int i ∧ 0 ≤ i ∧ SqL K H p xs ∧ xs[i.toNat]? = some v ∧ Q v H
theorem get_list : PGet X (rGetL X.K) := by
  intro pins s σ H x y v u Q I rx ry h
  obtain ⟨p, xs, i, z, rfl, rfl, h0, hq, he, q⟩ := h
  cases rx
  obtain ⟨t, rfl⟩ := ry
  obtain ⟨its, r, pl, hz⟩ := I.list hq
  obtain ⟨w, ew, rw'⟩ := r.get he
  have hl := r.length
  have hn := line63
  have hlt := (List.getElem?_eq_some_iff.mp he).1
  exact wpAny_getItem_list pl.isList h0 (by omega) (by simpa using ew) ⟨z, H, I, rw', q⟩
theorem sorted_tup {prog : Program} {w : World} {A : Around} {E : Value → Shared → Prop} {s : Shared} {t : Addr} {vs : List Value} {ns : List Int} {Q : Value → Shared → Prop} (ht : IsTup s.heap t vs.toArray) (hI : IntsAre vs ns) (h64 : vs.length < 64)
    (h : ∀ (h1 h' : Heap) (e : Nat) (out : Array Value) (ns' : List Int), (∀ b o, s.heap.get? b = some o → h1.get? b = some o) → (∀ b o, h1.get? b = some o → h'.get? b = some o) → h'.get? h1.objs.size = some (seqObj "list" out e) → IntsAre out.toList ns' → ns'.Perm ns → ns'.Pairwise (· ≤ ·) → Q (.ref h1.objs.size) { s with heap := h' }) :
    wpAny (model prog w) A (call (.builtin "sorted") [.ref t]) Q E s := by
  obtain ⟨o, ho, hc, n, hd⟩ := ht
  have hz : vs.length ≤ sizeLine := by rw [sizeLine_eq]; omega
  refine Calls.call_function_entry kind_sorted plain_sorted entry_sorted (args_sorted1 _) ?_
  unfold Builtin.«sorted»
  refine wpAny_bind (m := checkCount "sorted" 1 1 _) (wpAny_pure ?_)
  refine wpAny_bind (wpAny_collect_seq (T := "tuple") t (.inr rfl) ho hc hd (fun h1 k1 => ?_) (by simpa using hz))
  show wpAny _ _ _ _ _ _
  have e0 : vs.toArray.toList = vs := rfl
  rw [e0]
  refine wpAny_bind (wpAny_newList (s := { s with heap := h1 }) ?_ hz)
  have hoL : (h1.push (seqObj "list" vs.toArray 0)).get? h1.objs.size = some (seqObj "list" vs.toArray 0) := Heap.get?_push_size _ rfl
  show wpAny _ _ _ _ _ { s with heap := h1.push (seqObj "list" vs.toArray 0) }
  refine wpAny_bind (wpAny_holding (wpAny_call_entry slot_list_sort ⟨_, hoL, rfl⟩ entry_list_sort (list_sort_tree (s := { s with heap := h1.push (seqObj "list" vs.toArray 0) }) hoL hI h64 fun out ns' a1 a2 a3 => ⟨_, rfl, ?_⟩) (args_list_sort _)))
  obtain ⟨e, he⟩ := sortedHeap_at (out := out) hoL
  refine wpAny_pure ⟨_, rfl, h h1 _ e out ns' k1 (fun b o hb1 => ?_) he a1 a2 a3⟩
  have hlt := Heap.lt_size hb1
  rw [sortedHeap_old (Nat.ne_of_lt hlt) (by rw [size_push']; exact Nat.lt_succ_of_lt hlt)]
  exact Heap.get?_push_of_some _ hb1
/-- sorted(t), ints -/
def rSortedTu (K : PySem.W.Frag) : List V → Hp → VK → Prop := fun vs H Q => ∃ (a : Addr) (ns : List Int), vs = [V.ref a] ∧ SqT K H a (ns.map V.int) ∧ ns.length < 64 ∧
  ∀ (ns' : List Int) (p : Addr), ns'.Perm ns → ns'.Pairwise (· ≤ ·) → H p = none → Q (.ref p) (upd H p (.lst (ns'.map V.int)))
theorem cr_sortedTu : CallR X (.builtin "sorted") (rSortedTu X.K) := by
  intro pins s σ H vs us Q I r h
  obtain ⟨a, ns, rfl, hs, h64, q⟩ := h
  obtain ⟨its, rv, ht, _⟩ := I.tuple hs
  rw [Vals.ref1 r]
  have hi := rv.ints
  refine sorted_tup ht hi (by rw [hi.length]; exact h64) fun g h' e out ns' k1 kp he h1 h2 h3 => ?_
  have hlen : (ns'.map V.int).length ≤ sizeLine := by rw [List.length_map, h2.length_eq]; exact small64 h64
  have I1 : Inv X pins σ H { s with heap := g } := I.kept (t' := s.toks) k1
  exact ⟨.ref _, upd H g.objs.size (.lst (ns'.map V.int)), I1.laid (t' := s.toks) kp (Nat.le_refl _) ⟨hlen, out.toList, e, vals_of_ints h1, he⟩, rfl, q ns' _ h2 h3 (I1.hok.fresh (Nat.le_refl _))⟩
/-- an int's truth -/
theorem tru_int : TruR X (fun x H Q => ∃ i : Int, x = .int i ∧ Q (i != 0) H) := by
  intro pins s σ H x v Q I rx h
  obtain ⟨i, rfl, q⟩ := h
  exact tru_ok pins s σ H (.int i) v Q I rx ⟨_, rfl, q⟩
def tTruI (ta : TE) : TT := fun σ H Q => ta σ H fun x H' => ∃ i : Int, x = .int i ∧ Q (i != 0) H'
theorem pt_truthI {a : Expr} {ta : TE} (ha : PE X a ta) (he : ∀ whole, isTrue a X.env whole = (do let v ← whole; standAt a.pos; holding [v] (truthy v))) : PT X a (tTruI ta) :=
  ⟨fun pins s σ H Q I h => isTrue_plain (thn (ha.run pins s σ H _ I h) fun v s1 ⟨x, H1, I1, r1, q1⟩ => tru_int pins s1 σ H1 x v Q I1 r1 q1) (he _)⟩
end
end AUG
/-! ### a tuple times a number from 0 on; enumerate in a generator expression -/
namespace L2
open PySem PySem.Spec PyProof.Rows
theorem tuple_mul1 (l : Addr) (items : Array Value) (n : Nat) (dd : Option Addr) (sl : Array (Option Value)) (u : Tok) :
    Meets (Builtin.«tuple.__mul__» ⟨[.ref l, .int 1 u], []⟩) (fun _ R s => s.heap.get? l = some { cls := .type "tuple", dict := dd, data := .seq items n, slots := sl } ∧ R (.ok (.ret (Value.ref l))) s) :=
  .of_wp fun prog w A R s h => by
    obtain ⟨hp, g, d, tk, os⟩ := s
    obtain ⟨hl, h⟩ := h
    have f1 := AutoSeq1.idx_int
    wp_walk using wpAny_loadPart' hl
    exact ⟨_, rfl, h⟩
theorem tuple_mul0 (l : Addr) (items : Array Value) (n : Nat) (dd : Option Addr) (sl : Array (Option Value)) (u : Tok) (hne : items.isEmpty = false) :
    Meets (Builtin.«tuple.__mul__» ⟨[.ref l, .int 0 u], []⟩) (fun _ R s => s.heap.get? l = some { cls := .type "tuple", dict := dd, data := .seq items n, slots := sl } ∧
      R (.ok (.ret (Value.ref s.heap.objs.size))) { s with heap := s.heap.push { cls := Value.type "tuple", data := Data.seq #[] }, toks := s.toks }) :=
  .of_wp fun prog w A R s h => by
    obtain ⟨hp, g, d, tk, os⟩ := s
    obtain ⟨hl, h⟩ := h
    have f1 := AutoSeq1.idx_int
    wp_walk using wpAny_loadPart' hl
    exact ⟨_, rfl, h⟩
/-- t * k, t a tuple that is not (): t itself for 1 -/
def rRepA (K : PySem.W.Frag) : R2 := fun x y H Q => ∃ l k xs, x = .ref l ∧ y = .int k ∧ SqT K H l xs ∧ xs ≠ [] ∧ 0 ≤ k ∧ k ≤ 1000 ∧ xs.length ≤ 1000 ∧ (k = 1 → Q (.ref l) H) ∧ (k ≠ 1 → ∀ p, H p = none → Q (.ref p) (upd H p (.tup (List.replicate k.toNat xs).flatten)))
theorem op_repA {X : Cx} : OpR X (binaryOp .Mult) (rRepA X.K) := by
  intro pins s σ H x y v u Q I rx ry h
  obtain ⟨l, k, xs, rfl, rfl, hT, hne, h0, h2, hz, q1, q2⟩ := h
  by_cases k2 : 2 ≤ k
  · exact op_repT pins s σ H _ _ v u Q I rx ry ⟨l, k, xs, rfl, rfl, hT, hne, k2, h2, hz, q2 (by omega)⟩
  cases rx
  obtain ⟨t, rfl⟩ := ry
  obtain ⟨its, r, ⟨⟨cls, dd, data, sl⟩, ho, hc, n, hd⟩, hs⟩ := I.tuple hT
  simp only at hc hd
  subst hc hd
  have hle : its.length = xs.length := r.length.symm
  have hn : its ≠ [] := fun e => hne (by
    rw [e] at hle
    exact List.eq_nil_of_length_eq_zero hle.symm)
  have hi : its.toArray.isEmpty = false := by
    cases its with
    | nil => exact absurd rfl hn
    | cons a b => rfl
  by_cases k1 : k = 1
  · subst k1
    exact wpAny_binaryOp_repeat_ref (T := "tuple") (U := "int") (by decide) ⟨_, ho, rfl⟩ (fun s' => typeIs_int s' 1 t) noFill_tuple_mul F.fills_int_mul F.slot_int_rmul repeat_tuple F.slot_int_index.lookup
      (call_meets F.slot_int_rmul (typeIs_int s 1 t) F.entry_int_rmul (F.args_int_rmul_2 _ _) (int_rmul_tuple 1 t l its.toArray n dd sl)
        ⟨ho, rfl, ⟨_, ho, rfl⟩, call_meets F.slot_tuple_mul ⟨_, ho, rfl⟩ F.entry_tuple_mul (F.args_tuple_mul_2 _ _) (tuple_mul1 l its.toArray n dd sl t) ⟨ho, ⟨.ref l, H, I, rfl, q1 rfl⟩⟩⟩)
  · obtain rfl : k = 0 := by omega
    refine wpAny_binaryOp_repeat_ref (T := "tuple") (U := "int") (by decide) ⟨_, ho, rfl⟩ (fun s' => typeIs_int s' 0 t) noFill_tuple_mul F.fills_int_mul F.slot_int_rmul repeat_tuple F.slot_int_index.lookup
      (call_meets F.slot_int_rmul (typeIs_int s 0 t) F.entry_int_rmul (F.args_int_rmul_2 _ _) (int_rmul_tuple 0 t l its.toArray n dd sl)
        ⟨ho, rfl, ⟨_, ho, rfl⟩, call_meets F.slot_tuple_mul ⟨_, ho, rfl⟩ F.entry_tuple_mul (F.args_tuple_mul_2 _ _) (tuple_mul0 l its.toArray n dd sl t hi) ⟨ho, ?_⟩⟩)
    refine ⟨.ref s.heap.objs.size, _, I.laid (t' := s.toks) (o := .tup []) (fun b ob q => Heap.get?_push_of_some _ q) (Nat.le_refl _) ?_, rfl, q2 (by decide) _ (I.hok.fresh (Nat.le_refl _))⟩
    exact ⟨Nat.zero_le _, [], .nil, IsTup.new _ _⟩
end L2
namespace GXP
open PySem PySem.Spec PyProof.Rows L2
section
variable {J : It} {H0 : Hp} {xs : List V} {g : TG} {tt : TT} {te : TE} {vs : List Nat} {σ : L2.St} {cy : Cy} {Qe : List V → Hp → Prop} {H1 : Hp}
theorem gx_enum (w : EnumW J H0 xs) (Pv : Nat → List V → Hp → Prop) (h0 : Pv 0 [] H1) (hl : ∀ i ys H, i ≤ xs.length → Pv i ys H → EXT.Ext H0 H)
    (hs : ∀ i x T ys H, xs[i]? = some x → Pv i ys H → H T = none → g (.ref T) (wipe σ vs) (upd H T (.tup [V.int (i : Int), x])) fun σ2 H2 => wipe σ2 vs = wipe σ vs ∧ tt σ2 H2 fun b H3 => if b = true then te σ2 H3 fun y H4 => cy ys y H4 (Pv (i + 1)) else Pv (i + 1) ys H3)
    (hd : ∀ ys H, Pv xs.length ys H → Qe ys H) : ∃ W m, W 0 m [] H1 ∧ Turns J g tt te vs σ cy Qe W := by
  refine ⟨fun i m ys H => m = xs.length - i ∧ i ≤ xs.length ∧ Pv i ys H, xs.length, ⟨rfl, Nat.zero_le _, h0⟩, ?_⟩
  rintro i m ys H ⟨rfl, hi, p⟩
  have s := hl i ys H hi p
  by_cases hlt : i < xs.length
  · refine .inr ⟨w.go i H s hlt, by omega, Pv (i + 1), fun ys' H' p' => ⟨_, by omega, rfl, hlt, p'⟩, fun v H' y => ?_⟩
    obtain ⟨T, x, rfl, hT, rfl, hx⟩ := w.yld i H v H' s y
    exact hs i x T ys H hx p hT
  · have e : i = xs.length := by omega
    subst e
    exact .inl ⟨w.stop H s, hd ys H p⟩
end
end GXP
/-! ### a locked dict walked by its keys -/
namespace L2
open PySem PySem.Spec PyProof.Rows
section
variable {d : Addr} {o : Obj} {H0 : Hp}
theorem for_keysK {kvs : List (Key × V)} {g : TG} {tb : TS} {D : Ends} {σ0 : St} (Pv : Nat → St → Hp → Prop) (h0 : Pv 0 σ0 H0) (hl : ∀ i σ H, i ≤ kvs.length → Pv i σ H → H d = some (.frz o (.dK kvs)))
    (hs : ∀ i k v σ H, kvs[i]? = some (k, v) → Pv i σ H → g (kV k) σ H fun σ2 H2 => tb { D with nx := Pv (i + 1), ct := Pv (i + 1), bk := D.nx } σ2 H2) (hd : ∀ σ H, Pv kvs.length σ H → D.nx σ H) :
    ∃ W : Nat → Nat → St → Hp → Prop, (∃ m, W 0 m σ0 H0) ∧ ∀ i m σ H, W i m σ H →
      ((Itk d o kvs).stop i H ∧ D.nx σ H) ∨ ((Itk d o kvs).go i H ∧ ∃ N : St → Hp → Prop, (∀ σ' H', N σ' H' → ∃ m', m' < m ∧ W (i + 1) m' σ' H') ∧ ∀ x H', (Itk d o kvs).yld i H x H' → g x σ H' fun σ2 H2 => tb { D with nx := N, ct := N, bk := D.nx } σ2 H2) := by
  refine ⟨fun i m σ H => m = kvs.length - i ∧ i ≤ kvs.length ∧ Pv i σ H, ⟨_, rfl, Nat.zero_le _, h0⟩, ?_⟩
  rintro i m σ H ⟨rfl, hi, p⟩
  have q := hl i σ H hi p
  by_cases hlt : i < kvs.length
  · refine .inr ⟨⟨q, hlt⟩, Pv (i + 1), fun σ' H' p' => ⟨_, by omega, rfl, hlt, p'⟩, fun x H' y => ?_⟩
    obtain ⟨rfl, k, v, e, rfl⟩ := y
    exact hs i k v σ _ e p
  · have e : i = kvs.length := by omega
    subst e
    exact .inl ⟨⟨q, Nat.le_refl _⟩, hd σ H p⟩
theorem for_keysT {kvs : List (List Key × V)} {g : TG} {tb : TS} {D : Ends} {σ0 : St} (Pv : Nat → St → Hp → Prop) (h0 : Pv 0 σ0 H0) (hl : ∀ i σ H, i ≤ kvs.length → Pv i σ H → H d = some (.frz o (.dT kvs)))
    (hs : ∀ i k v q σ H, kvs[i]? = some (k, v) → H q = some (.tup (k.map kV)) → Pv i σ H → g (.ref q) σ H fun σ2 H2 => tb { D with nx := Pv (i + 1), ct := Pv (i + 1), bk := D.nx } σ2 H2) (hd : ∀ σ H, Pv kvs.length σ H → D.nx σ H) :
    ∃ W : Nat → Nat → St → Hp → Prop, (∃ m, W 0 m σ0 H0) ∧ ∀ i m σ H, W i m σ H →
      ((Itkt d o kvs).stop i H ∧ D.nx σ H) ∨ ((Itkt d o kvs).go i H ∧ ∃ N : St → Hp → Prop, (∀ σ' H', N σ' H' → ∃ m', m' < m ∧ W (i + 1) m' σ' H') ∧ ∀ x H', (Itkt d o kvs).yld i H x H' → g x σ H' fun σ2 H2 => tb { D with nx := N, ct := N, bk := D.nx } σ2 H2) := by
  refine ⟨fun i m σ H => m = kvs.length - i ∧ i ≤ kvs.length ∧ Pv i σ H, ⟨_, rfl, Nat.zero_le _, h0⟩, ?_⟩
  rintro i m σ H ⟨rfl, hi, p⟩
  have q := hl i σ H hi p
  by_cases hlt : i < kvs.length
  · refine .inr ⟨⟨q, hlt⟩, Pv (i + 1), fun σ' H' p' => ⟨_, by omega, rfl, hlt, p'⟩, fun x H' y => ?_⟩
    obtain ⟨rfl, k, v, q2, e, rfl, ht⟩ := y
    exact hs i k v q2 σ _ e ht p
  · have e : i = kvs.length := by omega
    subst e
    exact .inl ⟨⟨q, Nat.le_refl _⟩, hd σ H p⟩
theorem w_keysK {kvs : List (Key × V)} {B : V → Hp → (Hp → Prop) → Prop} {Nx : Hp → Prop} (Pv : Nat → Hp → Prop) (h0 : Pv 0 H0) (hl : ∀ i H, i ≤ kvs.length → Pv i H → H d = some (.frz o (.dK kvs)))
    (hs : ∀ i k v H, kvs[i]? = some (k, v) → Pv i H → B (kV k) H (Pv (i + 1))) (hd : ∀ H, Pv kvs.length H → Nx H) :
    ∃ W : Nat → Nat → Hp → Prop, (∃ m, W 0 m H0) ∧ ∀ i m H, W i m H → ((Itk d o kvs).stop i H ∧ Nx H) ∨ ((Itk d o kvs).go i H ∧ ∃ N : Hp → Prop, (∀ H', N H' → ∃ m', m' < m ∧ W (i + 1) m' H') ∧ ∀ x H', (Itk d o kvs).yld i H x H' → B x H' N) := by
  refine ⟨fun i m H => m = kvs.length - i ∧ i ≤ kvs.length ∧ Pv i H, ⟨_, rfl, Nat.zero_le _, h0⟩, ?_⟩
  rintro i m H ⟨rfl, hi, p⟩
  have q := hl i H hi p
  by_cases hlt : i < kvs.length
  · refine .inr ⟨⟨q, hlt⟩, Pv (i + 1), fun H' p' => ⟨_, by omega, rfl, hlt, p'⟩, fun x H' y => ?_⟩
    obtain ⟨rfl, k, v, e, rfl⟩ := y
    exact hs i k v _ e p
  · have e : i = kvs.length := by omega
    subst e
    exact .inl ⟨⟨q, Nat.le_refl _⟩, hd H p⟩
end
end L2
/-! ### a dict display with one tuple for its key -/
namespace L2
open PySem PySem.Spec PyProof.Rows
/-- {k: v}, k a tuple of ints and texts; the new dict stands empty while both are made -/
def tDispT (tk tv : TE) : TE := fun σ H Q => ∀ p, H p = none → tk σ (upd H p (.dT [])) fun x H1 => tv σ H1 fun y H2 => H2 p = some (.dT []) ∧ ∃ (b : Addr) (ks : List Key), x = .ref b ∧ H2 b = some (.tup (ks.map kV)) ∧ Q (.ref p) (upd H2 p (.dT [(ks, y)]))
theorem pe_dispT {X : Cx} {pos : Pos} {k v : Expr} {tk tv : TE} (hu : X.A.units + 1 < cLine) (hk : PE X k tk) (hv : PE X v tv) : PE X (.Dict [some k] [v] pos) (tDispT tk tv) := by
  refine ⟨fun pins s σ H Q I q => ?_⟩
  have hn := I.hok.fresh (Nat.le_refl s.heap.objs.size)
  have I1 := I.laid (a := s.heap.objs.size) (o := .dT []) (h' := s.heap.push { cls := .type "dict", data := .dict #[] }) (t' := s.toks) (fun _ _ q => Heap.get?_push_of_some _ q) (Nat.le_refl _) (dt_empty s.heap I.big)
  rw [arm_eval_Dict, zip_pairTrees [some k] [v] X.env pos rfl rfl, dictDisplay_pairs _ (by simp [pairTrees]) (by simp [pairTrees])]
  refine wpAny_bind (wpAny_standAt (wpAny_bind (wpAny_subDictH (knd := tupleKind (mixKind X.prog X.w)) (Q := fun d s' => wpAny (model X.prog X.w) X.A (pure (Value.ref d)) (EP X pins σ Q) X.xe s') (show X.A.units < cLine from Nat.lt_of_succ_lt hu) (by simp [pairTrees]) ?_)))
  refine pairTrees_cons_walk (thn (hk.run pins _ σ _ _ I1 (q _ hn)) fun u s1 ⟨x, H1, J1, rx, q1⟩ => thn (hv.run pins s1 σ H1 _ J1 q1) fun w2 s2 ⟨y, H2, I2, ry, e, b, ks, ex, eb, q2⟩ => pairTrees_nil_walk ?_)
  subst ex
  cases rx
  obtain ⟨z, hd, xs0, r0, dd⟩ := dt_of I2.hok e
  cases r0
  refine ⟨[(ks, b, w2)], ⟨rfl, rfl, key_of I2.hok eb, trivial⟩, dd, fun h' tk dd' hs => wpAny_pure ⟨.ref s.heap.objs.size, _, ?_, rfl, q2⟩⟩
  have dd' : h'.DictOfH (tupleKind (mixKind X.prog X.w)) s.heap.objs.size (storedH [] ks b w2) := dd'
  obtain ⟨q3, es, ep, hq, h2, h3, h4, _, h5⟩ := dd'
  have rel : KT H2 (putK [] ks y) (storedH [] ks b w2) := KT.put (.nil) ks eb ry
  refine d_write I2 (by rw [e]; exact True.intro) hs ⟨q3, hq⟩ ⟨by rw [sizeLine_eq]; simp, hd, _, rel.keeps fun c ys ec => ?_, q3, es, ep, hq, h2, h3, h4, h5⟩
  rw [upd_ne (ne_of ec e (fun z => nomatch z))]
  exact ec
end L2
/-! ### math.lcm of two ints, wide ones too -/
namespace LCM
open PySem PySem.Spec PyProof.Rows L2
def rLcm : List V → Hp → VK → Prop := fun vs H Q => ∃ a b : Int, vs = [.int a, .int b] ∧ a.natAbs < 2 ^ 1900 ∧ b.natAbs < 2 ^ 1900 ∧ Q (.int ((Nat.lcm a.natAbs b.natAbs : Nat) : Int)) H
theorem log_le {n k : Nat} (h : n < 2 ^ (k + 1)) : n.log2 ≤ k := PySem.W.mg_log h
theorem cr_lcm {X : Cx} : CallR X (.builtin "math.lcm") rLcm := by
  intro pins s σ H vs us Q I r h
  obtain ⟨a, b, rfl, ha, hb, q⟩ := h
  obtain ⟨t, u, rfl⟩ := Vals.int2 r
  have e : (Nat.lcm 1 a.natAbs).lcm b.natAbs = Nat.lcm a.natAbs b.natAbs := by rw [Nat.lcm_one_left]
  have p1900 : 1 < 2 ^ 1900 := Nat.lt_of_lt_of_le (show 1 < 2 ^ 1 by decide) (Nat.pow_le_pow_right (by decide) (by decide))
  have h1 : (max 1 a.natAbs).log2 ≤ 1899 := log_le (Nat.max_lt.mpr ⟨p1900, ha⟩)
  have h2 : (max a.natAbs b.natAbs).log2 ≤ 1899 := log_le (Nat.max_lt.mpr ⟨ha, hb⟩)
  have hl : (Nat.lcm a.natAbs b.natAbs) < 2 ^ (3799 + 1) := by
    refine Nat.lt_of_le_of_lt (Nat.div_le_self _ _) ?_
    rw [show 3799 + 1 = 1900 + 1900 from rfl, Nat.pow_add]
    exact Nat.mul_lt_mul'' ha hb
  have h3 := log_le hl
  have hsz : ((((Nat.lcm 1 a.natAbs).lcm b.natAbs : Nat) : Int)).natAbs.log2 < bitsLine := by
    rw [e, Int.natAbs_natCast]
    refine Nat.lt_of_le_of_lt h3 ?_
    decide
  have g := PySem.W.mg_run_lcm a t b u (by omega) (by omega) hsz
  rw [e] at g
  exact call_function_meets PySem.W.MGF.kind_lcm PySem.W.MGF.plain_lcm PySem.W.MGF.entry_lcm (PySem.W.MGF.args_lcm _ _) g.meets ⟨.int _, H, I.tok _, ⟨_, rfl⟩, q⟩
end LCM
/-! ### tuples whose object is known, and dict of such a tuple of pairs -/
namespace DTT
open PySem PySem.Spec PyProof.Rows L2 GXP
/-- a tuple of no subclass, with no dict of its own -/
def PlO (o : Obj) : Prop := o.cls = .type "tuple" ∧ o.dict = none
section
variable {X : Cx} {pins : List (Addr × Obj)} {σ : L2.St} {a : Addr} {m : Nat} {s : Shared} {E : Value → Shared → Prop}
theorem call_tuple_gxF (hr : Room 1 X.A) (hf : X.A.frames = some X.stack) {Q : VK} (hG : GReady X pins σ m cyT (fun ys H => ∀ p o, H p = none → PlO o → Q (.ref p) (upd H p (.frz o (.tup ys)))) a s) :
    wpAny (model X.prog X.w) X.A (call (.type "tuple") [.ref a]) (EP X pins σ Q) E s := by
  obtain ⟨g, go, sg, Hg, fp, ce, M, I0, ha, lim, ready⟩ := id hG.ex
  have hTI : s.TypeIs (.ref a) "generator" := (M.isGen _ ha).typeIs
  refine callType_codes (Q₁ := fun obj s1 => s1.TypeIs obj "tuple" ∧ EP X pins σ Q obj s1) F.called_tuple (F.typeCall_tuple_1 _) F.entry_object_init (codeAny_of_tree ?_) fun obj s1 h1 =>
    ⟨h1.1, F.args_object_init_2 obj _, object_init_meets F.called_tuple.init.lookup F.called_tuple.made (by decide) X.prog X.w X.A.in1 _ s1 ⟨h1.1, rfl, h1.2⟩⟩
  show wpAny _ X.A.in1.in1 (do checkBuiltinCall "tuple.__new__" ⟨[.type "tuple", .ref a], []⟩; again (.builtin "tuple.__new__" ⟨[.type "tuple", .ref a], []⟩)) _ _ s
  refine wpAny_bind (wpAny_of_eq (F.newCall_tuple_1 _) (wpAny_pure ⟨plainId_quiet F.plain_tuple_new _, codeAny_builtin F.entry_tuple_new ?_⟩))
  rw [Around.under_plainId F.plain_tuple_new]
  have hsub := sub_tuple_self
  have hinit := init_tuple_lookup
  have hmh := madeHere_tuple
  have hr1 := hr.dp
  have hr2 := hr.hd
  have col := fun (Q : List Value → Shared → Prop) (E : Value → Shared → Prop) hQ => gx_collect (A := X.A.in1.in1) (E := E) (Q := Q) hG hr2 hf (Nat.le_succ _) (by show X.A.units + 1 + 1 + 2 ≤ _; omega) (by show X.A.depth < _; omega) hQ
  wp_walk using wpAny_typeOf hTI, col
  intro items s' ys H I' r' z' q'
  show wpAny _ _ (Builtin.Tuple.tupleExact items.toArray >>= fun v => ret v) _ _ _
  unfold Builtin.Tuple.tupleExact
  refine wpAny_bind (wpAny_newObj_type (wpAny_pure ?_) ?_)
  · have hn : H s'.heap.objs.size = none := I'.hok.fresh (Nat.le_refl _)
    refine ⟨⟨_, Heap.get?_push_size _ rfl, rfl⟩, .ref s'.heap.objs.size, _, I'.laid (t' := s'.toks) (o := .frz _ (.tup ys)) (fun b o e => Heap.get?_push_of_some _ e) (Nat.le_refl _) ⟨Heap.get?_push_size _ rfl, z', items, r', ⟨_, Heap.get?_push_size _ rfl, rfl, 0, rfl⟩⟩, rfl, q' _ _ hn ⟨rfl, rfl⟩⟩
  · show items.toArray.size ≤ sizeLine
    rw [List.size_toArray, ← r'.length]
    exact z'
end
section
variable {X : Cx}
theorem pe_tupleGxF {k : Nat} {c P : Addr} {elt tg iter : Expr} {ifs : List Expr} {scope : Scope} {own : List (Str × Nat)} {wi : TI} {g : TG} {tt : TT} {te : TE} {p pos gpos : Pos} (hg : Gl X "tuple") (hm : X.mg "tuple" = none) (G : GxOk X k c P elt tg iter ifs scope own wi g tt te)
    (he : starEach [gxE elt tg iter ifs scope gpos] X.env = (false, eval (gxE elt tg iter ifs scope gpos) X.env) :: starEach [] X.env := by rfl) :
    PE X (.Call (.Name "tuple" p) [gxE elt tg iter ifs scope gpos] [] pos) (tGx P wi g tt te (own.map (·.2)) (fun _ => cyT) fun Q ys H => ∀ p o, H p = none → PlO o → Q (.ref p) (upd H p (.frz o (.tup ys)))) := by
  refine ⟨fun pins s σ H Q I h => ?_⟩
  refine wpAny_Call_Name_kw (ld_blt I hg hm (by decide +kernel : bootBuiltins "tuple" = some (.type "tuple")) (PyProof.Rows.callWith_type1 ?_ he (by rfl)))
  rw [he]
  show wpAny _ _ (spliced ((false, eval (gxE elt tg iter ifs scope gpos) X.env) :: backTo pos (starEach [] X.env))) _ _ s
  exact Calls.spliced_cons (thn (G.make I h) fun u s1 ⟨a, m, e, hG⟩ => e ▸ Calls.spliced_nil (call_tuple_gxF (G.hr.mono (by omega)) I.ok.frames hG))
theorem pairs2 {pins : List (Addr × Obj)} {σ : L2.St} {H : Hp} {s : Shared} (I : L2.Inv X pins σ H s) : ∀ {ps : List Addr} {kvs : List (Key × V)}, Paired (fun p kv => SqT X.K H p [kV kv.1, kv.2]) ps kvs →
    ∃ (prs : List (Key × Value)) (qs : List (Value × Value)), KV kvs prs ∧ prs.length = ps.length ∧ qs.length = ps.length ∧ ∀ (j : Nat) (k v : Value), qs[j]? = some (k, v) → ∃ (b : Addr) (kk : Key), ps[j]? = some b ∧ IsTup s.heap b #[k, v] ∧ prs[j]? = some (kk, v) ∧ keyIs kk k = true
  | _, _, .nil => ⟨[], [], .nil, rfl, rfl, fun j k v e => by simp at e⟩
  | _, _, .cons (a := p) (b := kv) h t => by
    obtain ⟨prs, qs, r, hl, hm, hp⟩ := pairs2 I t
    obtain ⟨its, rv, ht, _⟩ := I.tuple h
    obtain ⟨u, y, ei, ru, ry⟩ := vals2 rv
    subst ei
    refine ⟨(kv.1, y) :: prs, (u, y) :: qs, .cons ⟨rfl, ry⟩ r, by rw [List.length_cons, List.length_cons, hl], by rw [List.length_cons, List.length_cons, hm], fun j k v e => ?_⟩
    cases j with
    | zero =>
      have e' : (u, y) = (k, v) := Option.some.inj e
      obtain ⟨rfl, rfl⟩ := Prod.mk.inj e'
      exact ⟨p, kv.1, rfl, ht, rfl, kV_is (P := X.prog) (w := X.w) ru⟩
    | succ j =>
      obtain ⟨b, kk, h1, h2, h3, h4⟩ := hp j k v e
      exact ⟨b, kk, h1, h2, h3, h4⟩
/-- dict(t) of a tuple of pairs (key, value) whose object is known -/
theorem call_dictT (hcalm : X.calm = true) : CallR X (.type "dict") (fun xs H Q => ∃ (a : Addr) (o : Obj) (ps : List Addr) (kvs : List (Key × V)), xs = [.ref a] ∧ H a = some (.frz o (.tup (ps.map V.ref))) ∧ PlO o ∧ Paired (fun p kv => SqT X.K H p [kV kv.1, kv.2]) ps kvs ∧
    ∀ p, H p = none → Q (.ref p) (upd H p (.dK (mergeK [] kvs)))) := by
  intro pins s σ H xs us Q I r q
  obtain ⟨a, o, ps, kvs, ex, ha, ⟨hc, hd⟩, hp, q⟩ := q
  subst ex
  obtain ⟨u, eu, rx⟩ := vals1 r
  subst eu
  cases rx
  obtain ⟨ho, hz, its, rv, ht⟩ := (show ObjOk X.prog X.w H s.heap a (.frz o (.tup (ps.map V.ref))) from I.hok a _ ha)
  have ei := refs_at rv
  subst ei
  rw [List.length_map] at hz
  obtain ⟨o', ho', hc', n, hdat⟩ := ht
  rw [ho] at ho'
  cases ho'
  obtain ⟨prs, qs, rel, hl, hm, hpr⟩ := pairs2 I hp
  refine _root_.PySem.call_dict_pairs (knd := mixKind X.prog X.w) (kvs := prs) (PairArg.tuple a (ps.map Value.ref).toArray (fun j => ps.getD j 0) qs) (I.ok.hd hcalm) ⟨⟨o, n, ho, hc, hd, hdat⟩, by rw [List.size_toArray, List.length_map, hm], fun j k v e => ?_⟩ ⟨by rw [hl, hm], fun i k v e => ?_⟩ (by rw [hm]; exact hz) fun h' tk hd' k => ?_
  · obtain ⟨b, kk, e1, e2, e3, e4⟩ := hpr j k v e
    have eb : ps.getD j 0 = b := by rw [List.getD_eq_getElem?_getD, e1]; rfl
    refine ⟨?_, .inl ?_⟩
    · show (List.map Value.ref ps).toArray[j]? = some (Value.ref (ps.getD j 0))
      rw [eb]
      simp [e1]
    · show s.heap.IsTuple (ps.getD j 0) #[k, v]
      rw [eb]
      exact e2
  · obtain ⟨b, kk, e1, e2, e3, e4⟩ := hpr i k v e
    exact ⟨kk, e3, e4⟩
  · have hmd : (s.heap.objs.size == sysModules) = false := beq_eq_false_iff_ne.mpr (Nat.ne_of_gt I.big)
    have hlen : (mergeK [] kvs).length ≤ sizeLine := by
      refine Nat.le_trans (length_mergeK kvs []) ?_
      rw [List.length_nil, Nat.zero_add, rel.length, hl]
      exact hz
    exact ⟨.ref s.heap.objs.size, upd H s.heap.objs.size (.dK (mergeK [] kvs)), I.laid (t' := tk) (fun b o e => k b o List.not_mem_nil e) (Nat.le_refl _) (show ObjOk X.prog X.w _ _ _ (.dK (mergeK [] kvs)) from ⟨hlen, hmd, merged [] prs, KV.merge rel .nil, hd'⟩), rfl, q _ (I.hok.fresh (Nat.le_refl _))⟩
end
end DTT
/-! ### list(enumerate(t)), t a tuple -/
namespace LEN
open PySem PySem.Spec PyProof.Rows L2 GXP
section
variable {prog : Program} {w : World} {A : Around} {E : Value → Shared → Prop} {s : Shared} {e it T : Addr} {fp : List Addr} {n i : Nat} {Pr : Nat → Value → Prop} {St : Nat → Heap → Prop} {old : Value} {f : Bool} {oT : Obj}
/-- the next pair while the pair that was given before is still held -/
theorem next_held {Q : Value → Shared → Prop} (D : Draws prog w A it fp n Pr St) (he : IsEnumHeld s.heap e it (i : Int) old T f) (hT : s.heap.get? T = some oT) (hTe : T ≠ e) (hTi : T ≠ it) (hst : St i s.heap) (hlt : i < n) (hne : e ≠ it) (hef : e ∉ fp)
    (hQ : ∀ x h' tk, Pr i x → IsEnumHeld h' e it ((i : Int) + 1) old T true → St (i + 1) h' → h'.get? s.heap.objs.size = some { cls := .type "tuple", data := .seq #[.int i tk, x] } →
      (∀ b o, b ≠ e → b ≠ it → s.heap.get? b = some o → h'.get? b = some o) → Q (.ref s.heap.objs.size) { s with heap := h', toks := tk + 1 }) :
    wpAny (model prog w) A (Builtin.«enumerate.__next__» ⟨[.ref e], []⟩) (fun fin s' => ∃ v, fin = .done (.ret v) ∧ Q v s') E s := by
  obtain ⟨hp, g, d, tk0, os⟩ := s
  show wpAny _ _ (field (.ref e) 2 >>= _) _ _ _
  refine wpAny_bind (wpAny_field he rfl (x := .ref it) rfl ?_)
  refine wpAny_bind (D.item i _ _ _ hlt hst fun x h1 tk hPx hit1 hs1 => ?_)
  replace hs1 : Heap.SameBut it hp h1 := hs1
  have he1 : IsEnumHeld h1 e it i old T f := (hs1.2 e hne).trans he
  show wpAny _ _ (field (.ref e) 3 >>= _) _ _ ⟨h1, g, d, tk, os⟩
  refine wpAny_bind (wpAny_field he1 rfl (x := rawInt i) rfl ?_)
  show wpAny _ _ (field (.ref e) 4 >>= _) _ _ ⟨h1, g, d, tk, os⟩
  refine wpAny_bind (wpAny_field he1 rfl (x := .none) rfl ?_)
  show wpAny _ _ (mkInt i >>= _) _ _ ⟨h1, g, d, tk, os⟩
  refine wpAny_bind (wpAny_mkInt ?_)
  show wpAny _ _ (setField (.ref e) 3 (rawInt ((i : Int) + 1)) >>= _) _ _ ⟨h1, g, d, tk + 1, os⟩
  refine wpAny_bind (wpAny_setField_rec he1 (by simp) fun h2 he2 hs2 => ?_)
  replace hs2 : Heap.SameBut e h1 h2 := hs2
  replace he2 : IsEnumHeld h2 e it ((i : Int) + 1) old T f := he2
  show wpAny _ _ (setField (.ref e) 4 .none >>= _) _ _ ⟨h2, g, d, tk + 1, os⟩
  refine wpAny_bind (wpAny_setField_rec he2 (by simp) fun h3 he3 hs3 => ?_)
  replace hs3 : Heap.SameBut e h2 h3 := hs3
  replace he3 : IsEnumHeld h3 e it ((i : Int) + 1) old T f := he3
  show wpAny _ _ (newTuple [.int i tk, x] >>= _) _ _ ⟨h3, g, d, tk + 1, os⟩
  refine wpAny_bind (wpAny_newTuple ?_)
  have he4 : IsEnumHeld (h3.push { cls := .type "tuple", data := .seq #[.int i tk, x] }) e it ((i : Int) + 1) old T f := Heap.get?_push_of_some _ he3
  have hsz : h3.objs.size = hp.objs.size := by rw [hs3.1, hs2.1, hs1.1]
  have hel : e < hp.objs.size := Heap.lt_size he
  have ht4 : (h3.push { cls := .type "tuple", data := .seq #[.int i tk, x] }).get? hp.objs.size = some { cls := .type "tuple", data := .seq #[.int i tk, x] } := by rw [← hsz]; exact Heap.get?_push_size _ rfl
  have hk4 : ∀ b o, b ≠ e → b ≠ it → hp.get? b = some o → (h3.push { cls := .type "tuple", data := .seq #[.int i tk, x] }).get? b = some o := fun b o hbe hbi hb =>
    Heap.get?_push_of_some _ (hs3.extBut b o hbe (hs2.extBut b o hbe (hs1.extBut b o hbi hb)))
  have hit4 : St (i + 1) (h3.push { cls := .type "tuple", data := .seq #[.int i tk, x] }) := D.frame _ _ _ hit1 fun b hb o y => by
    have hbe : b ≠ e := fun q => hef (q ▸ hb)
    exact Heap.get?_push_of_some _ (hs3.extBut b o hbe (hs2.extBut b o hbe y))
  generalize h3.push { cls := .type "tuple", data := .seq #[.int i tk, x] } = h4 at he4 ht4 hk4 hit4 ⊢
  show wpAny _ _ (Builtin.SmallTypes.ownedTupleIsFree (.ref e) >>= _) _ _ ⟨h4, g, d, tk + 1, os⟩
  rw [hsz]
  refine wpAny_bind (wpAny_tupleHeld_enum (s := ⟨h4, g, d, tk + 1, os⟩) he4 (hk4 T oT hTe hTi hT) fun h5 he5 hs5 => ?_)
  replace hs5 : Heap.SameBut e h4 h5 := hs5
  simp only [Bool.false_eq_true, if_false]
  refine wpAny_pure ⟨_, rfl, hQ x h5 tk hPx he5 (D.frame _ _ _ hit4 fun b hb o y => ?_) (hs5.extBut _ _ (Nat.ne_of_gt hel) ht4) fun b o hbe hbi hb => hs5.extBut b o hbe (hk4 b o hbe hbi hb)⟩
  have hbe : b ≠ e := fun q => hef (q ▸ hb)
  exact hs5.extBut b o hbe y
theorem pyNext_held {Q : Option Value → Shared → Prop} (D : Draws prog w A.in1 it fp n Pr St) (he : IsEnumHeld s.heap e it (i : Int) old T f) (hT : s.heap.get? T = some oT) (hTe : T ≠ e) (hTi : T ≠ it) (hst : St i s.heap) (hlt : i < n) (hne : e ≠ it) (hef : e ∉ fp)
    (hQ : ∀ x h' tk, Pr i x → IsEnumHeld h' e it ((i : Int) + 1) old T true → St (i + 1) h' → h'.get? s.heap.objs.size = some { cls := .type "tuple", data := .seq #[.int i tk, x] } →
      (∀ b o, b ≠ e → b ≠ it → s.heap.get? b = some o → h'.get? b = some o) → Q (some (.ref s.heap.objs.size)) { s with heap := h', toks := tk + 1 }) :
    wpAny (model prog w) A (pyNext (.ref e)) Q E s := by
  have hTy : s.TypeIs (.ref e) "enumerate" := ⟨_, he, rfl⟩
  unfold pyNext
  exact wpAny_bind (wpAny_attempt (wpAny_callSpecial?_slot (name := Str.ofString "__next__") hTy F.slot_enumerate_next
    (wpAny_call_entry F.slot_enumerate_next hTy F.entry_enumerate_next
      (next_held D he hT hTe hTi hst hlt hne hef fun x h' tk a1 a2 a3 a4 a5 => wpAny_pure (hQ x h' tk a1 a2 a3 a4 a5)) (F.args_enumerate_next_1 _))))
theorem end_held {Q : Option Value → Shared → Prop} (D : Draws prog w A.in1 it fp n Pr St) (he : IsEnumHeld s.heap e it (i : Int) old T f) (hst : St n s.heap)
    (hQ : ∀ h', Heap.ExtBut it s.heap h' → Q none { s with heap := h' }) : wpAny (model prog w) A (pyNext (.ref e)) Q E s := by
  have hTy : s.TypeIs (.ref e) "enumerate" := ⟨_, he, rfl⟩
  unfold pyNext
  refine wpAny_bind (wpAny_attempt (wpAny_callSpecial?_slot (name := Str.ofString "__next__") hTy F.slot_enumerate_next
    (wpAny_call_entry F.slot_enumerate_next hTy F.entry_enumerate_next ?_ (F.args_enumerate_next_1 _))))
  show wpAny _ _ (field (.ref e) 2 >>= _) _ _ _
  refine wpAny_bind (wpAny_field he rfl (x := .ref it) rfl ?_)
  refine wpAny_bind (D.done _ _ _ hst fun h' x he' hx' => ?_)
  obtain ⟨o, ho, hc⟩ := hx'
  refine wpAny_bind (wpAny_isInstance (T := "StopIteration") (b := true) ⟨o, ho, hc⟩ isSubtype_stop ?_)
  exact wpAny_pure (hQ _ he')
def EHeld (h : Heap) (e it : Addr) (i : Nat) (S : Addr) : Prop := (∃ old, IsEnum h e it (i : Int) old) ∨ ∃ (old : Value) (T : Addr) (f : Bool) (oT : Obj), IsEnumHeld h e it (i : Int) old T f ∧ h.get? T = some oT ∧ T ≠ e ∧ T ≠ it ∧ T ≠ S
def AccE (h : Heap) (Pr : Nat → Value → Prop) (acc : Array Value) (S e it : Addr) : Prop := ∀ j < acc.size, ∃ (T : Addr) (tk : Tok) (x : Value), acc[j]? = some (.ref T) ∧ T ≠ S ∧ T ≠ e ∧ T ≠ it ∧ Pr j x ∧ h.get? T = some { cls := .type "tuple", data := .seq #[.int j tk, x] }
theorem AccE.up {h h' : Heap} {acc : Array Value} {S e it : Addr} (x : AccE h Pr acc S e it) (k : ∀ b o, b ≠ S → b ≠ e → b ≠ it → h.get? b = some o → h'.get? b = some o) : AccE h' Pr acc S e it := fun j hj => by
  obtain ⟨T, tk, v, a1, a2, a3, a4, a5, a6⟩ := x j hj
  exact ⟨T, tk, v, a1, a2, a3, a4, a5, k _ _ a2 a3 a4 a6⟩
theorem enum_loop {S : Addr} (D : Draws prog w A.in1.in1 it fp n Pr St) (hSe : S ≠ e) (hSi : S ≠ it) (hSf : S ∉ fp) (hne : e ≠ it) (hef : e ∉ fp) (hn : n ≤ sizeLine) {res : Value} {R : Result → Shared → Prop} (s0 : Shared) (Iv : Nat → Heap → Nat → Array Value → Prop)
    (step : ∀ (i : Nat) (h h1 h2 : Heap) (tk tk' t1 c : Nat) (acc : Array Value) (x : Value), Iv i h tk acc → Pr i x → h1.get? h.objs.size = some { cls := .type "tuple", data := .seq #[.int i t1, x] } → (∀ b o, b ≠ e → b ≠ it → h.get? b = some o → h1.get? b = some o) → h2.get? S = some (tmpL (acc.push (.ref h.objs.size)) c) → (∀ b o, b ≠ S → h1.get? b = some o → h2.get? b = some o) → acc.size < sizeLine → h.objs.size ≠ e → h.objs.size ≠ it → Iv (i + 1) h2 tk' (acc.push (.ref h.objs.size)))
    (keep : ∀ (i : Nat) (h h' : Heap) (tk : Nat) (acc : Array Value), Iv i h tk acc → (∀ b o, b ≠ it → h.get? b = some o → h'.get? b = some o) → Iv i h' tk acc)
    (fin : ∀ (h' : Heap) (tk : Nat) (acc : Array Value) (c : Nat), h'.get? S = some (tmpL acc c) → acc.size = n → AccE h' Pr acc S e it → Iv n h' tk acc → (∀ b o, b ≠ S → b ≠ e → b ≠ it → s0.heap.get? b = some o → h'.get? b = some o) → R (.ok (.ret res)) { s0 with heap := h', toks := tk }) :
    ∀ (k i : Nat) (h : Heap) (tk : Nat) (acc : Array Value) (c : Nat), i + k = n → acc.size = i → h.get? S = some (tmpL acc c) → St i h → EHeld h e it i S → AccE h Pr acc S e it → Iv i h tk acc → (∀ b o, b ≠ S → b ≠ e → b ≠ it → s0.heap.get? b = some o → h.get? b = some o) →
      codeAny (model prog w) A (.builtin "list.extend.loop" ⟨[.ref S, .ref e, res], []⟩) R { s0 with heap := h, toks := tk } := by
  have E0 := F.entry_extend_loop
  intro k
  induction k with
  | zero =>
    intro i h tk acc c hi ha hS hst he hacc hiv hk
    have ei : i = n := by omega
    subst ei
    refine codeAny_builtin E0 ?_
    rw [Around.under_plainId F.plain_extend_loop]
    have done : ∀ h', Heap.ExtBut it h h' → R (.ok (.ret res)) { s0 with heap := h', toks := tk } := fun h' x =>
      fin h' tk acc c (x S _ hSi hS) ha (hacc.up fun b o _ _ b3 e => x b o b3 e) (keep i h h' tk acc hiv fun b o b3 e => x b o b3 e) fun b o b1 b2 b3 e => x b o b3 (hk b o b1 b2 b3 e)
    rcases he with ⟨old, he⟩ | ⟨old, T, f, oT, he, _⟩
    · exact wpAny_bind (wpAny_pyNext_enum_endD (s := { s0 with heap := h, toks := tk }) D he hst fun h' x => wpAny_pure (done h' x))
    · exact wpAny_bind (end_held (s := { s0 with heap := h, toks := tk }) D he hst fun h' x => wpAny_pure (done h' x))
  | succ k ih =>
    intro i h tk acc c hi ha hS hst he hacc hiv hk
    refine codeAny_builtin E0 ?_
    rw [Around.under_plainId F.plain_extend_loop]
    have hse : h.objs.size ≠ e := fun z => by
      rcases he with ⟨old, he⟩ | ⟨old, T, f, oT, he, _⟩ <;> exact Nat.lt_irrefl _ (z ▸ Heap.lt_size he)
    have hsi : h.objs.size ≠ it := fun z => by
      obtain ⟨_, y⟩ := D.live _ _ hst
      exact Nat.lt_irrefl _ (z ▸ Heap.lt_size y)
    have hsS : h.objs.size ≠ S := fun z => Nat.lt_irrefl _ (z ▸ Heap.lt_size hS)
    have go : ∀ (x : Value) (h' : Heap) (tk' t1 : Nat), Pr i x → EHeld h' e it (i + 1) S → St (i + 1) h' → h'.get? h.objs.size = some { cls := .type "tuple", data := .seq #[.int i t1, x] } → (∀ b o, b ≠ e → b ≠ it → h.get? b = some o → h'.get? b = some o) →
        wpAny (model prog w) A.in1 (updateSeq S (·.push (.ref h.objs.size)) >>= fun _ => again (.builtin "list.extend.loop" ⟨[.ref S, .ref e, res], []⟩))
          (fun fin s' => match fin with | .done f => R (.ok f) s' | .again c' => c'.quiet = true ∧ codeAny (model prog w) A c' R s') (fun e s' => R (.error e) s') { s0 with heap := h', toks := tk' } := fun x h' tk' t1 hx he' hst' hT hk' => by
      have hS' := hk' S _ hSe hSi hS
      refine wpAny_bind (wpAny_updateSeq (s := { s0 with heap := h', toks := tk' }) hS' rfl (wpAny_pure ⟨plainId_quiet F.plain_extend_loop _, ?_⟩) (by show acc.size ≤ sizeLine; omega) (by show (acc.push _).size ≤ sizeLine + 1; rw [Array.size_push]; omega))
      have o1 := Heap.get?_update_self (Obj.mapSeq (·.push (.ref h.objs.size))) hS' rfl
      have oth : ∀ b o, b ≠ S → h'.get? b = some o → (h'.update S (Obj.mapSeq (·.push (.ref h.objs.size)))).get? b = some o := fun b o hb e => (Heap.get?_update_other _ _ (fun z => hb z.symm)).trans e
      refine ih (i + 1) _ tk' (acc.push (.ref h.objs.size)) _ (by omega) (by rw [Array.size_push, ha]) o1 (D.frame _ _ _ hst' fun b hb o e => oth b o (fun z => hSf (z ▸ hb)) e) ?_ ?_ (step i h h' _ tk tk' t1 _ acc x hiv hx hT hk' o1 oth (by omega) hse hsi) fun b o b1 b2 b3 e => oth b o b1 (hk' b o b2 b3 (hk b o b1 b2 b3 e))
      · rcases he' with ⟨old, he'⟩ | ⟨old, T, f, oT, he', t1, t2, t3, t4⟩
        · exact .inl ⟨old, oth _ _ hSe.symm he'⟩
        · exact .inr ⟨old, T, f, oT, oth _ _ hSe.symm he', oth _ _ t4 t1, t2, t3, t4⟩
      · intro j hj
        rw [Array.size_push] at hj
        by_cases z : j < acc.size
        · obtain ⟨T, tk2, v, a1, a2, a3, a4, a5, a6⟩ := hacc j z
          exact ⟨T, tk2, v, by rw [Array.getElem?_push_lt z, ← a1, Array.getElem?_eq_getElem z], a2, a3, a4, a5, oth _ _ a2 (hk' _ _ a3 a4 a6)⟩
        · have ej : j = i := by omega
          subst ej
          exact ⟨h.objs.size, t1, x, by rw [← ha, Array.getElem?_push_size], hsS, hse, hsi, hx, oth _ _ hsS hT⟩
    have ec : ((i + 1 : Nat) : Int) = (i : Int) + 1 := by omega
    rcases id he with ⟨old, he1⟩ | ⟨old, T, f, oT, he1, hT, r1, r2, r3⟩
    · exact wpAny_bind (wpAny_pyNext_enum_itemC (s := { s0 with heap := h, toks := tk }) D he1 hst (by omega) hne hef fun x h' tk' hx ho hst' hT _ hk' => go x h' _ tk' hx (.inr ⟨_, _, false, _, by rw [ec]; exact ho, hT, hse, hsi, hsS⟩) hst' hT hk')
    · exact wpAny_bind (pyNext_held (s := { s0 with heap := h, toks := tk }) D he1 hT r1 r2 hst (by omega) hne hef fun x h' tk' hx ho hst' hT' hk' => go x h' _ tk' hx (.inr ⟨old, T, true, oT, by rw [ec]; exact ho, hk' _ _ r1 r2 hT, r1, r2, r3⟩) hst' hT' hk')
end
theorem enum_no_len : typeLookup (.type "enumerate") "__len__" = pure none := by rw [typeLookup_type, builtinLookup_eq_fast]; kernel_rfl
theorem enum_no_hint : typeLookup (.type "enumerate") "__length_hint__" = pure none := by rw [typeLookup_type, builtinLookup_eq_fast]; kernel_rfl
section
variable {prog : Program} {w : World} {A : Around} {E : Value → Shared → Prop} {s : Shared} {e it : Addr} {fp : List Addr} {n : Nat} {Pr : Nat → Value → Prop} {St : Nat → Heap → Prop} {old : Value}
theorem call_list_enum {Q : Value → Shared → Prop} (D : Draws prog w A.in1.in1.in1 it fp n Pr St) (hE : IsEnum s.heap e it 0 old) (hst : St 0 s.heap) (hfp : ∀ b ∈ fp, b < s.heap.objs.size) (hne : e ≠ it) (hef : e ∉ fp) (hn : n ≤ sizeLine) (Iv : Nat → Heap → Nat → Array Value → Prop)
    (step : ∀ (i : Nat) (h h1 h2 : Heap) (tk tk' t1 c : Nat) (acc : Array Value) (x : Value), Iv i h tk acc → Pr i x → h1.get? h.objs.size = some { cls := .type "tuple", data := .seq #[.int i t1, x] } → (∀ b o, b ≠ e → b ≠ it → h.get? b = some o → h1.get? b = some o) → h2.get? s.heap.objs.size = some (tmpL (acc.push (.ref h.objs.size)) c) → (∀ b o, b ≠ s.heap.objs.size → h1.get? b = some o → h2.get? b = some o) → acc.size < sizeLine → h.objs.size ≠ e → h.objs.size ≠ it → Iv (i + 1) h2 tk' (acc.push (.ref h.objs.size)))
    (keep : ∀ (i : Nat) (h h' : Heap) (tk : Nat) (acc : Array Value), Iv i h tk acc → (∀ b o, b ≠ it → h.get? b = some o → h'.get? b = some o) → Iv i h' tk acc)
    (iv0 : ∀ (h : Heap) (c : Nat), h.get? s.heap.objs.size = some (tmpL #[] c) → (∀ b o, s.heap.get? b = some o → h.get? b = some o) → Iv 0 h s.toks #[])
    (hQ : ∀ (h' : Heap) (tk : Nat) (acc : Array Value) (c : Nat), h'.get? s.heap.objs.size = some (tmpL acc c) → acc.size = n → AccE h' Pr acc s.heap.objs.size e it → Iv n h' tk acc → (∀ b o, b ≠ e → b ≠ it → s.heap.get? b = some o → h'.get? b = some o) → Q (.ref s.heap.objs.size) { s with heap := h', toks := tk }) :
    wpAny (model prog w) A (call (.type "list") [.ref e]) Q E s := by
  have hSf : s.heap.objs.size ∉ fp := fun hm => Nat.lt_irrefl _ (hfp _ hm)
  have hSe : s.heap.objs.size ≠ e := fun z => Nat.lt_irrefl _ (z ▸ Heap.lt_size hE)
  have hSi : s.heap.objs.size ≠ it := fun z => by
    obtain ⟨_, y⟩ := D.live _ _ hst
    exact Nat.lt_irrefl _ (z ▸ Heap.lt_size y)
  refine callType_codes (Q₁ := fun obj s₁ => obj = .ref s.heap.objs.size ∧ s₁ = { s with heap := s.heap.push { cls := .type "list", data := .seq #[] } }) F.called_list (F.typeCall_list_1 _) F.entry_list_init
    (code_list_new _ ⟨rfl, rfl⟩) fun obj s₁ h₁ => ?_
  obtain ⟨rfl, rfl⟩ := h₁
  have o1 : (s.heap.push { cls := .type "list", data := .seq #[] }).get? s.heap.objs.size = some { cls := .type "list", data := .seq #[] } := Heap.get?_push_size _ rfl
  have k1 : ∀ b o, s.heap.get? b = some o → (s.heap.push { cls := .type "list", data := .seq #[] }).get? b = some o := fun b o e => Heap.get?_push_of_some _ e
  have st1 := D.frame _ _ _ hst fun b _ o e => k1 b o e
  have e1 := k1 _ _ hE
  refine ⟨⟨_, o1, rfl⟩, F.args_list_init_2 _ _, ?_⟩
  generalize s.heap.push { cls := .type "list", data := .seq #[] } = h1 at o1 k1 st1 e1 ⊢
  have hbS : ∀ b o, s.heap.get? b = some o → b ≠ s.heap.objs.size := fun b o e => Nat.ne_of_lt (Heap.lt_size e)
  generalize s.heap.objs.size = S at hSf hSe hSi o1 hQ hbS step iv0 ⊢
  show wpAny _ A.in1.in1 (do let old ← Builtin.List.listItems (.ref S); Builtin.List.listUpdate (.ref S) (fun _ => #[]); letGo old.toList.reverse; Builtin.List.listExtendWith (.ref S) (.ref e) .none) _ _ { s with heap := h1 }
  refine wpAny_bind ?_
  unfold Builtin.List.listItems
  refine wpAny_bind (wpAny_seqItems (s := { s with heap := h1 }) o1 rfl (wpAny_pure ?_))
  show wpAny _ _ (updateSeq S (fun _ => #[]) >>= fun _ => letGo (#[] : Array Value).toList.reverse >>= fun _ => Builtin.List.listExtendWith (.ref S) (.ref e) .none) _ _ { s with heap := h1 }
  refine wpAny_bind (wpAny_updateSeq (s := { s with heap := h1 }) o1 rfl ?_)
  have o2 := Heap.get?_update_self (Obj.mapSeq (fun _ => (#[] : Array Value))) o1 rfl
  have k2 : ∀ b o, b ≠ S → h1.get? b = some o → (h1.update S (Obj.mapSeq (fun _ => (#[] : Array Value)))).get? b = some o := fun b o hb e => (Heap.get?_update_other _ _ (Ne.symm hb)).trans e
  have st2 := D.frame _ _ _ st1 fun b hb o e => k2 b o (fun z => hSf (z ▸ hb)) e
  have e2 := k2 _ _ hSe.symm e1
  show wpAny _ _ _ _ _ { s with heap := h1.update S (Obj.mapSeq (fun _ => (#[] : Array Value))) }
  generalize h1.update S (Obj.mapSeq (fun _ => (#[] : Array Value))) = h2 at o2 k2 st2 e2 ⊢
  refine wpAny_bind (wpAny_letGo ?_)
  have hTy : ∀ g : Heap, g.get? e = h2.get? e → ({ s with heap := g } : Shared).TypeIs (.ref e) "enumerate" := fun g z => ⟨_, z.trans e2, rfl⟩
  unfold Builtin.List.listExtendWith
  refine wpAny_bind (wpAny_typeOf (hTy h2 rfl) ?_)
  have q1 : Builtin.List.listSameRef (.ref S) (.ref e) = false := by simp [Builtin.List.listSameRef, hSe]
  have q2 : (Value.type "enumerate" == Value.type "list") = false := by decide
  have q3 : (Value.type "enumerate" == Value.type "tuple") = false := by decide
  simp only [q1, q2, q3, Bool.or_false, Bool.false_eq_true, if_false]
  refine wpAny_bind (wpAny_pyIter_enum (s := { s with heap := h2 }) e2 ?_)
  refine wpAny_bind (wpAny_holding ?_)
  unfold Builtin.List.listLengthHint
  refine wpAny_bind (wpAny_specialOf (hTy h2 rfl) enum_no_len ?_)
  show wpAny _ _ (specialOf (Value.ref e) (Str.ofString "__length_hint__") >>= _) _ _ _
  refine wpAny_bind (wpAny_specialOf (hTy h2 rfl) enum_no_hint (wpAny_pure ?_))
  show wpAny _ _ (rule "list.extend.makes-room" >>= fun _ => Builtin.List.listTouch (.ref S) >>= fun _ =>
    again (.builtin "list.extend.loop" ⟨[.ref S, .ref e, .none], []⟩)) _ _ _
  refine wpAny_bind (wpAny_rule (wpAny_bind ?_))
  show wpAny _ _ (updateSeq S (·.push .none) >>= fun _ => updateSeq S (·.pop)) _ _ _
  refine wpAny_bind (wpAny_updateSeq (s := { s with heap := h2 }) o2 rfl ?_)
  have o3 := Heap.get?_update_self (Obj.mapSeq (·.push Value.none)) o2 rfl
  refine wpAny_updateSeq (s := { s with heap := h2.update S (Obj.mapSeq (·.push Value.none)) }) o3 rfl (wpAny_pure ⟨plainId_quiet F.plain_extend_loop _, ?_⟩)
  have o4 := Heap.get?_update_self (Obj.mapSeq (·.pop)) o3 rfl
  have k4 : ∀ b o, b ≠ S → h2.get? b = some o → ((h2.update S (Obj.mapSeq (·.push Value.none))).update S (Obj.mapSeq (·.pop))).get? b = some o := fun b o hb e => (Heap.get?_update_other _ _ (Ne.symm hb)).trans ((Heap.get?_update_other _ _ (Ne.symm hb)).trans e)
  exact enum_loop D hSe hSi hSf hne hef hn { s with heap := h2 } Iv step keep (fun h' tk acc c a1 a2 a3 ai a4 => ⟨rfl, hQ h' tk acc c a1 a2 a3 ai fun b o b1 b2 b3 => by
    have b0 : b ≠ S := hbS b o b3
    exact a4 b o b0 b1 b2 (k2 b o b0 (k1 b o b3))⟩) n 0 _ s.toks #[] _ (by omega) rfl o4 (D.frame _ _ _ st2 fun b hb o e => k4 b o (fun z => hSf (z ▸ hb)) e) (.inl ⟨old, k4 _ _ hSe.symm e2⟩) (fun j hj => absurd hj (Nat.not_lt_zero _)) (iv0 _ _ o4 fun b o e => k4 b o (hbS b o e) (k2 b o (hbS b o e) (k1 b o e))) fun b o b1 _ _ e => k4 b o b1 e
end
/-- the pairs (place, thing) of xs, each a tuple of its own -/
def EnumL (K : PySem.W.Frag) (H : Hp) (ys xs : List V) (n : Nat) : Prop := ys.length = n ∧ ∀ j x, j < n → xs[j]? = some x → ∃ T, ys[j]? = some (.ref T) ∧ H T = some (.tup [.int (j : Int), x])
def tListEnum (K : PySem.W.Frag) (ta : TA) : TE := fun σ H Q => ta σ H fun vs H1 => ∃ a xs, vs = [.ref a] ∧ SqT K H1 a xs ∧ ∀ l H' ys, EXT.Ext H1 H' → H1 l = none → H' l = some (.lst ys) → EnumL K H' ys xs xs.length → Q (.ref l) H'
section
variable {X : Cx}
theorem pe_listEnum {e : Expr} {ta : TA} {p p2 pos pos2 : Pos} (hcalm : X.calm = true) (hg : Gl X "list") (hm : X.mg "list" = none) (hg2 : Gl X "enumerate") (hm2 : X.mg "enumerate" = none) (ha : PA X [e] ta)
    (he : starEach [.Call (.Name "enumerate" p2) [e] [] pos2] X.env = (false, eval (.Call (.Name "enumerate" p2) [e] [] pos2) X.env) :: starEach [] X.env := by rfl)
    (he2 : starEach [e] X.env = (false, eval e X.env) :: starEach [] X.env := by rfl) :
    PE X (.Call (.Name "list" p) [.Call (.Name "enumerate" p2) [e] [] pos2] [] pos) (tListEnum X.K ta) := by
  refine ⟨fun pins s σ H Q I h => ?_⟩
  refine wpAny_Call_Name_kw (ld_blt I hg hm (by decide +kernel : bootBuiltins "list" = some (.type "list")) (PyProof.Rows.callWith_type1 ?_ he (by rfl)))
  rw [he]
  show wpAny _ _ (spliced ((false, eval (.Call (.Name "enumerate" p2) [e] [] pos2) X.env) :: backTo pos (starEach [] X.env))) _ _ s
  refine Calls.spliced_cons ?_
  refine wpAny_Call_Name_kw (ld_blt I hg2 hm2 (by decide +kernel : bootBuiltins "enumerate" = some (.type "enumerate")) (PyProof.Rows.callWith_type1 (thn (ha.run pos2 pins s σ H _ I h) fun us s1 ⟨vs, H1, I1, r, a, xs, ev, hq, q⟩ => ?_) he2 (by rfl)))
  subst ev
  cases r with
  | cons r t =>
    cases t
    cases r
    obtain ⟨its, rv, p', hz⟩ := I1.tuple hq
    refine call_enumerate_tup (show s1.heap.IsTuple a its.toArray from p') fun h' e1 hle hne hE hT hk => ?_
    have I2 : L2.Inv X pins σ H1 { s1 with heap := h' } := I1.kept (t' := s1.toks) hk
    refine Calls.spliced_nil ?_
    have hai : a ≠ s1.heap.objs.size := by
      obtain ⟨o, ho, _⟩ := p'
      exact Nat.ne_of_lt (Heap.lt_size ho)
    have hea : e1 ≠ a := by
      obtain ⟨o, ho, _⟩ := p'
      exact fun z => absurd (Heap.lt_size ho) (Nat.not_lt_of_le (z ▸ hle))
    have fe : FpOk X pins H1 e1 := I1.fpOk hle (I1.hok.fresh hle)
    have fi : FpOk X pins H1 s1.heap.objs.size := I1.fpOk (Nat.le_refl _) (I1.hok.fresh (Nat.le_refl _))
    have hS1 : H1 h'.objs.size = none := I2.hok.fresh (Nat.le_refl _)
    have hlt1 : e1 < h'.objs.size := Heap.lt_size hE
    have hlt2 : s1.heap.objs.size < h'.objs.size := by
      obtain ⟨o, ho, _⟩ := hT
      exact Heap.lt_size ho
    have hl := rv.length
    generalize hit : s1.heap.objs.size = it at hle hne hE hT hai fi hlt2
    have hta : h'.IsTuple a its.toArray := by
      obtain ⟨o, ho, hc⟩ := p'
      exact ⟨o, hk _ _ ho, hc⟩
    refine call_list_enum (s := { s1 with heap := h' }) (n := its.toArray.size) (Draws.tuple (A := X.A.in1.in1.in1) (I1.ok.hd hcalm) it a hai its.toArray) hE ⟨hT, hta⟩ (fun b hb => ?_) hne (fun m => ?_) (by rw [List.size_toArray]; omega)
      (fun i h tk acc => ∃ H' ys, L2.Inv X pins σ H' { s1 with heap := h, toks := tk } ∧ EXT.Ext H1 H' ∧ H' e1 = none ∧ H' it = none ∧ H' h'.objs.size = some (.lst ys) ∧ Vals ys acc.toList ∧ EnumL X.K H' ys xs i)
      (fun i h h1 h2 tk tk' t1 c acc x hiv hx hT1 hk1 o2 hk2 hlt hse hsi => ?_) (fun i h h2 tk acc hiv k2 => ?_) (fun h c o k => ?_) (fun h2 tk acc c o ha2 _ hiv _ => ?_)
    · simp only [List.mem_cons, List.not_mem_nil, or_false] at hb
      rcases hb with rfl | rfl
      · exact hlt2
      · obtain ⟨o, ho, _⟩ := hta
        exact Heap.lt_size ho
    · simp only [List.mem_cons, List.not_mem_nil, or_false] at m
      rcases m with m | m
      · exact hne m
      · exact hea m
    · obtain ⟨H', ys, IV, sx, ne1, nit, hS, rvs, en⟩ := hiv
      obtain ⟨x2, hx2, hr⟩ := vals_get rv (i := i) (u := x) (by simpa using hx)
      have hn : H' h.objs.size = none := IV.hok.fresh (Nat.le_refl _)
      have I3 := IV.turnedNew (t' := tk') (ch := [e1, it]) (h' := h1) (T := h.objs.size) (ob := .tup [.int (i : Int), x2]) (fun b o hb eo => hk1 b o (fun z => hb (by simp [z])) (fun z => hb (by simp [z])) eo) (fun b hb => by
        simp only [List.mem_cons, List.not_mem_nil, or_false] at hb
        rcases hb with rfl | rfl
        · exact ⟨ne1, fe.2⟩
        · exact ⟨nit, fi.2⟩) (Nat.le_refl _) ⟨by rw [sizeLine_eq]; simp, [.int (i : Int) t1, x], .cons ⟨t1, rfl⟩ (.cons hr .nil), _, hT1, rfl, 0, rfl⟩
      have nT1 : h.objs.size ≠ e1 := hse
      have nT2 : h.objs.size ≠ it := hsi
      have nST : h'.objs.size ≠ h.objs.size := fun z => by
        rw [z, hn] at hS
        cases hS
      have hS3 : upd H' h.objs.size (.tup [.int (i : Int), x2]) h'.objs.size = some (.lst ys) := by rw [upd_ne nST]; exact hS
      have lys : ys.length = acc.size := rvs.length.trans Array.length_toList
      have lys2 : (ys ++ [V.ref h.objs.size]).length ≤ sizeLine := by
        rw [List.length_append, List.length_cons, List.length_nil, lys]
        exact hlt
      have I4 := I3.write (h' := h2) (t' := tk') (x := h'.objs.size) (e := h'.objs.size) (o := .lst (ys ++ [.ref h.objs.size])) (by rw [hS3]; trivial) (.inl rfl) (fun b u hb eo => hk2 b u hb eo) ⟨_, o2⟩ ⟨lys2, (acc.push (.ref h.objs.size)).toList, c, by rw [Array.toList_push]; exact rvs.append (.cons rfl .nil), o2⟩
      refine ⟨_, ys ++ [.ref h.objs.size], I4, (sx.trans (EXT.ext_upd hn)).own hS1, ?_, ?_, upd_same, by rw [Array.toList_push]; exact rvs.append (.cons rfl .nil), ?_⟩
      · have n2 : e1 ≠ h.objs.size := fun z => nT1 z.symm
        rw [upd_ne (Nat.ne_of_lt hlt1), upd_ne n2]
        exact ne1
      · have n2 : it ≠ h.objs.size := fun z => nT2 z.symm
        rw [upd_ne (Nat.ne_of_lt hlt2), upd_ne n2]
        exact nit
      · refine ⟨by rw [List.length_append, en.1]; rfl, fun j x3 hj hx3 => ?_⟩
        by_cases z : j < i
        · obtain ⟨T, t2, t3⟩ := en.2 j x3 z hx3
          have b1 : T ≠ h'.objs.size := fun y => by
            rw [y, hS] at t3
            cases t3
          have b2 : T ≠ h.objs.size := fun y => by
            rw [y, hn] at t3
            cases t3
          exact ⟨T, by rw [List.getElem?_append_left (by rw [en.1]; exact z)]; exact t2, by rw [upd_ne b1, upd_ne b2]; exact t3⟩
        · have ej : j = i := by omega
          subst ej
          rw [hx2] at hx3
          cases hx3
          exact ⟨h.objs.size, by rw [List.getElem?_append_right (by rw [en.1]; exact Nat.le_refl _), en.1, Nat.sub_self]; rfl, by rw [upd_ne nST.symm]; exact upd_same⟩
    · obtain ⟨H', ys, IV, sx, ne1, nit, hS, rvs, en⟩ := hiv
      exact ⟨H', ys, L2.Inv.turnedL (s := { s1 with heap := h, toks := tk }) (t' := tk) (ch := [it]) IV (fun b o hb eo => k2 b o (fun z => hb (by simp [z])) eo) (fun b hb => by
        rw [List.mem_singleton.mp hb]
        exact ⟨nit, fi.2⟩), sx, ne1, nit, hS, rvs, en⟩
    · have I3 := I2.laid (t' := s1.toks) (h' := h) (a := h'.objs.size) (o := .lst []) k (Nat.le_refl _) ⟨by simp, [], c, .nil, o⟩
      refine ⟨_, [], I3, EXT.ext_upd hS1, ?_, ?_, upd_same, .nil, rfl, fun j x hj => absurd hj (Nat.not_lt_zero _)⟩
      · rw [upd_ne (Nat.ne_of_lt hlt1)]
        exact fe.1
      · rw [upd_ne (Nat.ne_of_lt hlt2)]
        exact fi.1
    · obtain ⟨H', ys, IV, sx, ne1, nit, hS, rvs, en⟩ := hiv
      rw [List.size_toArray, ← hl] at en
      exact ⟨.ref h'.objs.size, H', IV, rfl, q _ H' ys sx hS1 hS en⟩
end
end LEN
/-! ### a locked dict with tuples for keys, walked by a generator expression -/
namespace GXP
open PySem PySem.Spec PyProof.Rows L2
section
variable {g : TG} {tt : TT} {te : TE} {vs : List Nat} {σ : L2.St} {cy : Cy} {Qe : List V → Hp → Prop} {H1 : Hp} {d : Addr} {o : Obj}
theorem gx_keysT {kvs : List (List Key × V)} (Pv : Nat → List V → Hp → Prop) (h0 : Pv 0 [] H1) (hl : ∀ i ys H, i ≤ kvs.length → Pv i ys H → H d = some (.frz o (.dT kvs)))
    (hs : ∀ i k v q ys H, kvs[i]? = some (k, v) → H q = some (.tup (k.map kV)) → Pv i ys H → g (.ref q) (wipe σ vs) H fun σ2 H2 => wipe σ2 vs = wipe σ vs ∧ tt σ2 H2 fun b H3 => if b = true then te σ2 H3 fun y H4 => cy ys y H4 (Pv (i + 1)) else Pv (i + 1) ys H3)
    (hd : ∀ ys H, Pv kvs.length ys H → Qe ys H) : ∃ W m, W 0 m [] H1 ∧ Turns (Itkt d o kvs) g tt te vs σ cy Qe W := by
  refine ⟨fun i m ys H => m = kvs.length - i ∧ i ≤ kvs.length ∧ Pv i ys H, kvs.length, ⟨rfl, Nat.zero_le _, h0⟩, ?_⟩
  rintro i m ys H ⟨rfl, hi, p⟩
  have s := hl i ys H hi p
  by_cases hlt : i < kvs.length
  · refine .inr ⟨⟨s, hlt⟩, by omega, Pv (i + 1), fun ys' H' p' => ⟨_, by omega, rfl, hlt, p'⟩, fun x H' y => ?_⟩
    obtain ⟨rfl, k, v, q2, e, rfl, ht⟩ := y
    exact hs i k v q2 ys _ e ht p
  · have e : i = kvs.length := by omega
    subst e
    exact .inl ⟨⟨s, Nat.le_refl _⟩, hd ys H p⟩
end
end GXP
/-! ### sums over matchings, by tables -/
namespace MT
/-- sums and products, as the program makes them -/
structure Sr (α : Type) where
  add : α → α → α
  mul : α → α → α
  zero : α
  one : α
  add_comm : ∀ a b, add a b = add b a
  add_assoc : ∀ a b c, add (add a b) c = add a (add b c)
  add_zero : ∀ a, add a zero = a
  mul_assoc : ∀ a b c, mul (mul a b) c = mul a (mul b c)
  mul_comm : ∀ a b, mul a b = mul b a
  mul_add : ∀ a b c, mul a (add b c) = add (mul a b) (mul a c)
  mul_zero : ∀ a, mul a zero = zero
  mul_one : ∀ a, mul a one = a
section
variable {α : Type} (S : Sr α)
theorem Sr.zero_add (a : α) : S.add S.zero a = a := by rw [S.add_comm, S.add_zero]
theorem Sr.one_mul (a : α) : S.mul S.one a = a := by rw [S.mul_comm, S.mul_one]
theorem Sr.add_mul (a b c : α) : S.mul (S.add a b) c = S.add (S.mul a c) (S.mul b c) := by rw [S.mul_comm, S.mul_add, S.mul_comm c, S.mul_comm c]
theorem Sr.zero_mul (a : α) : S.mul S.zero a = S.zero := by rw [S.mul_comm, S.mul_zero]
theorem Sr.swap (a b c : α) : S.add (S.add a b) c = S.add (S.add a c) b := by rw [S.add_assoc, S.add_comm b c, ← S.add_assoc]
def getA (l : List (Nat × α)) (m : Nat) : α := match l.find? (fun p => decide (p.1 = m)) with
  | some p => p.2
  | none => S.zero
def putA (l : List (Nat × α)) (m : Nat) (x : α) : List (Nat × α) := if l.any (fun p => decide (p.1 = m)) then l.map (fun p => if p.1 = m then (p.1, x) else p) else l ++ [(m, x)]
def addA (l : List (Nat × α)) (m : Nat) (y : α) : List (Nat × α) := putA l m (S.add (getA S l m) y)
def keysA (l : List (Nat × α)) : List Nat := l.map (·.1)
def dot (F : Nat → α) : List (Nat × α) → α
  | [] => S.zero
  | p :: t => S.add (S.mul p.2 (F p.1)) (dot F t)
theorem dot_app (F : Nat → α) : ∀ l k, dot S F (l ++ k) = S.add (dot S F l) (dot S F k)
  | [], k => (S.zero_add _).symm
  | p :: t, k => by
    show S.add _ (dot S F (t ++ k)) = S.add (S.add _ (dot S F t)) _
    rw [dot_app F t k, S.add_assoc]
theorem keys_put (l : List (Nat × α)) (m : Nat) (x : α) : keysA (putA l m x) = if m ∈ keysA l then keysA l else keysA l ++ [m] := by
  unfold putA
  by_cases h : (l.any fun p => decide (p.1 = m)) = true
  · have hm : m ∈ keysA l := by
      obtain ⟨p, hp, e⟩ := List.any_eq_true.mp h
      exact List.mem_map.mpr ⟨p, hp, of_decide_eq_true e⟩
    rw [if_pos h, if_pos hm]
    unfold keysA
    rw [List.map_map]
    refine List.map_congr_left fun p _ => ?_
    show (if p.1 = m then (p.1, x) else p).1 = p.1
    split <;> rfl
  · have hm : m ∉ keysA l := fun hm => by
      obtain ⟨p, hp, e⟩ := List.mem_map.mp hm
      exact h (List.any_eq_true.mpr ⟨p, hp, decide_eq_true e⟩)
    rw [if_neg h, if_neg hm]
    unfold keysA
    rw [List.map_append]
    rfl
theorem nodup_put {l : List (Nat × α)} (h : (keysA l).Nodup) (m : Nat) (x : α) : (keysA (putA l m x)).Nodup := by
  rw [keys_put]
  split
  · exact h
  · rename_i hm
    exact List.nodup_append.mpr ⟨h, by simp, fun a ha b hb e => hm (by rw [← List.mem_singleton.mp hb, ← e]; exact ha)⟩
theorem get_cons (p : Nat × α) (l : List (Nat × α)) (m : Nat) : getA S (p :: l) m = if p.1 = m then p.2 else getA S l m := by
  unfold getA
  by_cases e : p.1 = m
  · rw [if_pos e, List.find?_cons_of_pos (by rw [decide_eq_true e])]
  · rw [if_neg e, List.find?_cons_of_neg (by rw [decide_eq_false e]; decide)]
theorem get_none {l : List (Nat × α)} {m : Nat} (h : m ∉ keysA l) : getA S l m = S.zero := by
  induction l with
  | nil => rfl
  | cons p t ih =>
    rw [get_cons, if_neg (fun e => h (by rw [← e]; exact List.mem_cons_self ..)), ih fun e => h (List.mem_cons_of_mem _ e)]
theorem dot_set (F : Nat → α) {m : Nat} {y : α} : ∀ {l : List (Nat × α)}, (keysA l).Nodup → m ∈ keysA l → dot S F (l.map fun p => if p.1 = m then (p.1, S.add (getA S l m) y) else p) = S.add (dot S F l) (S.mul y (F m))
  | [], _, h => by cases h
  | p :: t, hn, hm => by
    obtain ⟨h1, h2⟩ := List.nodup_cons.mp (show (p.1 :: keysA t).Nodup from hn)
    rw [List.map_cons, get_cons]
    by_cases e : p.1 = m
    · rw [if_pos e, if_pos e]
      have ht : (t.map fun q => if q.1 = m then (q.1, S.add p.2 y) else q) = t := by
        refine (List.map_congr_left fun q hq => ?_).trans (List.map_id t)
        have : q.1 ≠ m := fun z => h1 (by rw [e, ← z]; exact List.mem_map.mpr ⟨q, hq, rfl⟩)
        rw [if_neg this]
        rfl
      rw [ht]
      show S.add (S.mul (S.add p.2 y) (F p.1)) (dot S F t) = S.add (S.add (S.mul p.2 (F p.1)) (dot S F t)) (S.mul y (F m))
      rw [S.add_mul, e, S.swap]
    · rw [if_neg e, if_neg e]
      have hm2 : m ∈ keysA t := by
        rcases List.mem_cons.mp (show m ∈ p.1 :: keysA t from hm) with z | z
        · exact absurd z.symm e
        · exact z
      show S.add (S.mul p.2 (F p.1)) (dot S F (t.map _)) = _
      rw [dot_set F h2 hm2, ← S.add_assoc]
      rfl
theorem dot_add (F : Nat → α) {l : List (Nat × α)} (hn : (keysA l).Nodup) (m : Nat) (y : α) : dot S F (addA S l m y) = S.add (dot S F l) (S.mul y (F m)) := by
  unfold addA putA
  by_cases h : (l.any fun p => decide (p.1 = m)) = true
  · have hm : m ∈ keysA l := by
      obtain ⟨p, hp, e⟩ := List.any_eq_true.mp h
      exact List.mem_map.mpr ⟨p, hp, of_decide_eq_true e⟩
    rw [if_pos h]
    exact dot_set S F hn hm
  · have hm : m ∉ keysA l := fun hm => by
      obtain ⟨p, hp, e⟩ := List.mem_map.mp hm
      exact h (List.any_eq_true.mpr ⟨p, hp, decide_eq_true e⟩)
    rw [if_neg h, get_none S hm, S.zero_add, dot_app]
    show S.add _ (S.add (S.mul y (F m)) S.zero) = _
    rw [S.add_zero]
/-- what becomes of a taken mask at a vertex -/
def chs (alone : α) (v m : Nat) (lk : List (Nat × α)) : List (Nat × α) := if m.testBit v then [(m ^^^ 2 ^ v, S.one)] else (m, alone) :: (lk.filter fun e => !m.testBit e.1).map fun e => (m ||| 2 ^ e.1, e.2)
def fill (x : α) (g cs : List (Nat × α)) : List (Nat × α) := cs.foldl (fun g c => addA S g c.1 (S.mul x c.2)) g
def stepT (alone : α) (v : Nat) (lk T : List (Nat × α)) : List (Nat × α) := T.foldl (fun g p => fill S p.2 g (chs S alone v p.1 lk)) []
theorem fill_nodup (x : α) : ∀ (cs g : List (Nat × α)), (keysA g).Nodup → (keysA (fill S x g cs)).Nodup
  | [], g, h => h
  | c :: cs, g, h => fill_nodup x cs _ (nodup_put h _ _)
theorem fill_dot (F : Nat → α) (x : α) : ∀ (cs g : List (Nat × α)), (keysA g).Nodup → dot S F (fill S x g cs) = S.add (dot S F g) (S.mul x (dot S F cs))
  | [], g, h => by
    show dot S F g = S.add (dot S F g) (S.mul x S.zero)
    rw [S.mul_zero, S.add_zero]
  | c :: cs, g, h => by
    have ih := fill_dot F x cs (addA S g c.1 (S.mul x c.2)) (nodup_put h _ _)
    show dot S F (fill S x (addA S g c.1 (S.mul x c.2)) cs) = _
    rw [ih, dot_add S F h]
    show _ = S.add (dot S F g) (S.mul x (S.add (S.mul c.2 (F c.1)) (dot S F cs)))
    rw [S.mul_add, ← S.mul_assoc, S.add_assoc]
theorem step_go (F : Nat → α) (alone : α) (v : Nat) (lk : List (Nat × α)) : ∀ (T g : List (Nat × α)), (keysA g).Nodup → (keysA (T.foldl (fun g p => fill S p.2 g (chs S alone v p.1 lk)) g)).Nodup ∧ dot S F (T.foldl (fun g p => fill S p.2 g (chs S alone v p.1 lk)) g) = S.add (dot S F g) (dot S (fun m => dot S F (chs S alone v m lk)) T)
  | [], g, h => ⟨h, (S.add_zero _).symm⟩
  | p :: T, g, h => by
    obtain ⟨h1, h2⟩ := step_go F alone v lk T (fill S p.2 g (chs S alone v p.1 lk)) (fill_nodup S p.2 _ _ h)
    refine ⟨h1, ?_⟩
    rw [List.foldl_cons, h2, fill_dot S F p.2 _ _ h, S.add_assoc]
    rfl
/-- the sum over all that is still to come -/
def Fr (alone : α) : List (List (Nat × α)) → Nat → Nat → α
  | [], _, m => if m = 0 then S.one else S.zero
  | lk :: rest, v, m => dot S (Fr alone rest (v + 1)) (chs S alone v m lk)
/-- the table behind the first vertices -/
def tabT (alone : α) (lks : List (List (Nat × α))) : Nat → List (Nat × α)
  | 0 => [(0, S.one)]
  | v + 1 => stepT S alone v (lks.getD v []) (tabT alone lks v)
theorem drop_getD {β : Type} {l : List β} {v : Nat} (h : v < l.length) (d : β) : l.drop v = l.getD v d :: l.drop (v + 1) := by
  rw [List.drop_eq_getElem_cons h, List.getD_eq_getElem?_getD, List.getElem?_eq_getElem h]
  rfl
theorem tab_dot (alone : α) (lks : List (List (Nat × α))) : ∀ v, v ≤ lks.length → (keysA (tabT S alone lks v)).Nodup ∧ dot S (Fr S alone (lks.drop v) v) (tabT S alone lks v) = Fr S alone lks 0 0
  | 0, _ => ⟨by simp [keysA, tabT], by
    show S.add (S.mul S.one (Fr S alone lks 0 0)) S.zero = _
    rw [S.add_zero, S.one_mul]⟩
  | v + 1, h => by
    obtain ⟨h1, h2⟩ := tab_dot alone lks v (by omega)
    obtain ⟨k1, k2⟩ := step_go S (Fr S alone (lks.drop (v + 1)) (v + 1)) alone v (lks.getD v []) (tabT S alone lks v) [] List.nodup_nil
    refine ⟨k1, ?_⟩
    show dot S _ (stepT S alone v _ _) = _
    unfold stepT
    rw [k2, ← h2, drop_getD (v := v) (show v < lks.length by omega) [], show dot S (Fr S alone (lks.drop (v + 1)) (v + 1)) [] = S.zero from rfl, S.zero_add]
    rfl
/-- masks without bits below v, below 2 ^ n -/
def KeyOk (v n : Nat) (m : Nat) : Prop := m < 2 ^ n ∧ ∀ i < v, m.testBit i = false
def LkOk (v n : Nat) (lk : List (Nat × α)) : Prop := ∀ e ∈ lk, v < e.1 ∧ e.1 < n
theorem chs_ok {alone : α} {v n m : Nat} {lk : List (Nat × α)} (hv : v < n) (h : KeyOk v n m) (hl : LkOk v n lk) : ∀ c ∈ chs S alone v m lk, KeyOk (v + 1) n c.1 := by
  intro c hc
  have pv : 2 ^ v < 2 ^ n := Nat.pow_lt_pow_right (by decide) hv
  unfold chs at hc
  split at hc
  · rename_i hb
    rw [List.mem_singleton.mp hc]
    refine ⟨Nat.xor_lt_two_pow h.1 pv, fun i hi => ?_⟩
    show (m ^^^ 2 ^ v).testBit i = false
    rw [Nat.testBit_xor, Nat.testBit_two_pow]
    by_cases e : v = i
    · subst e
      rw [hb, decide_eq_true rfl]
      rfl
    · rw [h.2 i (by omega), decide_eq_false e]
      rfl
  · rename_i hb
    rcases List.mem_cons.mp hc with rfl | hc
    · refine ⟨h.1, fun i hi => ?_⟩
      by_cases e : i = v
      · rw [e]
        exact Bool.eq_false_iff.mpr hb
      · exact h.2 i (by omega)
    · obtain ⟨e, he, rfl⟩ := List.mem_map.mp hc
      obtain ⟨e1, e2⟩ := hl e (List.mem_filter.mp he).1
      refine ⟨Nat.or_lt_two_pow h.1 (Nat.pow_lt_pow_right (by decide) e2), fun i hi => ?_⟩
      show (m ||| 2 ^ e.1).testBit i = false
      rw [Nat.testBit_or, Nat.testBit_two_pow, decide_eq_false (show ¬ e.1 = i by omega), Bool.or_false]
      by_cases z : i = v
      · rw [z]
        exact Bool.eq_false_iff.mpr hb
      · exact h.2 i (by omega)
theorem keys_fill (x : α) (P : Nat → Prop) : ∀ (cs g : List (Nat × α)), (∀ c ∈ cs, P c.1) → (∀ k ∈ keysA g, P k) → ∀ k ∈ keysA (fill S x g cs), P k
  | [], g, _, h, k, hk => h k hk
  | c :: cs, g, hc, h, k, hk => keys_fill x P cs (addA S g c.1 (S.mul x c.2)) (fun d hd => hc d (List.mem_cons_of_mem _ hd)) (fun j hj => by
      unfold addA at hj
      rw [keys_put] at hj
      split at hj
      · exact h j hj
      · rcases List.mem_append.mp hj with hj | hj
        · exact h j hj
        · rw [List.mem_singleton.mp hj]
          exact hc c (List.mem_cons_self ..)) k hk
theorem fill_ne (x : α) : ∀ (cs g : List (Nat × α)), (cs ≠ [] ∨ g ≠ []) → fill S x g cs ≠ []
  | [], g, h => h.resolve_left fun z => z rfl
  | c :: cs, g, _ => fill_ne x cs _ (.inr fun z => by
      have := congrArg keysA z
      unfold addA at this
      rw [keys_put] at this
      split at this
      · rename_i hm
        rw [this] at hm
        cases hm
      · simp [keysA] at this)
theorem chs_ne (alone : α) (v m : Nat) (lk : List (Nat × α)) : chs S alone v m lk ≠ [] := by
  unfold chs
  split <;> simp
theorem chs_len (alone : α) (v m : Nat) (lk : List (Nat × α)) : (chs S alone v m lk).length ≤ lk.length + 1 := by
  unfold chs
  split
  · simp
  · rw [List.length_cons, List.length_map]
    have := List.length_filter_le (fun e : Nat × α => !m.testBit e.1) lk
    omega
theorem tab_ok {alone : α} {n : Nat} {lks : List (List (Nat × α))} (hl : ∀ v < n, LkOk v n (lks.getD v [])) : ∀ v, v ≤ n → (∀ k ∈ keysA (tabT S alone lks v), KeyOk v n k) ∧ tabT S alone lks v ≠ []
  | 0, _ => ⟨fun k hk => by
      rw [List.mem_singleton.mp hk]
      exact ⟨Nat.two_pow_pos n, fun i hi => by omega⟩, by simp [tabT]⟩
  | v + 1, h => by
    obtain ⟨h1, h2⟩ := tab_ok hl v (by omega)
    have go : ∀ (T g : List (Nat × α)), (∀ k ∈ keysA T, KeyOk v n k) → (∀ k ∈ keysA g, KeyOk (v + 1) n k) → (T ≠ [] ∨ g ≠ []) → (∀ k ∈ keysA (T.foldl (fun g p => fill S p.2 g (chs S alone v p.1 (lks.getD v []))) g), KeyOk (v + 1) n k) ∧ T.foldl (fun g p => fill S p.2 g (chs S alone v p.1 (lks.getD v []))) g ≠ [] := by
      intro T
      induction T with
      | nil => exact fun g _ hg hne => ⟨hg, hne.resolve_left fun z => z rfl⟩
      | cons p T ih =>
        intro g hT hg _
        rw [List.foldl_cons]
        exact ih _ (fun k hk => hT k (List.mem_cons_of_mem _ hk)) (keys_fill S p.2 _ _ _ (chs_ok S (by omega) (hT p.1 (List.mem_cons_self ..)) (hl v (by omega))) hg) (.inr (fill_ne S p.2 _ _ (.inl (chs_ne S alone v p.1 _))))
    exact go _ [] h1 (fun k hk => by cases hk) (.inl h2)
/-- the last table has one sum -/
theorem tab_last {alone : α} {lks : List (List (Nat × α))} (hl : ∀ v < lks.length, LkOk v lks.length (lks.getD v [])) : tabT S alone lks lks.length = [(0, Fr S alone lks 0 0)] := by
  obtain ⟨h1, h2⟩ := tab_dot S alone lks lks.length (Nat.le_refl _)
  obtain ⟨k1, k2⟩ := tab_ok S (alone := alone) hl lks.length (Nat.le_refl _)
  have hz : ∀ k ∈ keysA (tabT S alone lks lks.length), k = 0 := fun k hk => by
    obtain ⟨a, b⟩ := k1 k hk
    refine Nat.eq_of_testBit_eq fun i => ?_
    rw [Nat.zero_testBit]
    by_cases hi : i < lks.length
    · exact b i hi
    · exact Nat.testBit_lt_two_pow (Nat.lt_of_lt_of_le a (Nat.pow_le_pow_right (by decide) (by omega)))
  generalize tabT S alone lks lks.length = T at *
  match T, k2 with
  | [p], _ =>
    have hp : p.1 = 0 := hz p.1 (List.mem_cons_self ..)
    rw [List.drop_length] at h2
    have h3 : S.add (S.mul p.2 (if p.1 = 0 then S.one else S.zero)) S.zero = Fr S alone lks 0 0 := h2
    rw [if_pos hp, S.mul_one, S.add_zero] at h3
    rw [← h3, ← hp]
  | p :: r :: t, _ =>
    have e1 := hz p.1 (List.mem_cons_self ..)
    have e2 := hz r.1 (List.mem_cons_of_mem _ (List.mem_cons_self ..))
    have := (List.nodup_cons.mp (show (p.1 :: r.1 :: keysA t).Nodup from h1)).1
    exact absurd (by rw [e1, e2]; exact List.mem_cons_self ..) this
end
end MT
namespace MT
section
variable {α : Type} (S : Sr α)
def sumF {β : Type} (f : β → α) : List β → α
  | [] => S.zero
  | x :: l => S.add (f x) (sumF f l)
section
variable {β : Type} {f g : β → α}
theorem sumF_app : ∀ l k : List β, sumF S f (l ++ k) = S.add (sumF S f l) (sumF S f k)
  | [], k => (S.zero_add _).symm
  | x :: l, k => by
    show S.add _ (sumF S f (l ++ k)) = S.add (S.add _ _) _
    rw [sumF_app l k, S.add_assoc]
theorem sumF_rev : ∀ l : List β, sumF S f l.reverse = sumF S f l
  | [] => rfl
  | x :: l => by
    rw [List.reverse_cons, sumF_app, sumF_rev l]
    show S.add _ (S.add (f x) S.zero) = S.add _ _
    rw [S.add_zero, S.add_comm]
theorem sumF_congr {l : List β} (h : ∀ x ∈ l, f x = g x) : sumF S f l = sumF S g l := by
  induction l with
  | nil => rfl
  | cons x l ih =>
    show S.add _ _ = S.add _ _
    rw [h x (List.mem_cons_self ..), ih fun y m => h y (List.mem_cons_of_mem _ m)]
theorem sumF_add (l : List β) : sumF S (fun x => S.add (f x) (g x)) l = S.add (sumF S f l) (sumF S g l) := by
  induction l with
  | nil => exact (S.add_zero _).symm
  | cons x l ih =>
    show S.add _ _ = S.add (S.add _ _) (S.add _ _)
    rw [ih]
    simp only [S.add_assoc]
    congr 1
    rw [← S.add_assoc, S.add_comm (g x), S.add_assoc]
theorem sumF_mul (a : α) (l : List β) : sumF S (fun x => S.mul a (f x)) l = S.mul a (sumF S f l) := by
  induction l with
  | nil => exact (S.mul_zero _).symm
  | cons x l ih =>
    show S.add _ _ = S.mul _ (S.add _ _)
    rw [ih, S.mul_add]
theorem sumF_zero (l : List β) : sumF S (fun _ => S.zero) l = S.zero := by
  induction l with
  | nil => rfl
  | cons x l ih =>
    show S.add _ _ = _
    rw [ih, S.add_zero]
end
abbrev Ed := Nat × Nat
/-- an edge that can be taken beside a mask -/
def usE (U : Nat) (e : Ed) : Bool := decide (e.1 ≠ e.2) && !U.testBit e.1 && !U.testBit e.2
def orE (U : Nat) (e : Ed) : Nat := U ||| 2 ^ e.1 ||| 2 ^ e.2
theorem tb_or2 (U a i : Nat) : (U ||| 2 ^ a).testBit i = (U.testBit i || decide (a = i)) := by
  rw [Nat.testBit_or, Nat.testBit_two_pow]
theorem tb_orE (U : Nat) (e : Ed) (i : Nat) : (orE U e).testBit i = (U.testBit i || decide (e.1 = i) || decide (e.2 = i)) := by
  unfold orE
  rw [tb_or2, tb_or2]
theorem orE_comm (U : Nat) (e f : Ed) : orE (orE U e) f = orE (orE U f) e := by
  refine Nat.eq_of_testBit_eq fun i => ?_
  rw [tb_orE, tb_orE, tb_orE, tb_orE]
  cases U.testBit i <;> cases decide (e.1 = i) <;> cases decide (e.2 = i) <;> cases decide (f.1 = i) <;> cases decide (f.2 = i) <;> rfl
theorem us_comm (U : Nat) (e f : Ed) : (usE U e && usE (orE U e) f) = (usE U f && usE (orE U f) e) := by
  unfold usE
  rw [tb_orE, tb_orE, tb_orE, tb_orE]
  have h1 : decide (e.1 = f.1) = decide (f.1 = e.1) := decide_eq_decide.mpr eq_comm
  have h2 : decide (e.2 = f.1) = decide (f.1 = e.2) := decide_eq_decide.mpr eq_comm
  have h3 : decide (e.1 = f.2) = decide (f.2 = e.1) := decide_eq_decide.mpr eq_comm
  have h4 : decide (e.2 = f.2) = decide (f.2 = e.2) := decide_eq_decide.mpr eq_comm
  rw [h1, h2, h3, h4]
  cases decide (e.1 ≠ e.2) <;> cases decide (f.1 ≠ f.2) <;> cases U.testBit e.1 <;> cases U.testBit e.2 <;> cases U.testBit f.1 <;> cases U.testBit f.2 <;> cases decide (f.1 = e.1) <;> cases decide (f.1 = e.2) <;> cases decide (f.2 = e.1) <;> cases decide (f.2 = e.2) <;> rfl
variable (X : α)
/-- the sum over all matchings beside a mask, each edge gives X -/
def Pl : List Ed → Nat → α
  | [], _ => S.one
  | e :: r, U => if usE U e = true then S.add (Pl r U) (S.mul X (Pl r (orE U e))) else Pl r U
def atV (v : Nat) (e : Ed) : Bool := decide (e.1 = v) || decide (e.2 = v)
theorem us_at {U v : Nat} {e : Ed} (h : atV v e = true) (hU : U.testBit v = true) : usE U e = false := by
  unfold atV at h
  unfold usE
  rcases Bool.or_eq_true_iff.mp h with h | h
  · rw [of_decide_eq_true h, hU]
    cases decide (v ≠ e.2) <;> rfl
  · rw [of_decide_eq_true h, hU]
    cases decide (e.1 ≠ v) <;> cases U.testBit e.1 <;> rfl
theorem or_at {U v : Nat} {e : Ed} (h : atV v e = true) : (orE U e).testBit v = true := by
  rw [tb_orE]
  unfold atV at h
  rw [Bool.or_assoc, h, Bool.or_true]
theorem us_not {U v : Nat} {e : Ed} (h : atV v e = false) : usE (U ||| 2 ^ v) e = usE U e := by
  unfold atV at h
  obtain ⟨h1, h2⟩ := Bool.or_eq_false_iff.mp h
  have h1' : decide (v = e.1) = false := by rw [← h1]; exact decide_eq_decide.mpr eq_comm
  have h2' : decide (v = e.2) = false := by rw [← h2]; exact decide_eq_decide.mpr eq_comm
  unfold usE
  rw [tb_or2, tb_or2, h1', h2', Bool.or_false, Bool.or_false]
theorem or_not (U v : Nat) (e : Ed) : orE (U ||| 2 ^ v) e = orE U e ||| 2 ^ v := by
  refine Nat.eq_of_testBit_eq fun i => ?_
  rw [tb_orE, tb_or2, tb_or2, tb_orE]
  cases U.testBit i <;> cases decide (e.1 = i) <;> cases decide (e.2 = i) <;> cases decide (v = i) <;> rfl
/-- the vertex stays alone, or one edge at it is taken -/
theorem Pl_at {v : Nat} : ∀ (r : List Ed) (U : Nat), U.testBit v = false → Pl S X r U = S.add (Pl S X r (U ||| 2 ^ v)) (sumF S (fun e => if (atV v e && usE U e) = true then S.mul X (Pl S X r (orE U e)) else S.zero) r)
  | [], U, _ => (S.add_zero _).symm
  | e0 :: r, U, hU => by
    have hv : (U ||| 2 ^ v).testBit v = true := by
      rw [tb_or2, decide_eq_true rfl, Bool.or_true]
    have ih := Pl_at r U hU
    show Pl S X (e0 :: r) U = S.add _ (S.add (if (atV v e0 && usE U e0) = true then S.mul X (Pl S X (e0 :: r) (orE U e0)) else S.zero) (sumF S _ r))
    by_cases ha : atV v e0 = true
    · have h1 : Pl S X (e0 :: r) (U ||| 2 ^ v) = Pl S X r (U ||| 2 ^ v) := by
        rw [Pl, us_at ha hv]
        rfl
      have h2 : sumF S (fun e => if (atV v e && usE U e) = true then S.mul X (Pl S X (e0 :: r) (orE U e)) else S.zero) r = sumF S (fun e => if (atV v e && usE U e) = true then S.mul X (Pl S X r (orE U e)) else S.zero) r := sumF_congr S fun e _ => by
        by_cases z : (atV v e && usE U e) = true
        · have hz := or_at (U := U) (Bool.and_eq_true_iff.mp z).1
          rw [if_pos z, if_pos z, Pl, us_at ha hz]
          rfl
        · rw [if_neg z, if_neg z]
      rw [h1, h2]
      by_cases hu : usE U e0 = true
      · rw [if_pos (by rw [ha, hu]; rfl)]
        have h3 : Pl S X (e0 :: r) (orE U e0) = Pl S X r (orE U e0) := by
          rw [Pl, us_at ha (or_at ha)]
          rfl
        rw [h3, Pl, if_pos hu, ih, S.add_assoc]
        congr 1
        rw [S.add_comm]
      · rw [if_neg (by rw [ha, Bool.true_and]; exact hu), Pl, if_neg hu, S.zero_add]
        exact ih
    · have ha := Bool.eq_false_iff.mpr ha
      rw [if_neg (by rw [ha]; simp), S.zero_add]
      by_cases hu : usE U e0 = true
      · have hO : (orE U e0).testBit v = false := by
          unfold atV at ha
          obtain ⟨a1, a2⟩ := Bool.or_eq_false_iff.mp ha
          rw [tb_orE, hU, a1, a2]
          rfl
        have ih2 := Pl_at r (orE U e0) hO
        have h1 : Pl S X (e0 :: r) (U ||| 2 ^ v) = S.add (Pl S X r (U ||| 2 ^ v)) (S.mul X (Pl S X r (orE U e0 ||| 2 ^ v))) := by
          rw [Pl, us_not ha, if_pos hu, or_not]
        have h2 : sumF S (fun e => if (atV v e && usE U e) = true then S.mul X (Pl S X (e0 :: r) (orE U e)) else S.zero) r = S.add (sumF S (fun e => if (atV v e && usE U e) = true then S.mul X (Pl S X r (orE U e)) else S.zero) r) (S.mul X (sumF S (fun e => if (atV v e && usE (orE U e0) e) = true then S.mul X (Pl S X r (orE (orE U e0) e)) else S.zero) r)) := by
          rw [← sumF_mul, ← sumF_add]
          refine sumF_congr S fun e _ => ?_
          have hc := us_comm U e e0
          rw [hu, Bool.true_and] at hc
          cases z1 : atV v e with
          | false => simp only [Bool.false_and, Bool.false_eq_true, if_false, S.mul_zero, S.add_zero]
          | true =>
            simp only [Bool.true_and]
            cases z2 : usE U e with
            | false =>
              rw [z2, Bool.false_and] at hc
              simp only [← hc, Bool.false_eq_true, if_false, S.mul_zero, S.add_zero]
            | true =>
              rw [z2, Bool.true_and] at hc
              rw [if_pos rfl, if_pos rfl, Pl, hc, orE_comm]
              split
              · rw [S.mul_add]
              · rw [S.mul_zero, S.add_zero]
        rw [h1, h2, Pl, if_pos hu, ih, ih2, S.mul_add]
        simp only [S.add_assoc]
        congr 1
        rw [← S.add_assoc, S.add_comm (sumF S _ r), S.add_assoc]
      · have h1 : Pl S X (e0 :: r) (U ||| 2 ^ v) = Pl S X r (U ||| 2 ^ v) := by
          rw [Pl, us_not ha, if_neg hu]
        have hu := Bool.eq_false_iff.mpr hu
        have h2 : sumF S (fun e => if (atV v e && usE U e) = true then S.mul X (Pl S X (e0 :: r) (orE U e)) else S.zero) r = sumF S (fun e => if (atV v e && usE U e) = true then S.mul X (Pl S X r (orE U e)) else S.zero) r := sumF_congr S fun e _ => by
          have hc := us_comm U e e0
          rw [hu, Bool.false_and] at hc
          by_cases z : (atV v e && usE U e) = true
          · rw [if_pos z, if_pos z, Pl]
            rw [(Bool.and_eq_true_iff.mp z).2, Bool.true_and] at hc
            rw [hc]
            rfl
          · rw [if_neg z, if_neg z]
        rw [h1, h2, Pl, hu]
        exact ih
/-! ### rows and edges -/
theorem dot_filter (F : Nat → α) (m : Nat) : ∀ lk : List (Nat × α), dot S F ((lk.filter fun e => !m.testBit e.1).map fun e => (m ||| 2 ^ e.1, e.2)) = dot S (fun k => if m.testBit k = true then S.zero else F (m ||| 2 ^ k)) lk
  | [] => rfl
  | e :: lk => by
    cases z : m.testBit e.1 with
    | true =>
      rw [List.filter_cons_of_neg (by rw [z]; decide), dot_filter F m lk]
      show _ = S.add (S.mul e.2 (if m.testBit e.1 = true then S.zero else _)) _
      rw [z, if_pos rfl, S.mul_zero, S.zero_add]
    | false =>
      rw [List.filter_cons_of_pos (by rw [z]; rfl), List.map_cons]
      show S.add (S.mul e.2 (F (m ||| 2 ^ e.1))) (dot S F _) = S.add (S.mul e.2 (if m.testBit e.1 = true then S.zero else _)) _
      rw [dot_filter F m lk, z]
      rfl
theorem fr_step (alone : α) (lks : List (List (Nat × α))) {v : Nat} (hv : v < lks.length) (m : Nat) : Fr S alone (lks.drop v) v m = if m.testBit v = true then Fr S alone (lks.drop (v + 1)) (v + 1) (m ^^^ 2 ^ v) else S.add (S.mul alone (Fr S alone (lks.drop (v + 1)) (v + 1) m)) (dot S (fun k => if m.testBit k = true then S.zero else Fr S alone (lks.drop (v + 1)) (v + 1) (m ||| 2 ^ k)) (lks.getD v [])) := by
  rw [drop_getD hv [], Fr, chs]
  split
  · show S.add (S.mul S.one _) S.zero = _
    rw [S.add_zero, S.one_mul]
  · show S.add (S.mul alone _) (dot S _ _) = _
    rw [dot_filter]
end
end MT
namespace MT
section
variable {α : Type} (S : Sr α)
/-- a further edge, merged into its row -/
def lnE (lks : List (List (Nat × α))) (e : Nat × Nat × α) : List (List (Nat × α)) := if e.1 = e.2.1 then lks else lks.set (min e.1 e.2.1) (addA S (lks.getD (min e.1 e.2.1) []) (max e.1 e.2.1) e.2.2)
theorem lnE_len (lks : List (List (Nat × α))) (e : Nat × Nat × α) : (lnE S lks e).length = lks.length := by
  unfold lnE
  split
  · rfl
  · rw [List.length_set]
theorem fold_nd (es : List (Nat × Nat × α)) : ∀ lks : List (List (Nat × α)), (∀ v, (keysA (lks.getD v [])).Nodup) → ∀ v, (keysA ((es.foldl (lnE S) lks).getD v [])).Nodup := by
  induction es with
  | nil => exact fun _ h => h
  | cons e es ih =>
    intro lks h
    refine ih _ fun v => ?_
    unfold lnE
    split
    · exact h v
    · by_cases z : min e.1 e.2.1 = v
      · subst z
        by_cases hl : min e.1 e.2.1 < lks.length
        · rw [List.getD_eq_getElem?_getD, List.getElem?_set_self hl]
          exact nodup_put (h _) _ _
        · rw [List.getD_eq_getElem?_getD, List.getElem?_set, if_pos rfl, if_neg hl]
          exact List.nodup_nil
      · rw [List.getD_eq_getElem?_getD, List.getElem?_set_ne z, ← List.getD_eq_getElem?_getD]
        exact h v
/-- a row's sum goes over the edges -/
theorem row_dot (F : Nat → α) {v : Nat} : ∀ (es : List (Nat × Nat × α)) (lks : List (List (Nat × α))), v < lks.length → (∀ w, (keysA (lks.getD w [])).Nodup) →
    dot S F ((es.foldl (lnE S) lks).getD v []) = S.add (dot S F (lks.getD v [])) (sumF S (fun e => if e.1 ≠ e.2.1 ∧ min e.1 e.2.1 = v then S.mul e.2.2 (F (max e.1 e.2.1)) else S.zero) es)
  | [], lks, _, _ => (S.add_zero _).symm
  | e :: es, lks, hv, h => by
    have hn := fold_nd S [e] lks h
    have hl : v < (lnE S lks e).length := by rw [lnE_len]; exact hv
    rw [List.foldl_cons, row_dot F es (lnE S lks e) hl hn]
    show _ = S.add _ (S.add (if e.1 ≠ e.2.1 ∧ min e.1 e.2.1 = v then S.mul e.2.2 (F (max e.1 e.2.1)) else S.zero) _)
    rw [← S.add_assoc]
    congr 1
    unfold lnE
    by_cases z : e.1 = e.2.1
    · rw [if_pos z, if_neg (fun q => q.1 z), S.add_zero]
    · rw [if_neg z]
      by_cases y : min e.1 e.2.1 = v
      · rw [if_pos ⟨z, y⟩, y, List.getD_eq_getElem?_getD, List.getElem?_set_self hv]
        exact dot_add S F (h v) _ _
      · rw [if_neg (fun q => y q.2), S.add_zero, List.getD_eq_getElem?_getD, List.getElem?_set_ne y, ← List.getD_eq_getElem?_getD]
def lnS (count : Nat) (es : List (Nat × Nat × α)) : List (List (Nat × α)) := es.foldl (lnE S) (List.replicate count [])
theorem lnS_len (count : Nat) (es : List (Nat × Nat × α)) : (lnS S count es).length = count := by
  have : ∀ (l : List (Nat × Nat × α)) (s : List (List (Nat × α))), (l.foldl (lnE S) s).length = s.length := fun l => by
    induction l with
    | nil => exact fun s => rfl
    | cons x l ih2 => exact fun s => (ih2 _).trans (lnE_len S s x)
  unfold lnS
  rw [this, List.length_replicate]
theorem lnS_dot (F : Nat → α) {count v : Nat} (hv : v < count) (es : List (Nat × Nat × α)) : dot S F ((lnS S count es).getD v []) = sumF S (fun e => if e.1 ≠ e.2.1 ∧ min e.1 e.2.1 = v then S.mul e.2.2 (F (max e.1 e.2.1)) else S.zero) es := by
  have e0 : ∀ w, (List.replicate count ([] : List (Nat × α))).getD w [] = [] := fun w => by
    rw [List.getD_eq_getElem?_getD, List.getElem?_replicate]
    split <;> rfl
  unfold lnS
  rw [row_dot S F es _ (by rw [List.length_replicate]; exact hv) (fun w => by rw [e0]; exact List.nodup_nil), e0]
  exact S.zero_add _
theorem sumF_map {β γ : Type} (f : γ → α) (g : β → γ) : ∀ l : List β, sumF S f (l.map g) = sumF S (fun x => f (g x)) l
  | [] => rfl
  | x :: l => by
    show S.add _ _ = S.add _ _
    rw [sumF_map f g l]
/-- all bits below v -/
def low (v : Nat) : Nat := 2 ^ v - 1
theorem low_tb (v i : Nat) : (low v).testBit i = decide (i < v) := Nat.testBit_two_pow_sub_one v i
variable (X : α)
/-- the program's sum over matchings goes over all sets of edges -/
theorem fr_pl {count : Nat} {es : List Ed} (hin : ∀ e ∈ es, e.1 < count ∧ e.2 < count) : ∀ (k v m : Nat), v + k = count → KeyOk v count m →
    Fr S S.one ((lnS S count (es.map fun e => (e.1, e.2, X))).drop v) v m = Pl S X es (low v ||| m)
  | 0, v, m, hv, hm => by
    have hv : v = count := by omega
    subst hv
    have m0 : m = 0 := Nat.eq_of_testBit_eq fun i => by
      rw [Nat.zero_testBit]
      by_cases hi : i < v
      · exact hm.2 i hi
      · exact Nat.testBit_lt_two_pow (Nat.lt_of_lt_of_le hm.1 (Nat.pow_le_pow_right (by decide) (by omega)))
    subst m0
    rw [List.drop_eq_nil_of_le (by rw [lnS_len]; exact Nat.le_refl _), Nat.or_zero]
    show S.one = _
    have : ∀ l : List Ed, (∀ e ∈ l, e.1 < v ∧ e.2 < v) → Pl S X l (low v) = S.one := fun l => by
      induction l with
      | nil => exact fun _ => rfl
      | cons e l ih =>
        intro h
        have hu : usE (low v) e = false := by
          unfold usE
          rw [low_tb, decide_eq_true (h e (List.mem_cons_self ..)).1]
          cases decide (e.1 ≠ e.2) <;> rfl
        rw [Pl, hu]
        exact ih fun f m => h f (List.mem_cons_of_mem _ m)
    exact (this es hin).symm
  | k + 1, v, m, hv, hm => by
    have hvc : v < count := by omega
    have ll := lnS_len S count (es.map fun e => (e.1, e.2, X))
    rw [fr_step S S.one _ (by omega) m]
    have ih := fr_pl hin k (v + 1)
    by_cases hb : m.testBit v = true
    · rw [if_pos hb]
      have hm2 : KeyOk (v + 1) count (m ^^^ 2 ^ v) := chs_ok S (alone := S.one) (lk := []) hvc hm (fun e h => by cases h) (m ^^^ 2 ^ v, S.one) (by unfold chs; rw [if_pos hb]; exact List.mem_cons_self ..)
      rw [ih _ (by omega) hm2]
      congr 1
      refine Nat.eq_of_testBit_eq fun i => ?_
      rw [Nat.testBit_or, Nat.testBit_or, Nat.testBit_xor, Nat.testBit_two_pow, low_tb, low_tb]
      by_cases e : v = i
      · subst e
        rw [hb, decide_eq_true (Nat.lt_succ_self v)]
        simp
      · rw [decide_eq_false e, Bool.xor_false]
        congr 1
        exact decide_eq_decide.mpr ⟨fun h => by omega, fun h => by omega⟩
    · rw [if_neg hb, S.one_mul]
      have hb := Bool.eq_false_iff.mpr hb
      have hU : (low v ||| m).testBit v = false := by
        rw [Nat.testBit_or, low_tb, hb, decide_eq_false (Nat.lt_irrefl v)]
        rfl
      rw [Pl_at S X es _ hU]
      have hm2 : KeyOk (v + 1) count m := ⟨hm.1, fun i hi => by
        by_cases e : i = v
        · rw [e]
          exact hb
        · exact hm.2 i (by omega)⟩
      have e1 : low v ||| m ||| 2 ^ v = low (v + 1) ||| m := by
        refine Nat.eq_of_testBit_eq fun i => ?_
        rw [tb_or2, Nat.testBit_or, Nat.testBit_or, low_tb, low_tb]
        by_cases e : v = i
        · subst e
          rw [decide_eq_true rfl, decide_eq_true (Nat.lt_succ_self v)]
          simp
        · rw [decide_eq_false e, Bool.or_false]
          congr 1
          exact decide_eq_decide.mpr ⟨fun h => by omega, fun h => by omega⟩
      rw [ih m (by omega) hm2, e1]
      congr 1
      rw [lnS_dot S _ hvc, sumF_map]
      refine sumF_congr S fun e he => ?_
      obtain ⟨b1, b2⟩ := hin e he
      have hmx : max e.1 e.2 < count := by omega
      by_cases c : e.1 ≠ e.2 ∧ min e.1 e.2 = v
      · obtain ⟨c1, c2⟩ := c
        rw [if_pos ⟨c1, c2⟩]
        have hat : atV v e = true := by
          unfold atV
          by_cases z : e.1 = v
          · rw [decide_eq_true z]
            rfl
          · rw [decide_eq_true (show e.2 = v by omega), Bool.or_true]
        have hus : usE (low v ||| m) e = !m.testBit (max e.1 e.2) := by
          unfold usE
          rw [Nat.testBit_or, Nat.testBit_or, low_tb, low_tb, decide_eq_true c1, decide_eq_false (show ¬ e.1 < v by omega), decide_eq_false (show ¬ e.2 < v by omega), Bool.true_and, Bool.false_or, Bool.false_or]
          by_cases z : e.1 = v
          · rw [z, hb, show max v e.2 = e.2 by omega]
            rfl
          · rw [show e.2 = v by omega, hb, show max e.1 v = e.1 by omega]
            cases m.testBit e.1 <;> rfl
        rw [hat, hus, Bool.true_and]
        cases z : m.testBit (max e.1 e.2) with
        | true => 
          simp only [if_true, Bool.not_true, Bool.false_eq_true, if_false]
          exact S.mul_zero _
        | false =>
          simp only [Bool.false_eq_true, if_false, Bool.not_false, if_true]
          congr 1
          have hm3 : KeyOk (v + 1) count (m ||| 2 ^ max e.1 e.2) := ⟨Nat.or_lt_two_pow hm.1 (Nat.pow_lt_pow_right (by decide) hmx), fun i hi => by
            rw [tb_or2, hm2.2 i hi, decide_eq_false (show ¬ max e.1 e.2 = i by omega)]
            rfl⟩
          rw [ih _ (by omega) hm3]
          congr 1
          refine Nat.eq_of_testBit_eq fun i => ?_
          rw [Nat.testBit_or, Nat.testBit_or, Nat.testBit_two_pow, tb_orE, Nat.testBit_or, low_tb, low_tb]
          have h5 : (i < v + 1 ∨ max e.1 e.2 = i) ↔ (i < v ∨ e.1 = i ∨ e.2 = i) := by omega
          cases m.testBit i with
          | true => simp
          | false =>
            simp only [Bool.false_or, Bool.or_false]
            rw [Bool.eq_iff_iff]
            simp only [Bool.or_eq_true, decide_eq_true_eq, or_assoc]
            exact h5
      · rw [if_neg c]
        have : (atV v e && usE (low v ||| m) e) = false := by
          cases z : atV v e && usE (low v ||| m) e with
          | false => rfl
          | true =>
            exfalso
            obtain ⟨z1, z2⟩ := Bool.and_eq_true_iff.mp z
            unfold atV at z1
            unfold usE at z2
            rw [Nat.testBit_or, Nat.testBit_or, low_tb, low_tb] at z2
            obtain ⟨z2, z4⟩ := Bool.and_eq_true_iff.mp z2
            obtain ⟨z2, z3⟩ := Bool.and_eq_true_iff.mp z2
            have h1 := of_decide_eq_true z2
            have h3 : ¬ e.1 < v := fun q => by rw [decide_eq_true q] at z3; simp at z3
            have h4 : ¬ e.2 < v := fun q => by rw [decide_eq_true q] at z4; simp at z4
            refine c ⟨h1, ?_⟩
            rcases Bool.or_eq_true_iff.mp z1 with q | q
            · have := of_decide_eq_true q
              omega
            · have := of_decide_eq_true q
              omega
        rw [this]
        rfl
end
end MT
/-! ### perfect matchings, by the least free vertex -/
namespace MT
section
variable {α : Type} (S : Sr α)
theorem step_go2 (F : Nat → α) (c : Nat → List (Nat × α)) : ∀ (T g : List (Nat × α)), (keysA g).Nodup → (keysA (T.foldl (fun g p => fill S p.2 g (c p.1)) g)).Nodup ∧ dot S F (T.foldl (fun g p => fill S p.2 g (c p.1)) g) = S.add (dot S F g) (dot S (fun m => dot S F (c m)) T)
  | [], g, h => ⟨h, (S.add_zero _).symm⟩
  | p :: T, g, h => by
    obtain ⟨h1, h2⟩ := step_go2 F c T (fill S p.2 g (c p.1)) (fill_nodup S p.2 _ _ h)
    refine ⟨h1, ?_⟩
    rw [List.foldl_cons, h2, fill_dot S F p.2 _ _ h, S.add_assoc]
    rfl
variable (n : Nat) (es : List (Nat × Nat × α))
/-- what is due for a set of taken vertices -/
def Rd (U : Nat) : α := Fr S S.zero (lnS S n es) 0 U
theorem skip {U : Nat} (hU : U < 2 ^ n) : ∀ v, v ≤ n → (∀ i < v, U.testBit i = true) → Rd S n es U = Fr S S.zero ((lnS S n es).drop v) v (U ^^^ low v)
  | 0, _, _ => by
    have : U ^^^ low 0 = U := by
      unfold low
      rw [Nat.pow_zero, Nat.sub_self, Nat.xor_zero]
    rw [this]
    rfl
  | v + 1, h, hb => by
    rw [skip hU v (by omega) (fun i hi => hb i (by omega)), fr_step S S.zero _ (by rw [lnS_len]; omega), if_pos (by rw [Nat.testBit_xor, low_tb, hb v (by omega), decide_eq_false (Nat.lt_irrefl v)]; rfl)]
    congr 1
    refine Nat.eq_of_testBit_eq fun i => ?_
    rw [Nat.testBit_xor, Nat.testBit_xor, Nat.testBit_xor, Nat.testBit_two_pow, low_tb, low_tb]
    by_cases e : v = i
    · subst e
      rw [decide_eq_true rfl, decide_eq_false (Nat.lt_irrefl v), decide_eq_true (Nat.lt_succ_self v)]
      cases U.testBit v <;> rfl
    · rw [decide_eq_false e, Bool.xor_false]
      congr 1
      exact decide_eq_decide.mpr ⟨fun h => by omega, fun h => by omega⟩
theorem Rd_full {U : Nat} (hU : U < 2 ^ n) (hb : ∀ i < n, U.testBit i = true) : Rd S n es U = S.one := by
  rw [skip S n es hU n (Nat.le_refl n) hb, List.drop_eq_nil_of_le (by rw [lnS_len]; exact Nat.le_refl _)]
  have : U ^^^ low n = 0 := Nat.eq_of_testBit_eq fun i => by
    rw [Nat.testBit_xor, low_tb, Nat.zero_testBit]
    by_cases h : i < n
    · rw [hb i h, decide_eq_true h]
      rfl
    · rw [decide_eq_false h, Nat.testBit_lt_two_pow (Nat.lt_of_lt_of_le hU (Nat.pow_le_pow_right (by decide) (by omega)))]
      rfl
  rw [Fr, if_pos this]
/-- an edge from the least free vertex to a free one -/
def cnd (v U : Nat) (e : Nat × Nat × α) : Bool := decide (e.1 ≠ e.2.1) && decide (min e.1 e.2.1 = v) && !U.testBit (max e.1 e.2.1)
def orD (U : Nat) (e : Nat × Nat × α) : Nat := U ||| 2 ^ e.1 ||| 2 ^ e.2.1
def cD (v U : Nat) : List (Nat × α) := (es.filter (cnd v U)).map fun e => (orD U e, e.2.2)
theorem dot_cD (F : Nat → α) (v U : Nat) : ∀ es : List (Nat × Nat × α), dot S F (cD es v U) = sumF S (fun e => if cnd v U e = true then S.mul e.2.2 (F (orD U e)) else S.zero) es
  | [] => rfl
  | e :: es => by
    have ih := dot_cD F v U es
    unfold cD at ih ⊢
    by_cases h : cnd v U e = true
    · rw [List.filter_cons_of_pos h, List.map_cons]
      show S.add _ (dot S F _) = S.add (if cnd v U e = true then _ else _) _
      rw [ih, if_pos h]
    · rw [List.filter_cons_of_neg h, ih]
      show _ = S.add (if cnd v U e = true then _ else _) _
      rw [if_neg h, S.zero_add]
theorem Rd_step (hin : ∀ e ∈ es, e.1 < n ∧ e.2.1 < n) {U v : Nat} (hU : U < 2 ^ n) (hv : v < n) (hb : ∀ i < v, U.testBit i = true) (hf : U.testBit v = false) : Rd S n es U = dot S (Rd S n es) (cD es v U) := by
  have hm : (U ^^^ low v).testBit v = false := by
    rw [Nat.testBit_xor, low_tb, hf, decide_eq_false (Nat.lt_irrefl v)]
    rfl
  rw [skip S n es hU v (by omega) hb, fr_step S S.zero _ (by rw [lnS_len]; exact hv), if_neg (by rw [hm]; decide), S.zero_mul, S.zero_add, lnS_dot S _ hv, dot_cD]
  refine sumF_congr S fun e he => ?_
  obtain ⟨h1, h2⟩ := hin e he
  unfold cnd
  by_cases z1 : e.1 = e.2.1
  · rw [if_neg (fun q => q.1 z1), decide_eq_false (fun q => q z1)]
    rfl
  · by_cases z2 : min e.1 e.2.1 = v
    · rw [if_pos ⟨z1, z2⟩, decide_eq_true z1, decide_eq_true z2]
      have hk : v < max e.1 e.2.1 := by omega
      have hkn : max e.1 e.2.1 < n := by omega
      have hmk : (U ^^^ low v).testBit (max e.1 e.2.1) = U.testBit (max e.1 e.2.1) := by
        rw [Nat.testBit_xor, low_tb, decide_eq_false (by omega), Bool.xor_false]
      rw [hmk]
      cases z3 : U.testBit (max e.1 e.2.1) with
      | true =>
        rw [if_pos rfl]
        show S.mul _ S.zero = _
        rw [S.mul_zero]
        rfl
      | false =>
        rw [if_neg (by decide)]
        show _ = S.mul e.2.2 _
        congr 1
        have eo : orD U e = U ||| 2 ^ v ||| 2 ^ (max e.1 e.2.1) := by
          refine Nat.eq_of_testBit_eq fun i => ?_
          unfold orD
          rw [Nat.testBit_or, Nat.testBit_or, Nat.testBit_or, Nat.testBit_or, Nat.testBit_two_pow, Nat.testBit_two_pow, Nat.testBit_two_pow, Nat.testBit_two_pow]
          by_cases hl : e.1 < e.2.1
          · have a1 : v = e.1 := by omega
            have a2 : max e.1 e.2.1 = e.2.1 := by omega
            rw [a1, a2]
          · have a1 : v = e.2.1 := by omega
            have a2 : max e.1 e.2.1 = e.1 := by omega
            rw [a1, a2, Bool.or_assoc, Bool.or_assoc, Bool.or_comm (decide (e.1 = i))]
        have p1 : 2 ^ v < 2 ^ n := Nat.pow_lt_pow_right (by decide) hv
        have p2 : 2 ^ (max e.1 e.2.1) < 2 ^ n := Nat.pow_lt_pow_right (by decide) hkn
        rw [eo, skip S n es (Nat.or_lt_two_pow (Nat.or_lt_two_pow hU p1) p2) (v + 1) hv (fun i hi => by
          rw [Nat.testBit_or, Nat.testBit_or, Nat.testBit_two_pow]
          by_cases q : v = i
          · rw [decide_eq_true q]
            simp
          · rw [hb i (by omega)]
            simp)]
        congr 1
        refine Nat.eq_of_testBit_eq fun i => ?_
        rw [Nat.testBit_xor, Nat.testBit_or, Nat.testBit_or, Nat.testBit_or, Nat.testBit_xor, Nat.testBit_two_pow, Nat.testBit_two_pow, low_tb, low_tb]
        rcases Nat.lt_trichotomy i v with q | q | q
        · rw [hb i q, decide_eq_true q, decide_eq_true (show i < v + 1 by omega), decide_eq_false (show ¬ max e.1 e.2.1 = i by omega)]
          cases decide (v = i) <;> rfl
        · subst q
          rw [hf, decide_eq_true rfl, decide_eq_false (Nat.lt_irrefl i), decide_eq_true (Nat.lt_succ_self i), decide_eq_false (show ¬ max e.1 e.2.1 = i by omega)]
          rfl
        · rw [decide_eq_false (show ¬ i < v by omega), decide_eq_false (show ¬ i < v + 1 by omega), decide_eq_false (show ¬ v = i by omega)]
          cases U.testBit i <;> cases decide (max e.1 e.2.1 = i) <;> rfl
    · rw [if_neg (fun q => z2 q.2), decide_eq_false z2, Bool.and_false]
      rfl
/-! bits of a set, and the least free vertex -/
def bitsM (n U : Nat) : List Nat := (List.range n).filter fun k => U.testBit k
def freeM (n U : Nat) : List Nat := (List.range n).filter fun k => !U.testBit k
theorem bits_succ (n U : Nat) : (bitsM (n + 1) U).length = (bitsM n U).length + if U.testBit n = true then 1 else 0 := by
  unfold bitsM
  rw [List.range_succ, List.filter_append, List.length_append]
  congr 1
  by_cases h : U.testBit n = true
  · rw [if_pos h, List.filter_cons_of_pos h]
    rfl
  · rw [if_neg h, List.filter_cons_of_neg h]
    rfl
theorem bits_le (n U : Nat) : (bitsM n U).length ≤ n := by
  have := List.length_filter_le (fun k => U.testBit k) (List.range n)
  rwa [List.length_range] at this
theorem bits_or {a U : Nat} (hf : U.testBit a = false) : ∀ n, (bitsM n (U ||| 2 ^ a)).length = (bitsM n U).length + if a < n then 1 else 0
  | 0 => by simp [bitsM]
  | n + 1 => by
    rw [bits_succ, bits_succ, bits_or hf n, Nat.testBit_or, Nat.testBit_two_pow]
    rcases Nat.lt_trichotomy a n with q | q | q
    · rw [if_pos q, if_pos (show a < n + 1 by omega), decide_eq_false (by omega), Bool.or_false]
      omega
    · subst q
      rw [if_neg (Nat.lt_irrefl a), if_pos (Nat.lt_succ_self a), hf, decide_eq_true rfl]
      simp
    · rw [decide_eq_false (show ¬ a = n by omega), Bool.or_false, if_neg (show ¬ a < n by omega), if_neg (show ¬ a < n + 1 by omega)]
      omega
theorem bits_all {U : Nat} : ∀ n, (bitsM n U).length = n → ∀ i < n, U.testBit i = true
  | 0, _, i, h => by omega
  | n + 1, h, i, hi => by
    rw [bits_succ] at h
    have := bits_le n U
    by_cases z : U.testBit n = true
    · rw [if_pos z] at h
      by_cases e : i = n
      · rw [e]
        exact z
      · exact bits_all n (by omega) i (by omega)
    · rw [if_neg z] at h
      omega
theorem free_ne {n U : Nat} (h : (bitsM n U).length < n) : freeM n U ≠ [] := fun z => by
  have : ∀ k ∈ List.range n, U.testBit k = true := fun k hk => by
    cases q : U.testBit k with
    | true => rfl
    | false =>
      have : k ∈ freeM n U := List.mem_filter.mpr ⟨hk, by rw [q]; rfl⟩
      rw [z] at this
      cases this
  have e : bitsM n U = List.range n := List.filter_eq_self.mpr this
  rw [e, List.length_range] at h
  omega
theorem free_head {n U a : Nat} {t : List Nat} (h : freeM n U = a :: t) : a < n ∧ U.testBit a = false ∧ ∀ i < a, U.testBit i = true := by
  have ha : a ∈ freeM n U := by rw [h]; exact List.mem_cons_self ..
  obtain ⟨h1, h2⟩ := List.mem_filter.mp ha
  have h1 := List.mem_range.mp h1
  have h3 : U.testBit a = false := by
    cases z : U.testBit a with
    | false => rfl
    | true =>
      rw [z] at h2
      cases h2
  refine ⟨h1, h3, fun i hi => ?_⟩
  cases z : U.testBit i with
  | true => rfl
  | false =>
    have hm : i ∈ freeM n U := List.mem_filter.mpr ⟨List.mem_range.mpr (by omega), by rw [z]; rfl⟩
    have hp : (freeM n U).Pairwise (· < ·) := List.Pairwise.filter _ List.pairwise_lt_range
    rw [h] at hm hp
    rcases List.mem_cons.mp hm with q | q
    · omega
    · have := (List.pairwise_cons.mp hp).1 i q
      omega
def lowF (n U : Nat) : Nat := (freeM n U).headD 0
def stepD (T : List (Nat × α)) : List (Nat × α) := T.foldl (fun g p => fill S p.2 g (cD es (lowF n p.1) p.1)) []
def tabD : Nat → List (Nat × α)
  | 0 => [(0, S.one)]
  | k + 1 => stepD S n es (tabD k)
theorem dot_congr {F G : Nat → α} : ∀ {T : List (Nat × α)}, (∀ p ∈ T, F p.1 = G p.1) → dot S F T = dot S G T
  | [], _ => rfl
  | p :: T, h => by
    show S.add _ _ = S.add _ _
    rw [h p (List.mem_cons_self ..), dot_congr fun q m => h q (List.mem_cons_of_mem _ m)]
theorem low_spec {n U : Nat} (h : (bitsM n U).length < n) : lowF n U < n ∧ U.testBit (lowF n U) = false ∧ ∀ i < lowF n U, U.testBit i = true := by
  match e : freeM n U, free_ne h with
  | a :: t, _ =>
    have : lowF n U = a := by
      unfold lowF
      rw [e]
      rfl
    rw [this]
    exact free_head e
theorem cD_ok (hin : ∀ e ∈ es, e.1 < n ∧ e.2.1 < n) {U : Nat} (hU : U < 2 ^ n) (h : (bitsM n U).length < n) : ∀ c ∈ cD es (lowF n U) U, c.1 < 2 ^ n ∧ (bitsM n c.1).length = (bitsM n U).length + 2 := fun c hc => by
  obtain ⟨l1, l2, l3⟩ := low_spec h
  obtain ⟨e, he, rfl⟩ := List.mem_map.mp hc
  obtain ⟨m1, m2⟩ := List.mem_filter.mp he
  obtain ⟨h1, h2⟩ := hin e m1
  unfold cnd at m2
  simp only [Bool.and_eq_true, decide_eq_true_eq, Bool.not_eq_true'] at m2
  obtain ⟨⟨k1, k2⟩, k3⟩ := m2
  have f1 : U.testBit e.1 = false := by
    by_cases q : e.1 < e.2.1
    · rw [show e.1 = lowF n U by omega]
      exact l2
    · rw [show e.1 = max e.1 e.2.1 by omega]
      exact k3
  have f2 : U.testBit e.2.1 = false := by
    by_cases q : e.1 < e.2.1
    · rw [show e.2.1 = max e.1 e.2.1 by omega]
      exact k3
    · rw [show e.2.1 = lowF n U by omega]
      exact l2
  have f3 : (U ||| 2 ^ e.1).testBit e.2.1 = false := by
    rw [Nat.testBit_or, f2, Nat.testBit_two_pow, decide_eq_false (by omega)]
    rfl
  refine ⟨Nat.or_lt_two_pow (Nat.or_lt_two_pow hU (Nat.pow_lt_pow_right (by decide) h1)) (Nat.pow_lt_pow_right (by decide) h2), ?_⟩
  show (bitsM n (U ||| 2 ^ e.1 ||| 2 ^ e.2.1)).length = _
  rw [bits_or f3, bits_or f1, if_pos h1, if_pos h2]
/-- the table behind k turns -/
theorem tabD_ok (hin : ∀ e ∈ es, e.1 < n ∧ e.2.1 < n) : ∀ k, 2 * k ≤ n → (keysA (tabD S n es k)).Nodup ∧ (∀ U ∈ keysA (tabD S n es k), U < 2 ^ n ∧ (bitsM n U).length = 2 * k) ∧ dot S (Rd S n es) (tabD S n es k) = Rd S n es 0
  | 0, _ => ⟨by simp [keysA, tabD], fun U hU => by
      rw [List.mem_singleton.mp hU]
      refine ⟨Nat.two_pow_pos n, ?_⟩
      have : bitsM n 0 = [] := List.filter_eq_nil_iff.mpr fun k _ => by
        rw [Nat.zero_testBit]
        decide
      rw [this]
      rfl, by
      show S.add (S.mul S.one (Rd S n es 0)) S.zero = _
      rw [S.add_zero, S.one_mul]⟩
  | k + 1, h => by
    obtain ⟨h1, h2, h3⟩ := tabD_ok hin k (by omega)
    obtain ⟨k1, k2⟩ := step_go2 S (Rd S n es) (fun U => cD es (lowF n U) U) (tabD S n es k) [] List.nodup_nil
    refine ⟨k1, ?_, ?_⟩
    · have go : ∀ (T g : List (Nat × α)), (∀ U ∈ keysA T, U < 2 ^ n ∧ (bitsM n U).length = 2 * k) → (∀ U ∈ keysA g, U < 2 ^ n ∧ (bitsM n U).length = 2 * (k + 1)) → ∀ U ∈ keysA (T.foldl (fun g p => fill S p.2 g (cD es (lowF n p.1) p.1)) g), U < 2 ^ n ∧ (bitsM n U).length = 2 * (k + 1) := by
        intro T
        induction T with
        | nil => exact fun g _ hg => hg
        | cons p T ih =>
          intro g hT hg
          rw [List.foldl_cons]
          refine ih _ (fun U hU => hT U (List.mem_cons_of_mem _ hU)) (keys_fill S p.2 (fun U => U < 2 ^ n ∧ (bitsM n U).length = 2 * (k + 1)) _ _ (fun c hc => ?_) hg)
          obtain ⟨a, b⟩ := hT p.1 (List.mem_cons_self ..)
          obtain ⟨c1, c2⟩ := cD_ok n es hin a (by omega) c hc
          exact ⟨c1, by omega⟩
      exact go _ [] h2 (fun U hU => by cases hU)
    · show dot S _ (stepD S n es _) = _
      unfold stepD
      rw [k2, ← h3, show dot S (Rd S n es) [] = S.zero from rfl, S.zero_add]
      refine dot_congr S fun p hp => ?_
      obtain ⟨a, b⟩ := h2 p.1 (List.mem_map.mpr ⟨p, hp, rfl⟩)
      obtain ⟨l1, l2, l3⟩ := low_spec (n := n) (U := p.1) (by omega)
      exact (Rd_step S n es hin a l1 l3 l2).symm
/-- the end, for an odd number of vertices: nothing -/
theorem tabD_odd (hin : ∀ e ∈ es, e.1 < n ∧ e.2.1 < n) (ho : n % 2 = 1) : Rd S n es 0 = S.zero := by
  obtain ⟨h1, h2, h3⟩ := tabD_ok S n es hin (n / 2) (by omega)
  rw [← h3]
  have : ∀ T : List (Nat × α), (∀ U ∈ keysA T, U < 2 ^ n ∧ (bitsM n U).length = 2 * (n / 2)) → dot S (Rd S n es) T = S.zero := fun T => by
    induction T with
    | nil => exact fun _ => rfl
    | cons p T ih =>
      intro h
      obtain ⟨a, b⟩ := h p.1 (List.mem_cons_self ..)
      obtain ⟨l1, l2, l3⟩ := low_spec (n := n) (U := p.1) (by omega)
      have hc : cD es (lowF n p.1) p.1 = [] := by
        match e : cD es (lowF n p.1) p.1 with
        | [] => rfl
        | c :: t =>
          obtain ⟨_, c2⟩ := cD_ok n es hin a (by omega) c (by rw [e]; exact List.mem_cons_self ..)
          have := bits_le n c.1
          omega
      show S.add (S.mul p.2 (Rd S n es p.1)) (dot S _ T) = _
      rw [ih fun U hU => h U (List.mem_cons_of_mem _ hU), Rd_step S n es hin a l1 l3 l2, hc]
      show S.add (S.mul p.2 S.zero) S.zero = _
      rw [S.mul_zero, S.add_zero]
  exact this _ h2
/-- the end, for an even number: one sum, or nothing -/
theorem tabD_even (hin : ∀ e ∈ es, e.1 < n ∧ e.2.1 < n) (he : n % 2 = 0) : (tabD S n es (n / 2) = [] ∧ Rd S n es 0 = S.zero) ∨ tabD S n es (n / 2) = [(low n, Rd S n es 0)] := by
  obtain ⟨h1, h2, h3⟩ := tabD_ok S n es hin (n / 2) (by omega)
  have hk : ∀ U ∈ keysA (tabD S n es (n / 2)), U = low n := fun U hU => by
    obtain ⟨a, b⟩ := h2 U hU
    refine Nat.eq_of_testBit_eq fun i => ?_
    rw [low_tb]
    by_cases hi : i < n
    · rw [bits_all n (by omega) i hi, decide_eq_true hi]
    · rw [decide_eq_false hi]
      exact Nat.testBit_lt_two_pow (Nat.lt_of_lt_of_le a (Nat.pow_le_pow_right (by decide) (by omega)))
  generalize tabD S n es (n / 2) = T at *
  match T with
  | [] => exact .inl ⟨rfl, h3.symm⟩
  | [p] =>
    refine .inr ?_
    have hp := hk p.1 (List.mem_cons_self ..)
    obtain ⟨a, b⟩ := h2 p.1 (List.mem_cons_self ..)
    have h3 : S.add (S.mul p.2 (Rd S n es p.1)) S.zero = Rd S n es 0 := h3
    rw [Rd_full S n es a (bits_all n (by omega)), S.mul_one, S.add_zero] at h3
    rw [← h3, ← hp]
  | p :: r :: t =>
    have e1 := hk p.1 (List.mem_cons_self ..)
    have e2 := hk r.1 (List.mem_cons_of_mem _ (List.mem_cons_self ..))
    have := (List.nodup_cons.mp (show (p.1 :: r.1 :: keysA t).Nodup from h1)).1
    exact absurd (by rw [e1, e2]; exact List.mem_cons_self ..) this
end
end MT
namespace K04
def gs (n d : Int) : Int := if d < 0 then -((Nat.gcd n.natAbs d.natAbs : Nat) : Int) else ((Nat.gcd n.natAbs d.natAbs : Nat) : Int)
def F (n d : Int) : Int × Int := (n.fdiv (gs n d), d.fdiv (gs n d))
theorem gs_ne {n d : Int} (h : d ≠ 0) : gs n d ≠ 0 := by
  have h1 : Nat.gcd n.natAbs d.natAbs ≠ 0 := fun e => by
    have := (Nat.gcd_eq_zero_iff.mp e).2
    omega
  unfold gs
  split <;> omega
theorem gs_abs (n d : Int) : (gs n d).natAbs = Nat.gcd n.natAbs d.natAbs := by
  unfold gs
  split <;> omega
theorem gs_dvd1 (n d : Int) : gs n d ∣ n := by
  rw [← Int.natAbs_dvd_natAbs, gs_abs]
  exact Nat.gcd_dvd_left _ _
theorem gs_dvd2 (n d : Int) : gs n d ∣ d := by
  rw [← Int.natAbs_dvd_natAbs, gs_abs]
  exact Nat.gcd_dvd_right _ _
theorem gs_le (n : Int) {d : Int} (h : d ≠ 0) : (gs n d).natAbs ≤ d.natAbs := by
  rw [gs_abs]
  exact Nat.gcd_le_right _ (by omega)
theorem fdiv_of {n g m : Int} (hg : g ≠ 0) (h : n = g * m) : n.fdiv g = m := by
  rw [h, Int.mul_fdiv_cancel_left _ hg]
theorem gs_sign (n : Int) {d : Int} (h : d ≠ 0) : (0 < gs n d ∧ 0 < d) ∨ (gs n d < 0 ∧ d < 0) := by
  have h0 := gs_ne (n := n) h
  unfold gs at *
  split
  · rename_i hd
    rw [if_pos hd] at h0
    omega
  · rename_i hd
    rw [if_neg hd] at h0
    omega
theorem F_parts (n : Int) {d : Int} (h : d ≠ 0) : ∃ a b : Int, F n d = (a, b) ∧ n = gs n d * a ∧ d = gs n d * b ∧ 0 < b := by
  obtain ⟨a, ha⟩ := gs_dvd1 n d
  obtain ⟨b, hb⟩ := gs_dvd2 n d
  have hg := gs_ne (n := n) h
  refine ⟨a, b, ?_, ha, hb, ?_⟩
  · unfold F
    rw [fdiv_of hg ha, fdiv_of hg hb]
  · rcases gs_sign n h with ⟨h1, h2⟩ | ⟨h1, h2⟩
    · rw [hb] at h2
      exact Int.pos_of_mul_pos_right h2 h1
    · rw [hb] at h2
      rcases Int.lt_trichotomy b 0 with hx | hx | hx
      · have := Int.mul_pos_of_neg_of_neg h1 hx
        omega
      · subst hx
        omega
      · exact hx
theorem gs_scale {k n d : Int} (hk : k ≠ 0) (hd : d ≠ 0) : gs (k * n) (k * d) = k * gs n d := by
  have e : Nat.gcd (k * n).natAbs (k * d).natAbs = k.natAbs * Nat.gcd n.natAbs d.natAbs := by
    rw [Int.natAbs_mul, Int.natAbs_mul, Nat.gcd_mul_left]
  have hkd : k * d ≠ 0 := Int.mul_ne_zero hk hd
  have a1 := gs_abs (k * n) (k * d)
  rw [e, ← gs_abs n d, ← Int.natAbs_mul] at a1
  rcases Int.natAbs_eq_natAbs_iff.mp a1 with h | h
  · exact h
  · exfalso
    have s1 := gs_sign (k * n) hkd
    have s2 := gs_sign n hd
    rw [h] at s1
    rcases Int.lt_or_gt_of_ne hk with hk | hk
    · rcases s2 with ⟨x, y⟩ | ⟨x, y⟩
      · have := Int.mul_neg_of_neg_of_pos hk x
        have := Int.mul_neg_of_neg_of_pos hk y
        omega
      · have := Int.mul_pos_of_neg_of_neg hk x
        have := Int.mul_pos_of_neg_of_neg hk y
        omega
    · rcases s2 with ⟨x, y⟩ | ⟨x, y⟩
      · have := Int.mul_pos hk x
        have := Int.mul_pos hk y
        omega
      · have := Int.mul_neg_of_pos_of_neg hk x
        have := Int.mul_neg_of_pos_of_neg hk y
        omega
theorem F_scale {k n d : Int} (hk : k ≠ 0) (hd : d ≠ 0) : F (k * n) (k * d) = F n d := by
  obtain ⟨a, b, e, ha, hb, _⟩ := F_parts n hd
  rw [e]
  have hg := gs_ne (n := n) hd
  have hkg : k * gs n d ≠ 0 := Int.mul_ne_zero hk hg
  unfold F
  rw [gs_scale hk hd, fdiv_of hkg (show k * n = k * gs n d * a by rw [Int.mul_assoc, ← ha]), fdiv_of hkg (show k * d = k * gs n d * b by rw [Int.mul_assoc, ← hb])]
theorem F_eq {n d n' d' : Int} (hd : d ≠ 0) (hd' : d' ≠ 0) (h : n * d' = n' * d) : F n d = F n' d' := by
  rw [← F_scale (k := d') hd' hd, ← F_scale (k := d) (n := n') (d := d') hd hd']
  rw [show d' * n = d * n' by rw [Int.mul_comm d' n, h, Int.mul_comm], Int.mul_comm d' d]
theorem F_cross (n : Int) {d : Int} (h : d ≠ 0) : (F n d).1 * d = n * (F n d).2 := by
  obtain ⟨a, b, e, ha, hb, _⟩ := F_parts n h
  rw [e]
  show a * d = n * b
  calc a * d = a * (gs n d * b) := by rw [← hb]
    _ = (gs n d * a) * b := by grind
    _ = n * b := by rw [← ha]
theorem F_pos (n : Int) {d : Int} (h : d ≠ 0) : 0 < (F n d).2 := by
  obtain ⟨a, b, e, ha, hb, p⟩ := F_parts n h
  rw [e]
  exact p
theorem F_le1 (n : Int) {d : Int} (h : d ≠ 0) : (F n d).1.natAbs ≤ n.natAbs := by
  obtain ⟨a, b, e, ha, hb, p⟩ := F_parts n h
  rw [e]
  have hg := gs_ne (n := n) h
  have h1 : 1 ≤ (gs n d).natAbs := by omega
  have h2 : n.natAbs = (gs n d).natAbs * a.natAbs := by
    rw [← Int.natAbs_mul, ← ha]
  rw [h2]
  exact Nat.le_mul_of_pos_left _ h1
theorem F_le2 (n : Int) {d : Int} (h : d ≠ 0) : (F n d).2.natAbs ≤ d.natAbs := by
  obtain ⟨a, b, e, ha, hb, p⟩ := F_parts n h
  rw [e]
  have hg := gs_ne (n := n) h
  have h1 : 1 ≤ (gs n d).natAbs := by omega
  have h2 : d.natAbs = (gs n d).natAbs * b.natAbs := by
    rw [← Int.natAbs_mul, ← hb]
  rw [h2]
  exact Nat.le_mul_of_pos_left _ h1
theorem F_zero (n : Int) {d : Int} (h : d ≠ 0) : (F n d).1 = 0 ↔ n = 0 := by
  have c := F_cross n h
  have p := F_pos n h
  constructor
  · intro e
    rw [e, Int.zero_mul] at c
    rcases Int.mul_eq_zero.mp c.symm with z | z
    · exact z
    · omega
  · intro e
    subst e
    rw [Int.zero_mul] at c
    rcases Int.mul_eq_zero.mp c with z | z
    · exact z
    · omega
/-! what the operations give -/
def addF (p q : Int × Int) : Int × Int := F (p.1 * q.2 + q.1 * p.2) (p.2 * q.2)
def subF (p q : Int × Int) : Int × Int := F (p.1 * q.2 - q.1 * p.2) (p.2 * q.2)
def mulF (p q : Int × Int) : Int × Int := F (p.1 * q.1) (p.2 * q.2)
def divF (p q : Int × Int) : Int × Int := F (p.1 * q.2) (p.2 * q.1)
theorem addF_F {a b c d : Int} (hb : b ≠ 0) (hd : d ≠ 0) : addF (F a b) (F c d) = F (a * d + c * b) (b * d) := by
  have c1 := F_cross a hb
  have c2 := F_cross c hd
  have p1 := F_pos a hb
  have p2 := F_pos c hd
  unfold addF
  refine F_eq (Int.ne_of_gt (Int.mul_pos p1 p2)) (Int.mul_ne_zero hb hd) ?_
  generalize F a b = p at *
  generalize F c d = q at *
  grind
theorem subF_F {a b c d : Int} (hb : b ≠ 0) (hd : d ≠ 0) : subF (F a b) (F c d) = F (a * d - c * b) (b * d) := by
  have c1 := F_cross a hb
  have c2 := F_cross c hd
  have p1 := F_pos a hb
  have p2 := F_pos c hd
  unfold subF
  refine F_eq (Int.ne_of_gt (Int.mul_pos p1 p2)) (Int.mul_ne_zero hb hd) ?_
  generalize F a b = p at *
  generalize F c d = q at *
  grind
theorem mulF_F {a b c d : Int} (hb : b ≠ 0) (hd : d ≠ 0) : mulF (F a b) (F c d) = F (a * c) (b * d) := by
  have c1 := F_cross a hb
  have c2 := F_cross c hd
  have p1 := F_pos a hb
  have p2 := F_pos c hd
  unfold mulF
  refine F_eq (Int.ne_of_gt (Int.mul_pos p1 p2)) (Int.mul_ne_zero hb hd) ?_
  generalize F a b = p at *
  generalize F c d = q at *
  grind
theorem divF_F {a b c d : Int} (hb : b ≠ 0) (hd : d ≠ 0) (hc : c ≠ 0) : divF (F a b) (F c d) = F (a * d) (b * c) := by
  have c1 := F_cross a hb
  have c2 := F_cross c hd
  have p1 := F_pos a hb
  have p2 := F_pos c hd
  have z := F_zero c hd
  unfold divF
  refine F_eq (Int.mul_ne_zero (Int.ne_of_gt p1) (fun e => hc (z.mp e))) (Int.mul_ne_zero hb hc) ?_
  generalize F a b = p at *
  generalize F c d = q at *
  grind
theorem F_one : F 1 1 = (1, 1) := by decide
theorem cmp_F {a b c d : Int} (hb : 0 < b) (hd : 0 < d) : ((F a b).1 * (F c d).2 < (F c d).1 * (F a b).2 ↔ a * d < c * b) := by
  have c1 := F_cross a (Int.ne_of_gt hb)
  have c2 := F_cross c (Int.ne_of_gt hd)
  have p1 := F_pos a (Int.ne_of_gt hb)
  have p2 := F_pos c (Int.ne_of_gt hd)
  generalize F a b = p at *
  generalize F c d = q at *
  have e : (p.1 * q.2 - q.1 * p.2) * (b * d) = (a * d - c * b) * (p.2 * q.2) := by grind
  have h1 : 0 < b * d := Int.mul_pos hb hd
  have h2 : 0 < p.2 * q.2 := Int.mul_pos p1 p2
  constructor
  · intro h
    have h3 : p.1 * q.2 - q.1 * p.2 < 0 := by omega
    have h4 := Int.mul_neg_of_neg_of_pos h3 h1
    rw [e] at h4
    rcases Int.lt_or_le (a * d - c * b) 0 with x | x
    · omega
    · have := Int.mul_nonneg x (Int.le_of_lt h2)
      omega
  · intro h
    have h3 : a * d - c * b < 0 := by omega
    have h4 := Int.mul_neg_of_neg_of_pos h3 h2
    rw [← e] at h4
    rcases Int.lt_or_le (p.1 * q.2 - q.1 * p.2) 0 with x | x
    · omega
    · have := Int.mul_nonneg x (Int.le_of_lt h1)
      omega
/-! powers -/
def pwF (n d : Int) (k : Nat) : Int × Int := F (n ^ k) (d ^ k)
theorem pow_ne {d : Int} (h : d ≠ 0) (k : Nat) : d ^ k ≠ 0 := Int.pow_ne_zero h
theorem pwF_mul {n d : Int} (h : d ≠ 0) (i j : Nat) : mulF (pwF n d i) (pwF n d j) = pwF n d (i + j) := by
  unfold pwF
  rw [mulF_F (pow_ne h i) (pow_ne h j), Int.pow_add, Int.pow_add]
theorem pwF_zero (n d : Int) : pwF n d 0 = (1, 1) := by
  unfold pwF
  rw [Int.pow_zero, Int.pow_zero]
  exact F_one
theorem pwF_one (n d : Int) : pwF n d 1 = F n d := by
  unfold pwF
  rw [Int.pow_succ, Int.pow_zero, Int.one_mul, Int.pow_succ, Int.pow_zero, Int.one_mul]
theorem pow_lt {n : Int} {b : Nat} (h : n.natAbs < 2 ^ b) : ∀ k : Nat, (n ^ k).natAbs < 2 ^ (b * k + 1)
  | 0 => by simp
  | k + 1 => by
    have ih := pow_lt h k
    rw [Int.pow_succ, Int.natAbs_mul]
    have h2 : (n ^ k).natAbs * n.natAbs < 2 ^ (b * k + 1) * 2 ^ b := Nat.mul_lt_mul'' ih h
    rw [← Nat.pow_add] at h2
    have e : b * (k + 1) + 1 = b * k + 1 + b := by
      rw [Nat.mul_add]
      omega
    rw [e]
    exact h2
theorem pwF_lt1 {n d : Int} (h : d ≠ 0) {b : Nat} (hn : n.natAbs < 2 ^ b) (k : Nat) : (pwF n d k).1.natAbs < 2 ^ (b * k + 1) :=
  Nat.lt_of_le_of_lt (F_le1 _ (pow_ne h k)) (pow_lt hn k)
theorem pwF_lt2 {n d : Int} (h : d ≠ 0) {b : Nat} (hd : d.natAbs < 2 ^ b) (k : Nat) : (pwF n d k).2.natAbs < 2 ^ (b * k + 1) :=
  Nat.lt_of_le_of_lt (F_le2 _ (pow_ne h k)) (pow_lt hd k)
/-- 1 / x of a power -/
theorem F_flip {a b : Int} (ha : a ≠ 0) (hb : b ≠ 0) : F (F a b).2 (F a b).1 = F b a := by
  have c := F_cross a hb
  have z := F_zero a hb
  have p := F_pos a hb
  refine F_eq (fun e => ha (z.mp e)) ha ?_
  rw [Int.mul_comm, ← c, Int.mul_comm]
/-! gcd by remainders -/
theorem gcd_step (a b : Int) : Nat.gcd b.natAbs (a.fmod b).natAbs = Nat.gcd a.natAbs b.natAbs := by
  have e : a = a.fmod b + b * a.fdiv b := by
    have := Int.mul_fdiv_add_fmod a b
    omega
  have h : Int.gcd b (a.fmod b) = Int.gcd a b := by
    rw [Int.gcd_comm a b]
    conv => rhs; rw [e]
    rw [Int.gcd_add_mul_left_right]
  exact h
theorem fmod_small {a b : Int} (h : b ≠ 0) : (a.fmod b).natAbs < b.natAbs := by
  rcases Int.lt_or_gt_of_ne h with h | h
  · have e := Int.neg_fmod_neg a b
    have h1 := Int.fmod_nonneg_of_pos (-a) (show 0 < -b by omega)
    have h2 := Int.fmod_lt_of_pos (-a) (show 0 < -b by omega)
    omega
  · have h1 := Int.fmod_nonneg_of_pos a h
    have h2 := Int.fmod_lt_of_pos a h
    omega
end K04
/-! ### series of rationals -/
namespace SM
/-- the first j products of a and b that give to the power n -/
def ps (a b : Nat → Rat) (n : Nat) : Nat → Rat
  | 0 => 0
  | j + 1 => ps a b n j + a j * b (n - j)
def cv (a b : Nat → Rat) (n : Nat) : Rat := ps a b n (n + 1)
def sh (a : Nat → Rat) : Nat → Rat := fun k => a (k + 1)
/-- the derivative -/
def dv (a : Nat → Rat) : Nat → Rat := fun k => ((k + 1 : Nat) : Rat) * a (k + 1)
theorem ps_congr {a b c d : Nat → Rat} {n : Nat} : ∀ j, (∀ k < j, a k = c k) → (∀ k < j, b (n - k) = d (n - k)) → ps a b n j = ps c d n j
  | 0, _, _ => rfl
  | j + 1, h, k => by rw [ps, ps, ps_congr j (fun i hi => h i (by omega)) (fun i hi => k i (by omega)), h j (by omega), k j (by omega)]
theorem cv_congr {a b c d : Nat → Rat} {n : Nat} (h : ∀ k ≤ n, a k = c k) (g : ∀ k ≤ n, b k = d k) : cv a b n = cv c d n := ps_congr _ (fun k hk => h k (by omega)) (fun k hk => g _ (by omega))
theorem ps_head (a b : Nat → Rat) (n : Nat) : ∀ j, ps a b (n + 1) (j + 1) = a 0 * b (n + 1) + ps (sh a) b n j
  | 0 => by
    show 0 + a 0 * b (n + 1 - 0) = a 0 * b (n + 1) + 0
    grind
  | j + 1 => by
    rw [ps, ps_head a b n j, ps]
    have : n + 1 - (j + 1) = n - j := by omega
    rw [this]
    show _ + a (j + 1) * b (n - j) = _ + (_ + a (j + 1) * b (n - j))
    grind
theorem cv_zero (a b : Nat → Rat) : cv a b 0 = a 0 * b 0 := by
  show 0 + a 0 * b 0 = a 0 * b 0
  grind
theorem cv_head (a b : Nat → Rat) (n : Nat) : cv a b (n + 1) = a 0 * b (n + 1) + cv (sh a) b n := ps_head a b n (n + 1)
theorem cv_last (a b : Nat → Rat) (n : Nat) : cv a b (n + 1) = cv a (sh b) n + a (n + 1) * b 0 := by
  have e : ps a b (n + 1) (n + 1) = ps a (sh b) n (n + 1) := by
    suffices h : ∀ j, j ≤ n + 1 → ps a b (n + 1) j = ps a (sh b) n j from h _ (Nat.le_refl _)
    intro j
    induction j with
    | zero => exact fun _ => rfl
    | succ j ih =>
      intro hj
      rw [ps, ps, ih (by omega)]
      have : n + 1 - j = (n - j) + 1 := by omega
      rw [this]
      rfl
  show ps a b (n + 1) (n + 1) + a (n + 1) * b (n + 1 - (n + 1)) = _
  rw [e, Nat.sub_self]
  rfl
theorem cv_comm : ∀ (n : Nat) (a b : Nat → Rat), cv a b n = cv b a n
  | 0, a, b => by rw [cv_zero, cv_zero, Rat.mul_comm]
  | n + 1, a, b => by
    rw [cv_last a b, cv_head b a, cv_comm n (sh b) a]
    grind
theorem cv_lin (a b c : Nat → Rat) (x : Rat) (n : Nat) : cv (fun k => x * a k + b k) c n = x * cv a c n + cv b c n := by
  suffices h : ∀ j, ps (fun k => x * a k + b k) c n j = x * ps a c n j + ps b c n j from h _
  intro j
  induction j with
  | zero => 
    show (0 : Rat) = x * 0 + 0
    grind
  | succ j ih =>
    rw [ps, ps, ps, ih]
    grind
theorem cv_smul (a b : Nat → Rat) (x : Rat) (n : Nat) : cv (fun k => x * a k) b n = x * cv a b n := by
  suffices h : ∀ j, ps (fun k => x * a k) b n j = x * ps a b n j from h _
  intro j
  induction j with
  | zero =>
    show (0 : Rat) = x * 0
    grind
  | succ j ih =>
    rw [ps, ps, ih]
    grind
theorem cv_add (a b c : Nat → Rat) (n : Nat) : cv (fun k => a k + b k) c n = cv a c n + cv b c n := by
  suffices h : ∀ j, ps (fun k => a k + b k) c n j = ps a c n j + ps b c n j from h _
  intro j
  induction j with
  | zero =>
    show (0 : Rat) = 0 + 0
    grind
  | succ j ih =>
    rw [ps, ps, ps, ih]
    grind
theorem cv_assoc : ∀ (n : Nat) (a b c : Nat → Rat), cv (cv a b) c n = cv a (cv b c) n
  | 0, a, b, c => by
    rw [cv_zero, cv_zero, cv_zero, cv_zero, Rat.mul_assoc]
  | n + 1, a, b, c => by
    rw [cv_head, cv_head a, cv_zero]
    have e : sh (cv a b) = fun k => a 0 * sh b k + cv (sh a) b k := funext fun k => cv_head a b k
    rw [e, cv_lin, cv_assoc n, cv_head b c]
    grind
theorem cv_smul2 (a b : Nat → Rat) (x : Rat) (n : Nat) : cv a (fun k => x * b k) n = x * cv a b n := by
  rw [cv_comm, cv_smul, cv_comm]
theorem cv_add2 (a b c : Nat → Rat) (n : Nat) : cv a (fun k => b k + c k) n = cv a b n + cv a c n := by
  rw [cv_comm, cv_add, cv_comm n b a, cv_comm n c a]
/-- the derivative of a product -/
theorem dv_cv : ∀ (n : Nat) (a b : Nat → Rat), dv (cv a b) n = cv (dv a) b n + cv a (dv b) n
  | 0, a, b => by
    show ((1 : Nat) : Rat) * cv a b 1 = _
    rw [cv_head, cv_zero, cv_zero, cv_zero]
    show ((1 : Nat) : Rat) * (a 0 * b 1 + a 1 * b 0) = ((1 : Nat) : Rat) * a 1 * b 0 + a 0 * (((1 : Nat) : Rat) * b 1)
    grind
  | n + 1, a, b => by
    have ih := dv_cv n (sh a) b
    show ((n + 1 + 1 : Nat) : Rat) * cv a b (n + 1 + 1) = _
    rw [cv_head a b, cv_head (dv a) b, cv_head a (dv b)]
    have e1 : ((n + 1 + 1 : Nat) : Rat) = ((n + 1 : Nat) : Rat) + 1 := by
      have : ((n + 1 + 1 : Nat) : Rat) = ((n + 1 : Nat) : Rat) + ((1 : Nat) : Rat) := Rat.natCast_add (n + 1) 1
      rw [this]
      rfl
    have e2 : sh (dv a) = fun k => dv (sh a) k + sh (sh a) k := funext fun k => by
      show ((k + 1 + 1 : Nat) : Rat) * a (k + 1 + 1) = ((k + 1 : Nat) : Rat) * a (k + 1 + 1) + a (k + 1 + 1)
      have : ((k + 1 + 1 : Nat) : Rat) = ((k + 1 : Nat) : Rat) + ((1 : Nat) : Rat) := Rat.natCast_add (k + 1) 1
      rw [this]
      have : ((1 : Nat) : Rat) = 1 := rfl
      rw [this]
      grind
    rw [e2, cv_add]
    have e3 : dv (cv (sh a) b) n = ((n + 1 : Nat) : Rat) * cv (sh a) b (n + 1) := rfl
    rw [e3] at ih
    have e4 : dv b (n + 1) = ((n + 1 + 1 : Nat) : Rat) * b (n + 1 + 1) := rfl
    have e5 : dv a 0 = a 1 := by
      show ((1 : Nat) : Rat) * a 1 = a 1
      have : ((1 : Nat) : Rat) = 1 := rfl
      rw [this]
      grind
    have e6 : cv (sh a) b (n + 1) = a 1 * b (n + 1) + cv (sh (sh a)) b n := cv_head (sh a) b n
    rw [e4, e5, e1]
    generalize ((n + 1 : Nat) : Rat) = N at *
    grind
/-! ### the exponential -/
def dl : Nat → Rat := fun k => if k = 0 then 1 else 0
theorem cv_dl (a : Nat → Rat) : ∀ n, cv dl a n = a n
  | 0 => by
    rw [cv_zero]
    show (1 : Rat) * a 0 = a 0
    grind
  | n + 1 => by
    rw [cv_head]
    have : sh dl = fun k => (0 : Rat) * dl k := funext fun k => by
      show (if k + 1 = 0 then (1 : Rat) else 0) = 0 * dl k
      rw [if_neg (by omega)]
      grind
    rw [this, cv_smul]
    show (1 : Rat) * a (n + 1) + 0 * _ = a (n + 1)
    grind
/-- f^k / k! -/
def tm (f : Nat → Rat) : Nat → Nat → Rat
  | 0 => dl
  | k + 1 => fun n => cv (tm f k) f n * (1 / ((k + 1 : Nat) : Rat))
theorem natc_ne (k : Nat) : ((k + 1 : Nat) : Rat) ≠ 0 := by
  intro h
  have : ((k + 1 : Nat) : Rat) = ((0 : Nat) : Rat) := h
  have := Rat.natCast_inj.mp this
  omega
theorem natc_succ (k : Nat) : ((k + 1 : Nat) : Rat) = (k : Rat) + 1 := by
  have : ((k + 1 : Nat) : Rat) = (k : Rat) + ((1 : Nat) : Rat) := Rat.natCast_add k 1
  rw [this]
  rfl
theorem tm_dv (f : Nat → Rat) : ∀ (k n : Nat), dv (tm f (k + 1)) n = cv (dv f) (tm f k) n
  | 0, n => by
    have h1 : tm f 1 = f := funext fun m => by
      show cv dl f m * (1 / ((1 : Nat) : Rat)) = f m
      rw [cv_dl]
      have : ((1 : Nat) : Rat) = 1 := rfl
      rw [this]
      grind
    rw [h1, cv_comm]
    show _ = cv dl (dv f) n
    rw [cv_dl]
  | k + 1, n => by
    have ih : dv (tm f (k + 1)) = cv (dv f) (tm f k) := funext fun m => tm_dv f k m
    have h0 := natc_ne (k + 1)
    have h1 : dv (tm f (k + 1 + 1)) n = dv (cv (tm f (k + 1)) f) n * (1 / ((k + 1 + 1 : Nat) : Rat)) := by
      show _ * (cv (tm f (k + 1)) f (n + 1) * _) = _ * cv (tm f (k + 1)) f (n + 1) * _
      grind
    rw [h1, dv_cv, ih, cv_assoc]
    have h2 : cv (tm f k) f = fun m => ((k + 1 : Nat) : Rat) * tm f (k + 1) m := funext fun m => by
      have := natc_ne k
      show cv (tm f k) f m = ((k + 1 : Nat) : Rat) * (cv (tm f k) f m * (1 / ((k + 1 : Nat) : Rat)))
      generalize ((k + 1 : Nat) : Rat) = N at *
      grind
    rw [h2, cv_smul2, cv_comm n (tm f (k + 1)) (dv f), natc_succ (k + 1)]
    rw [natc_succ (k + 1)] at h0
    generalize ((k + 1 : Nat) : Rat) = N at *
    grind
theorem tm_low {f : Nat → Rat} (h : f 0 = 0) : ∀ k n, n < k → tm f k n = 0
  | 0, n, hn => by omega
  | k + 1, n, hn => by
    show cv (tm f k) f n * _ = 0
    have : cv (tm f k) f n = 0 := by
      cases n with
      | zero =>
        rw [cv_zero, h]
        grind
      | succ n =>
        rw [cv_last, h]
        have e : cv (tm f k) (sh f) n = cv (fun m => (0 : Rat) * tm f k m) (sh f) n := cv_congr (fun m hm => by rw [tm_low h k m (by omega)]; grind) (fun _ _ => rfl)
        rw [e, cv_smul]
        grind
    rw [this]
    grind
/-- the sum of the first terms -/
def tot (f : Nat → Rat) : Nat → Nat → Rat
  | 0 => tm f 0
  | k + 1 => fun n => tot f k n + tm f (k + 1) n
theorem tot_dv (f : Nat → Rat) : ∀ (k n : Nat), dv (tot f (k + 1)) n = cv (dv f) (tot f k) n
  | 0, n => by
    have h0 : dv (tm f 0) n = 0 := by
      show _ * (if n + 1 = 0 then (1 : Rat) else 0) = 0
      rw [if_neg (by omega)]
      grind
    have h1 : dv (tot f 1) n = dv (tm f 0) n + dv (tm f 1) n := by
      show _ * (tm f 0 (n + 1) + tm f 1 (n + 1)) = _
      rw [Rat.mul_add]
      rfl
    rw [h1, h0, tm_dv]
    show 0 + cv (dv f) (tm f 0) n = cv (dv f) (tm f 0) n
    grind
  | k + 1, n => by
    have h1 : dv (tot f (k + 1 + 1)) n = dv (tot f (k + 1)) n + dv (tm f (k + 1 + 1)) n := by
      show _ * (tot f (k + 1) (n + 1) + tm f (k + 1 + 1) (n + 1)) = _
      rw [Rat.mul_add]
      rfl
    rw [h1, tot_dv f k, tm_dv]
    have h2 : tot f (k + 1) = fun m => tot f k m + tm f (k + 1) m := rfl
    rw [h2, cv_add2]
/-- e goes on by g: (n + 1) e (n + 1) is the n-th coefficient of g times e, below N -/
def Goes (g e : Nat → Rat) (N : Nat) : Prop := e 0 = 1 ∧ ∀ n < N, ((n + 1 : Nat) : Rat) * e (n + 1) = cv g e n
theorem goes_uniq {g e d : Nat → Rat} {N : Nat} (h : Goes g e N) (k : Goes g d N) : ∀ n ≤ N, e n = d n := by
  intro n
  induction n using Nat.strongRecOn with
  | _ n ih =>
    intro hn
    cases n with
    | zero => rw [h.1, k.1]
    | succ n =>
      have h1 := h.2 n (by omega)
      have k1 := k.2 n (by omega)
      have e1 : cv g e n = cv g d n := cv_congr (fun _ _ => rfl) fun m hm => ih m (by omega) (by omega)
      have := natc_ne n
      rw [e1, ← k1] at h1
      generalize ((n + 1 : Nat) : Rat) = X at *
      grind
theorem tot_goes {f : Nat → Rat} (h : f 0 = 0) (N : Nat) : Goes (dv f) (tot f N) N := by
  constructor
  · have : ∀ k, tot f k 0 = 1 := fun k => by
      induction k with
      | zero => rfl
      | succ k ih =>
        show tot f k 0 + tm f (k + 1) 0 = 1
        rw [ih, tm_low h (k + 1) 0 (by omega)]
        grind
    exact this N
  · intro n hn
    cases N with
    | zero => omega
    | succ N =>
      have h1 := tot_dv f N n
      have h2 : cv (dv f) (tot f N) n = cv (dv f) (tot f (N + 1)) n := cv_congr (fun _ _ => rfl) fun m hm => by
        show tot f N m = tot f N m + tm f (N + 1) m
        rw [tm_low h (N + 1) m (by omega)]
        grind
      rw [← h2, ← h1]
      rfl
/-- the slopes are told -/
theorem goes_slopes {g s e : Nat → Rat} {N : Nat} (h : Goes g e N) (k : Goes s e N) : ∀ n < N, g n = s n := by
  intro n
  induction n using Nat.strongRecOn with
  | _ n ih =>
    intro hn
    have h1 := h.2 n hn
    have k1 := k.2 n hn
    rw [h1] at k1
    have e1 : ps g e n n = ps s e n n := ps_congr _ (fun m hm => ih m hm (by omega)) fun _ _ => rfl
    have k2 : ps g e n n + g n * e (n - n) = ps s e n n + s n * e (n - n) := k1
    rw [e1, Nat.sub_self, h.1] at k2
    grind
end SM
/-! ### fractions as rationals, their sizes -/
namespace SM
open K04
def fq (r : Rat) : Int × Int := (r.num, (r.den : Int))
theorem den_ne (r : Rat) : (r.den : Int) ≠ 0 := by
  have := r.den_nz
  omega
theorem F_red (r : Rat) : F r.num (r.den : Int) = fq r := by
  have hg : gs r.num (r.den : Int) = 1 := by
    unfold gs
    rw [if_neg (by omega), Int.natAbs_natCast, r.reduced]
    rfl
  unfold F fq
  rw [hg, Int.fdiv_one, Int.fdiv_one]
theorem F_fq (n : Int) {d : Int} (h : d ≠ 0) : F n d = fq (Rat.divInt n d) := by
  rw [← F_red]
  refine F_eq h (den_ne _) ?_
  have := Rat.num_divInt_den (Rat.divInt n d)
  exact ((Rat.divInt_eq_divInt_iff (den_ne _) h).mp this).symm
theorem addF_fq (a b : Rat) : addF (fq a) (fq b) = fq (a + b) := by
  unfold addF fq
  rw [F_fq _ (Int.mul_ne_zero (den_ne a) (den_ne b)), ← Rat.divInt_add_divInt _ _ (den_ne a) (den_ne b), Rat.num_divInt_den, Rat.num_divInt_den]
  rfl
theorem subF_fq (a b : Rat) : subF (fq a) (fq b) = fq (a - b) := by
  unfold subF fq
  rw [F_fq _ (Int.mul_ne_zero (den_ne a) (den_ne b)), ← Rat.divInt_sub_divInt _ _ (den_ne a) (den_ne b), Rat.num_divInt_den, Rat.num_divInt_den]
  rfl
theorem mulF_fq (a b : Rat) : mulF (fq a) (fq b) = fq (a * b) := by
  unfold mulF fq
  rw [F_fq _ (Int.mul_ne_zero (den_ne a) (den_ne b)), ← Rat.divInt_mul_divInt, Rat.num_divInt_den, Rat.num_divInt_den]
  rfl
theorem num_ne {b : Rat} (h : b ≠ 0) : b.num ≠ 0 := fun e => h (Rat.num_eq_zero.mp e)
theorem divF_fq (a : Rat) {b : Rat} (h : b ≠ 0) : divF (fq a) (fq b) = fq (a / b) := by
  unfold divF fq
  rw [F_fq _ (Int.mul_ne_zero (den_ne a) (num_ne h)), ← Rat.divInt_mul_divInt, Rat.num_divInt_den]
  have e : Rat.divInt (b.den : Int) b.num = b⁻¹ := by
    rw [← Rat.inv_divInt, Rat.num_divInt_den]
  rw [e, ← Rat.div_def]
  rfl
theorem fq_one : fq 1 = (1, 1) := rfl
theorem fq_zero : fq 0 = (0, 1) := rfl
theorem fq_nat (k : Nat) : fq (k : Rat) = ((k : Int), 1) := rfl
theorem fq_inv (k : Nat) : fq (1 / ((k + 1 : Nat) : Rat)) = (1, ((k + 1 : Nat) : Int)) := by
  have h := divF_fq 1 (natc_ne k)
  rw [← h, fq_one, fq_nat]
  unfold divF
  show F (1 * 1) (1 * ((k + 1 : Nat) : Int)) = _
  rw [Int.one_mul, Int.one_mul]
  have hg : gs 1 ((k + 1 : Nat) : Int) = 1 := by
    unfold gs
    rw [if_neg (by omega)]
    simp
  unfold F
  rw [hg, Int.fdiv_one, Int.fdiv_one]
/-- r times m is an integer, at most X -/
def Iz (m X : Nat) (r : Rat) : Prop := ∃ N : Int, r * (m : Rat) = (N : Rat) ∧ N.natAbs ≤ X
section
variable {m n X Y c : Nat} {a b r : Rat}
theorem Iz.le (h : Iz m X r) (k : X ≤ Y) : Iz m Y r := by
  obtain ⟨N, e, l⟩ := h
  exact ⟨N, e, Nat.le_trans l k⟩
theorem Iz.mul (h : Iz m X a) (k : Iz n Y b) : Iz (m * n) (X * Y) (a * b) := by
  obtain ⟨N, e, l⟩ := h
  obtain ⟨M, f, g⟩ := k
  refine ⟨N * M, ?_, by rw [Int.natAbs_mul]; exact Nat.mul_le_mul l g⟩
  rw [Rat.natCast_mul, Rat.intCast_mul, ← e, ← f]
  grind
theorem Iz.add (h : Iz m X a) (k : Iz m Y b) : Iz m (X + Y) (a + b) := by
  obtain ⟨N, e, l⟩ := h
  obtain ⟨M, f, g⟩ := k
  refine ⟨N + M, ?_, Nat.le_trans (Int.natAbs_add_le N M) (Nat.add_le_add l g)⟩
  rw [Rat.intCast_add, ← e, ← f]
  grind
theorem Iz.sub (h : Iz m X a) (k : Iz m Y b) : Iz m (X + Y) (a - b) := by
  obtain ⟨N, e, l⟩ := h
  obtain ⟨M, f, g⟩ := k
  refine ⟨N - M, ?_, by omega⟩
  rw [Rat.intCast_sub, ← e, ← f]
  grind
theorem Iz.up (h : Iz m X r) (c : Nat) : Iz (m * c) (X * c) r := by
  obtain ⟨N, e, l⟩ := h
  refine ⟨N * c, ?_, by rw [Int.natAbs_mul, Int.natAbs_natCast]; exact Nat.mul_le_mul_right c l⟩
  rw [Rat.natCast_mul, Rat.intCast_mul, ← e, Rat.intCast_natCast]
  grind
theorem Iz.zero : Iz m 0 0 := ⟨0, by show (0 : Rat) * _ = 0; grind, Nat.le_refl _⟩
theorem Iz.inv (k : Nat) : Iz (k + 1) 1 (1 / ((k + 1 : Nat) : Rat)) := ⟨1, by
  have := natc_ne k
  show 1 / ((k + 1 : Nat) : Rat) * ((k + 1 : Nat) : Rat) = 1
  generalize ((k + 1 : Nat) : Rat) = N at *
  grind, Nat.le_refl _⟩
theorem Iz.nat (k : Nat) : Iz 1 k (k : Rat) := ⟨k, by
  show (k : Rat) * 1 = ((k : Int) : Rat)
  rw [Rat.intCast_natCast]
  grind, by omega⟩
theorem Iz.sizes (h : Iz m X r) (hm : m ≠ 0) : (fq r).1.natAbs ≤ X ∧ (fq r).2.natAbs ≤ m := by
  obtain ⟨N, e, l⟩ := h
  have hm' : (m : Int) ≠ 0 := by omega
  have h2 : r = Rat.divInt N (m : Int) := by
    have h3 : ((m : Nat) : Rat) ≠ 0 := fun z => hm (Rat.natCast_inj.mp (z : (m : Rat) = ((0 : Nat) : Rat)))
    rw [Rat.divInt_eq_div, ← e, Rat.intCast_natCast]
    grind
  rw [h2, ← F_fq N hm']
  refine ⟨Nat.le_trans (F_le1 N hm') l, ?_⟩
  have := F_le2 N hm'
  omega
theorem ps_iz {f g : Nat → Rat} {n : Nat} : ∀ j, (∀ k < j, Iz m X (f k * g (n - k))) → Iz m (j * X) (ps f g n j)
  | 0, _ => by
    rw [Nat.zero_mul]
    exact Iz.zero
  | j + 1, h => by
    rw [Nat.succ_mul]
    exact (ps_iz j fun k hk => h k (by omega)).add (h j (by omega))
end
def fact : Nat → Nat
  | 0 => 1
  | n + 1 => fact n * (n + 1)
theorem fact_pos : ∀ n, 0 < fact n
  | 0 => by decide
  | n + 1 => Nat.mul_pos (fact_pos n) (Nat.succ_pos n)
theorem fact_desc : ∀ k n, k ≤ n → n ≤ 12 → ∃ q, fact n = fact (n - k) * q ∧ q ≤ 12 ^ k
  | 0, n, _, _ => ⟨1, by rw [Nat.sub_zero, Nat.mul_one], Nat.le_refl _⟩
  | k + 1, n, h, h12 => by
    obtain ⟨q, e, l⟩ := fact_desc k n (by omega) h12
    refine ⟨(n - k) * q, ?_, ?_⟩
    · have e2 : n - k = (n - (k + 1)) + 1 := by omega
      have e3 : fact (n - k) = fact (n - (k + 1)) * (n - k) := by
        conv => lhs; rw [e2, fact]
        rw [← e2]
      rw [e, e3, Nat.mul_assoc]
    · rw [Nat.pow_succ, Nat.mul_comm (12 ^ k)]
      exact Nat.mul_le_mul (by omega) l
theorem fact_dvd : ∀ k n, fact n ∣ fact (n + k)
  | 0, n => Nat.dvd_refl _
  | k + 1, n => Nat.dvd_trans (fact_dvd k n) (by rw [← Nat.add_assoc, fact]; exact Nat.dvd_mul_right _ _)
def M1 : Nat := 12 ^ 13 * fact 12
/-- small enough to be multiplied and added up -/
def Sm (r : Rat) : Prop := (fq r).1.natAbs < 2 ^ 1900 ∧ (fq r).2.natAbs < 2 ^ 1900
def Gd (r : Rat) : Prop := Iz M1 (2 ^ 300) r
theorem M1_lt : M1 < 2 ^ 80 := by decide +kernel
theorem M1_ne : M1 ≠ 0 := by decide +kernel
theorem sm_of {m X : Nat} {r : Rat} (h : Iz m X r) (hm : m ≠ 0) (h1 : m < 2 ^ 1900) (h2 : X < 2 ^ 1900) : Sm r := by
  obtain ⟨a, b⟩ := h.sizes hm
  exact ⟨Nat.lt_of_le_of_lt a h2, Nat.lt_of_le_of_lt b h1⟩
theorem two_le {a b : Nat} (h : a ≤ b) : 2 ^ a ≤ 2 ^ b := Nat.pow_le_pow_right (by decide) h
theorem Gd.sm {r : Rat} (h : Gd r) : Sm r := sm_of h M1_ne (Nat.lt_of_lt_of_le M1_lt (two_le (by decide))) (Nat.pow_lt_pow_right (by decide) (by decide))
theorem gd_of {m X : Nat} {r : Rat} (h : Iz m X r) (hm : m ∣ M1) (hX : X ≤ 2 ^ 200) : Gd r := by
  obtain ⟨c, hc⟩ := hm
  have h1 := h.up c
  rw [← hc] at h1
  refine h1.le ?_
  have hc1 : c ≤ M1 := by
    have h0 : m ≠ 0 := fun z => M1_ne (by rw [hc, z, Nat.zero_mul])
    rw [hc]
    exact Nat.le_mul_of_pos_left c (by omega)
  have h2 : X * c ≤ 2 ^ 200 * 2 ^ 80 := Nat.mul_le_mul hX (Nat.le_of_lt (Nat.lt_of_le_of_lt hc1 M1_lt))
  rw [← Nat.pow_add] at h2
  exact Nat.le_trans h2 (two_le (by decide))
theorem MM_ne : M1 * M1 ≠ 0 := Nat.mul_ne_zero M1_ne M1_ne
theorem MM_lt : M1 * M1 < 2 ^ 1900 := by
  have := Nat.mul_lt_mul'' M1_lt M1_lt
  rw [← Nat.pow_add] at this
  exact Nat.lt_of_lt_of_le this (two_le (by decide))
theorem Gd.mul {a b : Rat} (h : Gd a) (k : Gd b) : Iz (M1 * M1) (2 ^ 600) (a * b) := by
  have := Iz.mul h k
  rw [← Nat.pow_add] at this
  exact this
theorem Gd.mul_sm {a b : Rat} (h : Gd a) (k : Gd b) : Sm (a * b) := sm_of (h.mul k) MM_ne MM_lt (Nat.pow_lt_pow_right (by decide) (by decide))
/-- sums of at most a thousand products -/
theorem ps_sm {a b : Nat → Rat} {n j : Nat} (hj : j ≤ 1000) (h : ∀ k < j, Gd (a k) ∧ Gd (b (n - k))) : Sm (ps a b n j) := by
  refine sm_of (ps_iz (m := M1 * M1) (X := 2 ^ 600) j fun k hk => (h k hk).1.mul (h k hk).2) MM_ne MM_lt ?_
  have : j * 2 ^ 600 ≤ 2 ^ 10 * 2 ^ 600 := Nat.mul_le_mul_right _ (Nat.le_trans hj (by decide))
  rw [← Nat.pow_add] at this
  exact Nat.lt_of_le_of_lt this (Nat.pow_lt_pow_right (by decide) (by decide))
theorem pf_dvd {n : Nat} (h : n ≤ 12) : 12 ^ n * fact n ∣ M1 := Nat.mul_dvd_mul (Nat.pow_dvd_pow 12 (by omega)) (by
  have := fact_dvd (12 - n) n
  rw [show n + (12 - n) = 12 by omega] at this
  exact this)
section
variable {f g s e : Nat → Rat} {N : Nat}
theorem dv_iz (hf : ∀ k ≤ N, Iz 12 36 (f k)) {k : Nat} (hk : k < N) (hN : N ≤ 12) : Iz 12 432 (dv f k) := by
  have h := (Iz.nat (k + 1)).mul (hf (k + 1) (by omega))
  rw [Nat.one_mul] at h
  exact h.le (by omega)
/-- the entries of the exponential -/
theorem exp_iz (hf : ∀ k ≤ N, Iz 12 36 (f k)) (hN : N ≤ 12) (h : Goes (dv f) e N) : ∀ n ≤ N, Iz (12 ^ n * fact n) (2 ^ (13 * n)) (e n) := by
  intro n
  induction n using Nat.strongRecOn with
  | _ n ih =>
    intro hn
    cases n with
    | zero =>
      rw [h.1]
      exact ⟨1, by show (1 : Rat) * ((1 : Nat) : Rat) = 1; have : ((1 : Nat) : Rat) = 1 := rfl; rw [this]; grind, Nat.le_refl _⟩
    | succ n =>
      have h1 := h.2 n (by omega)
      have h2 : Iz (12 ^ (n + 1) * fact n) ((n + 1) * (432 * 2 ^ (13 * n))) (cv (dv f) e n) := ps_iz (n + 1) fun k hk => by
        obtain ⟨q, hq, lq⟩ := fact_desc k n (by omega) (by omega)
        have a := (dv_iz hf (show k < N by omega) hN).mul (ih (n - k) (by omega) (by omega))
        have b := a.up (12 ^ k * q)
        have em : 12 * (12 ^ (n - k) * fact (n - k)) * (12 ^ k * q) = 12 ^ (n + 1) * fact n := by
          rw [hq, Nat.pow_succ]
          have : 12 ^ n = 12 ^ (n - k) * 12 ^ k := by rw [← Nat.pow_add]; congr 1; omega
          rw [this]
          ac_rfl
        rw [em] at b
        refine b.le ?_
        have l1 : 12 ^ k * q ≤ 2 ^ (13 * k) := by
          refine Nat.le_trans (Nat.mul_le_mul_left _ lq) ?_
          rw [← Nat.mul_pow, Nat.pow_mul]
          exact Nat.pow_le_pow_left (by decide) k
        rw [Nat.mul_assoc]
        refine Nat.mul_le_mul_left _ ?_
        refine Nat.le_trans (Nat.mul_le_mul_left _ l1) ?_
        rw [← Nat.pow_add]
        exact two_le (by omega)
      have h3 := h2.mul (Iz.inv n)
      have e3 : cv (dv f) e n * (1 / ((n + 1 : Nat) : Rat)) = e (n + 1) := by
        have := natc_ne n
        rw [← h1]
        generalize ((n + 1 : Nat) : Rat) = X at *
        grind
      rw [e3, Nat.mul_one, Nat.mul_assoc] at h3
      refine h3.le ?_
      rw [show 13 * (n + 1) = 13 + 13 * n by omega, Nat.pow_add, ← Nat.mul_assoc]
      exact Nat.mul_le_mul_right _ (Nat.le_trans (Nat.mul_le_mul_right 432 (show n + 1 ≤ 12 by omega)) (by decide))
theorem exp_gd (hf : ∀ k ≤ N, Iz 12 36 (f k)) (hN : N ≤ 12) (h : Goes (dv f) e N) {n : Nat} (hn : n ≤ N) : Gd (e n) := gd_of (exp_iz hf hN h n hn) (pf_dvd (by omega)) (two_le (by omega))
theorem tm_iz (hf : ∀ k ≤ N, Iz 12 36 (f k)) (hN : N ≤ 12) : ∀ k n, n ≤ N → Iz (12 ^ k * fact k) (468 ^ k) (tm f k n)
  | 0, n, _ => by
    show Iz 1 1 (if n = 0 then (1 : Rat) else 0)
    split
    · exact (Iz.nat 1)
    · exact Iz.zero.le (Nat.zero_le _)
  | k + 1, n, hn => by
    have h2 : Iz (12 ^ k * fact k * 12) ((n + 1) * (468 ^ k * 36)) (cv (tm f k) f n) := ps_iz (n + 1) fun j hj => (tm_iz hf hN k j (by omega)).mul (hf (n - j) (by omega))
    have h3 := h2.mul (Iz.inv k)
    have em : 12 ^ k * fact k * 12 * (k + 1) = 12 ^ (k + 1) * fact (k + 1) := by
      rw [fact, Nat.pow_succ]
      ac_rfl
    rw [em, Nat.mul_one] at h3
    refine h3.le ?_
    rw [Nat.pow_succ, show (468 : Nat) = 13 * 36 from rfl, ← Nat.mul_assoc, Nat.mul_comm (n + 1), Nat.mul_assoc]
    exact Nat.mul_le_mul_left _ (Nat.mul_le_mul_right _ (by omega))
theorem tm_gd (hf : ∀ k ≤ N, Iz 12 36 (f k)) (hN : N ≤ 12) {k n : Nat} (hk : k ≤ 12) (hn : n ≤ N) : Gd (tm f k n) := gd_of (tm_iz hf hN k n hn) (pf_dvd hk) (by
  refine Nat.le_trans (Nat.pow_le_pow_right (by decide) hk) ?_
  decide +kernel)
theorem slope_iz (he : ∀ k ≤ N, Iz 12 36 (e k)) (hN : N ≤ 12) (h : Goes s e N) : ∀ n < N, Iz (12 ^ (n + 1)) (1024 ^ (n + 1)) (s n) := by
  intro n
  induction n using Nat.strongRecOn with
  | _ n ih =>
    intro hn
    have h1 := h.2 n hn
    have h2 : s n = ((n + 1 : Nat) : Rat) * e (n + 1) - ps s e n n := by
      have k2 : ((n + 1 : Nat) : Rat) * e (n + 1) = ps s e n n + s n * e (n - n) := h1
      rw [Nat.sub_self, h.1] at k2
      rw [k2]
      grind
    rw [h2]
    have a1 := (dv_iz he hn hN).up (12 ^ n)
    have a2 : Iz (12 ^ (n + 1)) (n * (36 * 1024 ^ n)) (ps s e n n) := ps_iz n fun k hk => by
      have b := ((ih k hk (by omega)).mul (he (n - k) (by omega))).up (12 ^ (n - 1 - k))
      have em : 12 ^ (k + 1) * 12 * 12 ^ (n - 1 - k) = 12 ^ (n + 1) := by
        rw [← Nat.pow_succ, ← Nat.pow_add]
        congr 1
        omega
      rw [em] at b
      refine b.le ?_
      have l1 : 12 ^ (n - 1 - k) ≤ 1024 ^ (n - 1 - k) := Nat.pow_le_pow_left (by decide) _
      have l2 : 1024 ^ (k + 1) * 36 * 12 ^ (n - 1 - k) ≤ 1024 ^ (k + 1) * 36 * 1024 ^ (n - 1 - k) := Nat.mul_le_mul_left _ l1
      refine Nat.le_trans l2 (Nat.le_of_eq ?_)
      have e2 : (1024 : Nat) ^ n = 1024 ^ (k + 1) * 1024 ^ (n - 1 - k) := by
        rw [← Nat.pow_add]
        congr 1
        omega
      rw [e2]
      ac_rfl
    rw [show 12 * 12 ^ n = 12 ^ (n + 1) by rw [Nat.pow_succ, Nat.mul_comm]] at a1
    refine (a1.sub a2).le ?_
    have l1 : (12 : Nat) ^ n ≤ 1024 ^ n := Nat.pow_le_pow_left (by decide) n
    have l2 : n * (36 * 1024 ^ n) ≤ 12 * (36 * 1024 ^ n) := Nat.mul_le_mul_right _ (by omega)
    rw [Nat.pow_succ]
    omega
theorem slope_gd (he : ∀ k ≤ N, Iz 12 36 (e k)) (hN : N ≤ 12) (h : Goes s e N) {n : Nat} (hn : n < N) : Gd (s n) := gd_of (slope_iz he hN h n hn) (Nat.dvd_trans (Nat.pow_dvd_pow 12 (show n + 1 ≤ 13 by omega)) (Nat.dvd_mul_right _ _)) (by
  rw [show (1024 : Nat) = 2 ^ 10 from rfl, ← Nat.pow_mul]
  exact two_le (by omega))
end
end SM
namespace SM
theorem goes_congr {g h e d : Nat → Rat} {N : Nat} (G : Goes g e N) (k1 : ∀ k < N, h k = g k) (k2 : ∀ k ≤ N, d k = e k) : Goes h d N := by
  refine ⟨by rw [k2 0 (Nat.zero_le _)]; exact G.1, fun n hn => ?_⟩
  have e1 : cv h d n = cv g e n := cv_congr (fun k hk => k1 k (by omega)) (fun k hk => k2 k (by omega))
  rw [e1, k2 (n + 1) hn]
  exact G.2 n hn
theorem slopes_ex {e : Nat → Rat} (h0 : e 0 = 1) : ∀ N, ∃ s, Goes s e N
  | 0 => ⟨fun _ => 0, h0, fun n hn => by omega⟩
  | N + 1 => by
    obtain ⟨s, _, hs⟩ := slopes_ex h0 N
    refine ⟨fun k => if k = N then ((N + 1 : Nat) : Rat) * e (N + 1) - ps s e N N else s k, h0, fun n hn => ?_⟩
    by_cases hN : n = N
    · subst hN
      have e1 : ps (fun k => if k = n then ((n + 1 : Nat) : Rat) * e (n + 1) - ps s e n n else s k) e n n = ps s e n n := ps_congr _ (fun k hk => if_neg (by omega)) fun _ _ => rfl
      show _ = ps _ e n n + (if n = n then ((n + 1 : Nat) : Rat) * e (n + 1) - ps s e n n else s n) * e (n - n)
      rw [e1, if_pos rfl, Nat.sub_self, h0]
      grind
    · rw [hs n (by omega)]
      exact cv_congr (fun k hk => (if_neg (by omega)).symm) fun _ _ => rfl
theorem nat_sm {r : Rat} (h : Gd r) {k : Nat} (hk : k ≤ 1000) : Sm ((k : Rat) * r) := by
  have h1 := (Iz.nat k).mul h
  rw [Nat.one_mul] at h1
  refine sm_of h1 M1_ne (Nat.lt_of_lt_of_le M1_lt (two_le (by decide))) ?_
  have : k * 2 ^ 300 ≤ 2 ^ 10 * 2 ^ 300 := Nat.mul_le_mul_right _ (Nat.le_trans hk (by decide))
  rw [← Nat.pow_add] at this
  exact Nat.lt_of_le_of_lt this (Nat.pow_lt_pow_right (by decide) (by decide))
theorem div_sm {r : Rat} (h : Gd r) {k : Nat} (hk : k ≤ 1000) : Sm (r / ((k + 1 : Nat) : Rat)) := by
  have h1 := Iz.mul h (Iz.inv k)
  have e : r * (1 / ((k + 1 : Nat) : Rat)) = r / ((k + 1 : Nat) : Rat) := by
    have := natc_ne k
    generalize ((k + 1 : Nat) : Rat) = X at *
    grind
  rw [e, Nat.mul_one] at h1
  refine sm_of h1 (Nat.mul_ne_zero M1_ne (by omega)) ?_ (Nat.pow_lt_pow_right (by decide) (by decide))
  have : M1 * (k + 1) ≤ 2 ^ 80 * 2 ^ 10 := Nat.mul_le_mul (Nat.le_of_lt M1_lt) (by omega)
  rw [← Nat.pow_add] at this
  exact Nat.lt_of_le_of_lt this (Nat.pow_lt_pow_right (by decide) (by decide))
theorem gd12 {r : Rat} (h : Iz 12 36 r) : Gd r := gd_of h (Nat.dvd_trans (by decide : 12 ∣ 12 ^ 13) (Nat.dvd_mul_right _ _)) (Nat.le_trans (by decide : 36 ≤ 2 ^ 10) (two_le (by decide)))
theorem tot_sm {f : Nat → Rat} {N n : Nat} (hf : ∀ k ≤ N, Iz 12 36 (f k)) (hN : N ≤ 12) (hn : n ≤ N) : ∀ k, k ≤ 12 → Sm (tot f k n) := fun k hk => by
  have h : ∀ k, k ≤ 12 → Iz M1 ((k + 1) * 2 ^ 300) (tot f k n) := fun k => by
    induction k with
    | zero =>
      intro _
      rw [Nat.one_mul]
      exact tm_gd hf hN (Nat.zero_le _) hn
    | succ k ih =>
      intro hk
      have := (ih (by omega)).add (tm_gd hf hN hk hn)
      rw [Nat.succ_mul]
      exact this
  refine sm_of (h k hk) M1_ne (Nat.lt_of_lt_of_le M1_lt (two_le (by decide))) ?_
  have : (k + 1) * 2 ^ 300 ≤ 2 ^ 10 * 2 ^ 300 := Nat.mul_le_mul_right _ (by omega)
  rw [← Nat.pow_add] at this
  exact Nat.lt_of_le_of_lt this (Nat.pow_lt_pow_right (by decide) (by decide))
end SM
namespace KP
open PySem PySem.Spec PyProof.Rows L2 EXT SDT GXP AUG
open LCM (cr_lcm)
open SM (fq Iz Sm)
open PM (Trm Ex canon mulT look put gather keys addTo pw one addE Canon)
def veB : List Value := [.type "ValueError", .type "Exception", .type "BaseException", .type "object"]
def topS (i : Nat) : Stmt := PySem.Challenge.pw_spinfield_k45_distributions.main.body.getD i (.Pass ⟨0, 0, 0, 0⟩)
abbrev s_fraction : Stmt := topS 7
abbrev n_fraction : List Str := ["numerator", "denominator", "divisor"]
theorem sc_fraction : FnScope n_fraction ["numerator", "denominator"] (defScope s_fraction) := ⟨rfl, rfl, rfl, by decide +kernel, rfl, by decide +kernel, by decide +kernel⟩
abbrev s_add : Stmt := topS 8
abbrev n_add : List Str := ["a", "b"]
theorem sc_add : FnScope n_add ["a", "b"] (defScope s_add) := ⟨rfl, rfl, rfl, by decide +kernel, rfl, by decide +kernel, by decide +kernel⟩
abbrev s_multiply : Stmt := topS 9
abbrev n_multiply : List Str := ["a", "b"]
theorem sc_multiply : FnScope n_multiply ["a", "b"] (defScope s_multiply) := ⟨rfl, rfl, rfl, by decide +kernel, rfl, by decide +kernel, by decide +kernel⟩
abbrev s_divide : Stmt := topS 10
abbrev n_divide : List Str := ["a", "b"]
theorem sc_divide : FnScope n_divide ["a", "b"] (defScope s_divide) := ⟨rfl, rfl, rfl, by decide +kernel, rfl, by decide +kernel, by decide +kernel⟩
abbrev s_compare : Stmt := topS 11
abbrev n_compare : List Str := ["a", "b", "left", "right"]
theorem sc_compare : FnScope n_compare ["a", "b"] (defScope s_compare) := ⟨rfl, rfl, rfl, by decide +kernel, rfl, by decide +kernel, by decide +kernel⟩
abbrev s_raised : Stmt := topS 12
abbrev n_raised : List Str := ["a", "exponent"]
theorem sc_raised : FnScope n_raised ["a", "exponent"] (defScope s_raised) := ⟨rfl, rfl, rfl, by decide +kernel, rfl, by decide +kernel, by decide +kernel⟩
abbrev s_repeated : Stmt := topS 13
abbrev n_repeated : List Str := ["base", "exponent", "one", "combine", "result", "square", "left"]
theorem sc_repeated : FnScope n_repeated ["base", "exponent", "one", "combine"] (defScope s_repeated) := ⟨rfl, rfl, rfl, by decide +kernel, rfl, by decide +kernel, by decide +kernel⟩
abbrev s_Spins_init : Stmt := inClass (topS 18) 0
abbrev n_Spins_init : List Str := ["self", "fields", "edges", "edge"]
theorem sc_Spins_init : FnScope n_Spins_init ["self", "fields", "edges"] (defScope s_Spins_init) := ⟨rfl, rfl, rfl, by decide +kernel, rfl, by decide +kernel, by decide +kernel⟩
abbrev s_check_fields : Stmt := topS 19
abbrev n_check_fields : List Str := ["fields", "field"]
theorem sc_check_fields : FnScope n_check_fields ["fields"] (defScope s_check_fields) := ⟨rfl, rfl, rfl, by decide +kernel, rfl, by decide +kernel, by decide +kernel⟩
abbrev s_check_edges : Stmt := topS 20
abbrev n_check_edges : List Str := ["edges", "count", "u", "v", "j", "before", "behind"]
theorem sc_check_edges : FnScope n_check_edges ["edges", "count"] (defScope s_check_edges) := ⟨rfl, rfl, rfl, by decide +kernel, rfl, by decide +kernel, by decide +kernel⟩
abbrev s_all_states : Stmt := topS 21
abbrev n_all_states : List Str := ["spins", "states", "_", "state", "spin"]
theorem sc_all_states : FnScope n_all_states ["spins"] (defScope s_all_states) := ⟨rfl, rfl, rfl, by decide +kernel, rfl, by decide +kernel, by decide +kernel⟩
abbrev s_cost : Stmt := topS 22
abbrev n_cost : List Str := ["spins", "state", "paid", "u", "v", "j", "field", "spin"]
theorem sc_cost : FnScope n_cost ["spins", "state"] (defScope s_cost) := ⟨rfl, rfl, rfl, by decide +kernel, rfl, by decide +kernel, by decide +kernel⟩
abbrev s_ups : Stmt := topS 23
abbrev n_ups : List Str := ["state"]
theorem sc_ups : FnScope n_ups ["state"] (defScope s_ups) := ⟨rfl, rfl, rfl, by decide +kernel, rfl, by decide +kernel, by decide +kernel⟩
abbrev s_check_above_zero : Stmt := topS 25
abbrev n_check_above_zero : List Str := ["x", "y"]
theorem sc_check_above_zero : FnScope n_check_above_zero ["x", "y"] (defScope s_check_above_zero) := ⟨rfl, rfl, rfl, by decide +kernel, rfl, by decide +kernel, by decide +kernel⟩
abbrev s_distribution_of : Stmt := topS 28
abbrev n_distribution_of : List Str := ["spins", "x", "y", "weights", "total", "weight"]
theorem sc_distribution_of : FnScope n_distribution_of ["spins", "x", "y"] (defScope s_distribution_of) := ⟨rfl, rfl, rfl, by decide +kernel, rfl, by decide +kernel, by decide +kernel⟩
abbrev s_check_small : Stmt := topS 29
abbrev n_check_small : List Str := ["spins", "x", "y"]
theorem sc_check_small : FnScope n_check_small ["spins", "x", "y"] (defScope s_check_small) := ⟨rfl, rfl, rfl, by decide +kernel, rfl, by decide +kernel, by decide +kernel⟩
abbrev s_weights_of : Stmt := topS 30
abbrev n_weights_of : List Str := ["spins", "x", "y", "state"]
theorem sc_weights_of : FnScope n_weights_of ["spins", "x", "y"] (defScope s_weights_of) := ⟨rfl, rfl, rfl, by decide +kernel, rfl, by decide +kernel, by decide +kernel⟩
abbrev s_after : Stmt := topS 31
abbrev n_after : List Str := ["distribution", "table", "reached", "index"]
theorem sc_after : FnScope n_after ["distribution", "table"] (defScope s_after) := ⟨rfl, rfl, rfl, by decide +kernel, rfl, by decide +kernel, by decide +kernel⟩
abbrev s_keeps : Stmt := topS 32
abbrev n_keeps : List Str := ["distribution", "table"]
theorem sc_keeps : FnScope n_keeps ["distribution", "table"] (defScope s_keeps) := ⟨rfl, rfl, rfl, by decide +kernel, rfl, by decide +kernel, by decide +kernel⟩
abbrev s_is_balanced : Stmt := topS 33
abbrev n_is_balanced : List Str := ["distribution", "table", "flows", "index", "row", "other", "chance"]
theorem sc_is_balanced : FnScope n_is_balanced ["distribution", "table"] (defScope s_is_balanced) := ⟨rfl, rfl, rfl, by decide +kernel, rfl, by decide +kernel, by decide +kernel⟩
abbrev s_followed : Stmt := topS 34
abbrev n_followed : List Str := ["first", "second", "rows", "row"]
theorem sc_followed : FnScope n_followed ["first", "second"] (defScope s_followed) := ⟨rfl, rfl, rfl, by decide +kernel, rfl, by decide +kernel, by decide +kernel⟩
abbrev s_rows_of_integers : Stmt := topS 35
abbrev n_rows_of_integers : List Str := ["table", "row"]
theorem sc_rows_of_integers : FnScope n_rows_of_integers ["table"] (defScope s_rows_of_integers) := ⟨rfl, rfl, rfl, by decide +kernel, rfl, by decide +kernel, by decide +kernel⟩
abbrev s_over_one_number : Stmt := topS 36
abbrev n_over_one_number : List Str := ["pairs", "common", "_", "chance", "index"]
theorem sc_over_one_number : FnScope n_over_one_number ["pairs"] (defScope s_over_one_number) := ⟨rfl, rfl, rfl, by decide +kernel, rfl, by decide +kernel, by decide +kernel⟩
abbrev s_row_behind : Stmt := topS 37
abbrev n_row_behind : List Str := ["pairs", "rows", "common", "parts", "index", "chance", "sums", "between", "part", "further"]
theorem sc_row_behind : FnScope n_row_behind ["pairs", "rows"] (defScope s_row_behind) := ⟨rfl, rfl, rfl, by decide +kernel, rfl, by decide +kernel, by decide +kernel⟩
abbrev s_law_cell : Stmt := topS 39
abbrev n_law_cell : List Str := ["script", "k"]
theorem sc_law_cell : FnScope n_law_cell ["script", "k"] (defScope s_law_cell) := ⟨rfl, rfl, rfl, by decide +kernel, rfl, by decide +kernel, by decide +kernel⟩
abbrev s_law_mix : Stmt := topS 40
abbrev n_law_mix : List Str := ["cell", "k", "number"]
theorem sc_law_mix : FnScope n_law_mix ["cell", "k"] (defScope s_law_mix) := ⟨rfl, rfl, rfl, by decide +kernel, rfl, by decide +kernel, by decide +kernel⟩
abbrev s_law_row : Stmt := topS 41
abbrev n_law_row : List Str := ["cell", "count", "bound", "found", "rest", "k"]
theorem sc_law_row : FnScope n_law_row ["cell", "count", "bound"] (defScope s_law_row) := ⟨rfl, rfl, rfl, by decide +kernel, rfl, by decide +kernel, by decide +kernel⟩
abbrev s_law_tuples : Stmt := topS 42
abbrev n_law_tuples : List Str := ["thing", "part"]
theorem sc_law_tuples : FnScope n_law_tuples ["thing"] (defScope s_law_tuples) := ⟨rfl, rfl, rfl, by decide +kernel, rfl, by decide +kernel, by decide +kernel⟩
abbrev s_law_gcd : Stmt := topS 43
abbrev n_law_gcd : List Str := ["a", "b"]
theorem sc_law_gcd : FnScope n_law_gcd ["a", "b"] (defScope s_law_gcd) := ⟨rfl, rfl, rfl, by decide +kernel, rfl, by decide +kernel, by decide +kernel⟩
abbrev s_law_frac : Stmt := topS 44
abbrev n_law_frac : List Str := ["a", "b", "common"]
theorem sc_law_frac : FnScope n_law_frac ["a", "b"] (defScope s_law_frac) := ⟨rfl, rfl, rfl, by decide +kernel, rfl, by decide +kernel, by decide +kernel⟩
abbrev s_law_add : Stmt := topS 45
abbrev n_law_add : List Str := ["p", "q"]
theorem sc_law_add : FnScope n_law_add ["p", "q"] (defScope s_law_add) := ⟨rfl, rfl, rfl, by decide +kernel, rfl, by decide +kernel, by decide +kernel⟩
abbrev s_law_mul : Stmt := topS 46
abbrev n_law_mul : List Str := ["p", "q"]
theorem sc_law_mul : FnScope n_law_mul ["p", "q"] (defScope s_law_mul) := ⟨rfl, rfl, rfl, by decide +kernel, rfl, by decide +kernel, by decide +kernel⟩
abbrev s_law_pow : Stmt := topS 48
abbrev n_law_pow : List Str := ["p", "n", "result", "k"]
theorem sc_law_pow : FnScope n_law_pow ["p", "n"] (defScope s_law_pow) := ⟨rfl, rfl, rfl, by decide +kernel, rfl, by decide +kernel, by decide +kernel⟩
abbrev s_law_spins : Stmt := topS 52
abbrev n_law_spins : List Str := ["script", "first", "most", "kind", "count", "fields", "digit", "pairs", "u", "v", "edges", "digits", "k", "coupling"]
theorem sc_law_spins : FnScope n_law_spins ["script", "first", "most", "kind"] (defScope s_law_spins) := ⟨rfl, rfl, rfl, by decide +kernel, rfl, by decide +kernel, by decide +kernel⟩
abbrev s_law_states : Stmt := topS 53
abbrev n_law_states : List Str := ["count", "found", "k", "later", "state"]
theorem sc_law_states : FnScope n_law_states ["count"] (defScope s_law_states) := ⟨rfl, rfl, rfl, by decide +kernel, rfl, by decide +kernel, by decide +kernel⟩
abbrev s_law_cost : Stmt := topS 54
abbrev n_law_cost : List Str := ["fields", "edges", "state", "total", "k", "u", "v", "coupling"]
theorem sc_law_cost : FnScope n_law_cost ["fields", "edges", "state"] (defScope s_law_cost) := ⟨rfl, rfl, rfl, by decide +kernel, rfl, by decide +kernel, by decide +kernel⟩
abbrev s_law_weights : Stmt := topS 56
abbrev n_law_weights : List Str := ["fields", "edges", "x", "y", "found", "state"]
theorem sc_law_weights : FnScope n_law_weights ["fields", "edges", "x", "y"] (defScope s_law_weights) := ⟨rfl, rfl, rfl, by decide +kernel, rfl, by decide +kernel, by decide +kernel⟩
abbrev s_law_shares : Stmt := topS 57
abbrev n_law_shares : List Str := ["weights", "total", "weight"]
theorem sc_law_shares : FnScope n_law_shares ["weights"] (defScope s_law_shares) := ⟨rfl, rfl, rfl, by decide +kernel, rfl, by decide +kernel, by decide +kernel⟩
abbrev s_law_fractions : Stmt := topS 58
abbrev n_law_fractions : List Str := ["cell", "unit", "bottom", "x"]
theorem sc_law_fractions : FnScope n_law_fractions ["cell", "unit"] (defScope s_law_fractions) := ⟨rfl, rfl, rfl, by decide +kernel, rfl, by decide +kernel, by decide +kernel⟩
abbrev s_law_are_rows : Stmt := topS 59
abbrev n_law_are_rows : List Str := ["table", "count", "row", "total", "before", "index", "chance"]
theorem sc_law_are_rows : FnScope n_law_are_rows ["table", "count"] (defScope s_law_are_rows) := ⟨rfl, rfl, rfl, by decide +kernel, rfl, by decide +kernel, by decide +kernel⟩
abbrev s_law_row_of : Stmt := topS 60
abbrev n_law_row_of : List Str := ["chances", "index"]
theorem sc_law_row_of : FnScope n_law_row_of ["chances"] (defScope s_law_row_of) := ⟨rfl, rfl, rfl, by decide +kernel, rfl, by decide +kernel, by decide +kernel⟩
abbrev s_law_some_table : Stmt := topS 61
abbrev n_law_some_table : List Str := ["cell", "count", "rows", "digits", "k", "chances", "j", "digit", "index"]
theorem sc_law_some_table : FnScope n_law_some_table ["cell", "count"] (defScope s_law_some_table) := ⟨rfl, rfl, rfl, by decide +kernel, rfl, by decide +kernel, by decide +kernel⟩
abbrev s_law_behind : Stmt := topS 62
abbrev n_law_behind : List Str := ["shares", "table", "found", "k", "index", "chance"]
theorem sc_law_behind : FnScope n_law_behind ["shares", "table"] (defScope s_law_behind) := ⟨rfl, rfl, rfl, by decide +kernel, rfl, by decide +kernel, by decide +kernel⟩
abbrev s_law_chance : Stmt := topS 63
abbrev n_law_chance : List Str := ["table", "start", "end", "index", "chance"]
theorem sc_law_chance : FnScope n_law_chance ["table", "start", "end"] (defScope s_law_chance) := ⟨rfl, rfl, rfl, by decide +kernel, rfl, by decide +kernel, by decide +kernel⟩
abbrev s_law_balanced : Stmt := topS 64
abbrev n_law_balanced : List Str := ["shares", "table", "i", "j"]
theorem sc_law_balanced : FnScope n_law_balanced ["shares", "table"] (defScope s_law_balanced) := ⟨rfl, rfl, rfl, by decide +kernel, rfl, by decide +kernel, by decide +kernel⟩
abbrev s_law : Stmt := topS 65
abbrev n_law : List Str := ["script", "cell", "fields", "edges", "x", "y", "told", "e", "shares", "count", "first", "second", "moved", "kept", "even", "rows", "k", "chances", "middle", "chance", "end", "further", "both"]
theorem sc_law : FnScope n_law ["script"] (defScope s_law) := ⟨rfl, rfl, rfl, by decide +kernel, rfl, by decide +kernel, by decide +kernel⟩
structure Top (K : PySem.W.Frag) (mg : Str → Option Value) : Type where
  f_fraction : Addr
  d_fraction : FuncData
  F_fraction : Fun K "fraction" "fraction" s_fraction f_fraction d_fraction
  b_fraction : Binds K d_fraction ["numerator", "denominator"] []
  g_fraction : mg "fraction" = some (.ref f_fraction)
  f_add : Addr
  d_add : FuncData
  F_add : Fun K "add" "add" s_add f_add d_add
  b_add : Binds K d_add ["a", "b"] []
  g_add : mg "add" = some (.ref f_add)
  f_multiply : Addr
  d_multiply : FuncData
  F_multiply : Fun K "multiply" "multiply" s_multiply f_multiply d_multiply
  b_multiply : Binds K d_multiply ["a", "b"] []
  g_multiply : mg "multiply" = some (.ref f_multiply)
  f_divide : Addr
  d_divide : FuncData
  F_divide : Fun K "divide" "divide" s_divide f_divide d_divide
  b_divide : Binds K d_divide ["a", "b"] []
  g_divide : mg "divide" = some (.ref f_divide)
  f_compare : Addr
  d_compare : FuncData
  F_compare : Fun K "compare" "compare" s_compare f_compare d_compare
  b_compare : Binds K d_compare ["a", "b"] []
  g_compare : mg "compare" = some (.ref f_compare)
  f_raised : Addr
  d_raised : FuncData
  F_raised : Fun K "raised" "raised" s_raised f_raised d_raised
  b_raised : Binds K d_raised ["a", "exponent"] []
  g_raised : mg "raised" = some (.ref f_raised)
  f_repeated : Addr
  d_repeated : FuncData
  F_repeated : Fun K "repeated" "repeated" s_repeated f_repeated d_repeated
  b_repeated : Binds K d_repeated ["base", "exponent", "one", "combine"] []
  g_repeated : mg "repeated" = some (.ref f_repeated)
  f_check_fields : Addr
  d_check_fields : FuncData
  c_check_fields : Addr
  P_check_fields : Addr
  F_check_fields : FunC K "_check_fields" "_check_fields" s_check_fields f_check_fields d_check_fields c_check_fields
  b_check_fields : Binds K d_check_fields ["fields"] []
  g_check_fields : mg "_check_fields" = some (.ref f_check_fields)
  f_check_edges : Addr
  d_check_edges : FuncData
  F_check_edges : Fun K "_check_edges" "_check_edges" s_check_edges f_check_edges d_check_edges
  b_check_edges : Binds K d_check_edges ["edges", "count"] []
  g_check_edges : mg "_check_edges" = some (.ref f_check_edges)
  f_all_states : Addr
  d_all_states : FuncData
  F_all_states : Fun K "all_states" "all_states" s_all_states f_all_states d_all_states
  b_all_states : Binds K d_all_states ["spins"] []
  g_all_states : mg "all_states" = some (.ref f_all_states)
  f_cost : Addr
  d_cost : FuncData
  c_cost : Addr
  P_cost : Addr
  F_cost : FunC K "cost" "cost" s_cost f_cost d_cost c_cost
  b_cost : Binds K d_cost ["spins", "state"] []
  g_cost : mg "cost" = some (.ref f_cost)
  f_ups : Addr
  d_ups : FuncData
  F_ups : Fun K "ups" "ups" s_ups f_ups d_ups
  b_ups : Binds K d_ups ["state"] []
  g_ups : mg "ups" = some (.ref f_ups)
  f_check_above_zero : Addr
  d_check_above_zero : FuncData
  F_check_above_zero : Fun K "check_above_zero" "check_above_zero" s_check_above_zero f_check_above_zero d_check_above_zero
  b_check_above_zero : Binds K d_check_above_zero ["x", "y"] []
  g_check_above_zero : mg "check_above_zero" = some (.ref f_check_above_zero)
  f_distribution_of : Addr
  d_distribution_of : FuncData
  c_distribution_of : Addr
  P_distribution_of : Addr
  F_distribution_of : FunC K "distribution_of" "distribution_of" s_distribution_of f_distribution_of d_distribution_of c_distribution_of
  b_distribution_of : Binds K d_distribution_of ["spins", "x", "y"] []
  g_distribution_of : mg "distribution_of" = some (.ref f_distribution_of)
  f_check_small : Addr
  d_check_small : FuncData
  F_check_small : Fun K "check_small" "check_small" s_check_small f_check_small d_check_small
  b_check_small : Binds K d_check_small ["spins", "x", "y"] []
  g_check_small : mg "check_small" = some (.ref f_check_small)
  f_weights_of : Addr
  d_weights_of : FuncData
  F_weights_of : Fun K "weights_of" "weights_of" s_weights_of f_weights_of d_weights_of
  b_weights_of : Binds K d_weights_of ["spins", "x", "y"] []
  g_weights_of : mg "weights_of" = some (.ref f_weights_of)
  f_after : Addr
  d_after : FuncData
  c_after : Addr
  P_after : Addr
  F_after : FunC K "after" "after" s_after f_after d_after c_after
  b_after : Binds K d_after ["distribution", "table"] []
  g_after : mg "after" = some (.ref f_after)
  f_keeps : Addr
  d_keeps : FuncData
  F_keeps : Fun K "keeps" "keeps" s_keeps f_keeps d_keeps
  b_keeps : Binds K d_keeps ["distribution", "table"] []
  g_keeps : mg "keeps" = some (.ref f_keeps)
  f_is_balanced : Addr
  d_is_balanced : FuncData
  c_is_balanced : Addr
  P_is_balanced : Addr
  F_is_balanced : FunC K "is_balanced" "is_balanced" s_is_balanced f_is_balanced d_is_balanced c_is_balanced
  b_is_balanced : Binds K d_is_balanced ["distribution", "table"] []
  g_is_balanced : mg "is_balanced" = some (.ref f_is_balanced)
  f_followed : Addr
  d_followed : FuncData
  c_followed : Addr
  P_followed : Addr
  F_followed : FunC K "followed" "followed" s_followed f_followed d_followed c_followed
  b_followed : Binds K d_followed ["first", "second"] []
  g_followed : mg "followed" = some (.ref f_followed)
  f_rows_of_integers : Addr
  d_rows_of_integers : FuncData
  F_rows_of_integers : Fun K "_rows_of_integers" "_rows_of_integers" s_rows_of_integers f_rows_of_integers d_rows_of_integers
  b_rows_of_integers : Binds K d_rows_of_integers ["table"] []
  g_rows_of_integers : mg "_rows_of_integers" = some (.ref f_rows_of_integers)
  f_over_one_number : Addr
  d_over_one_number : FuncData
  F_over_one_number : Fun K "_over_one_number" "_over_one_number" s_over_one_number f_over_one_number d_over_one_number
  b_over_one_number : Binds K d_over_one_number ["pairs"] []
  g_over_one_number : mg "_over_one_number" = some (.ref f_over_one_number)
  f_row_behind : Addr
  d_row_behind : FuncData
  c_row_behind : Addr
  P_row_behind : Addr
  F_row_behind : FunC K "_row_behind" "_row_behind" s_row_behind f_row_behind d_row_behind c_row_behind
  b_row_behind : Binds K d_row_behind ["pairs", "rows"] []
  g_row_behind : mg "_row_behind" = some (.ref f_row_behind)
  f_law_cell : Addr
  d_law_cell : FuncData
  F_law_cell : Fun K "_law_cell" "_law_cell" s_law_cell f_law_cell d_law_cell
  b_law_cell : Binds K d_law_cell ["script", "k"] []
  g_law_cell : mg "_law_cell" = some (.ref f_law_cell)
  f_law_mix : Addr
  d_law_mix : FuncData
  F_law_mix : Fun K "_law_mix" "_law_mix" s_law_mix f_law_mix d_law_mix
  b_law_mix : Binds K d_law_mix ["cell", "k"] []
  g_law_mix : mg "_law_mix" = some (.ref f_law_mix)
  f_law_row : Addr
  d_law_row : FuncData
  F_law_row : Fun K "_law_row" "_law_row" s_law_row f_law_row d_law_row
  b_law_row : Binds K d_law_row ["cell", "count", "bound"] []
  g_law_row : mg "_law_row" = some (.ref f_law_row)
  f_law_tuples : Addr
  d_law_tuples : FuncData
  F_law_tuples : Fun K "_law_tuples" "_law_tuples" s_law_tuples f_law_tuples d_law_tuples
  b_law_tuples : Binds K d_law_tuples ["thing"] []
  g_law_tuples : mg "_law_tuples" = some (.ref f_law_tuples)
  f_law_gcd : Addr
  d_law_gcd : FuncData
  F_law_gcd : Fun K "_law_gcd" "_law_gcd" s_law_gcd f_law_gcd d_law_gcd
  b_law_gcd : Binds K d_law_gcd ["a", "b"] []
  g_law_gcd : mg "_law_gcd" = some (.ref f_law_gcd)
  f_law_frac : Addr
  d_law_frac : FuncData
  F_law_frac : Fun K "_law_frac" "_law_frac" s_law_frac f_law_frac d_law_frac
  b_law_frac : Binds K d_law_frac ["a", "b"] []
  g_law_frac : mg "_law_frac" = some (.ref f_law_frac)
  f_law_add : Addr
  d_law_add : FuncData
  F_law_add : Fun K "_law_add" "_law_add" s_law_add f_law_add d_law_add
  b_law_add : Binds K d_law_add ["p", "q"] []
  g_law_add : mg "_law_add" = some (.ref f_law_add)
  f_law_mul : Addr
  d_law_mul : FuncData
  F_law_mul : Fun K "_law_mul" "_law_mul" s_law_mul f_law_mul d_law_mul
  b_law_mul : Binds K d_law_mul ["p", "q"] []
  g_law_mul : mg "_law_mul" = some (.ref f_law_mul)
  f_law_pow : Addr
  d_law_pow : FuncData
  F_law_pow : Fun K "_law_pow" "_law_pow" s_law_pow f_law_pow d_law_pow
  b_law_pow : Binds K d_law_pow ["p", "n"] []
  g_law_pow : mg "_law_pow" = some (.ref f_law_pow)
  f_law_spins : Addr
  d_law_spins : FuncData
  F_law_spins : Fun K "_law_spins" "_law_spins" s_law_spins f_law_spins d_law_spins
  b_law_spins : Binds K d_law_spins ["script", "first", "most", "kind"] []
  g_law_spins : mg "_law_spins" = some (.ref f_law_spins)
  f_law_states : Addr
  d_law_states : FuncData
  F_law_states : Fun K "_law_states" "_law_states" s_law_states f_law_states d_law_states
  b_law_states : Binds K d_law_states ["count"] []
  g_law_states : mg "_law_states" = some (.ref f_law_states)
  f_law_cost : Addr
  d_law_cost : FuncData
  F_law_cost : Fun K "_law_cost" "_law_cost" s_law_cost f_law_cost d_law_cost
  b_law_cost : Binds K d_law_cost ["fields", "edges", "state"] []
  g_law_cost : mg "_law_cost" = some (.ref f_law_cost)
  f_law_weights : Addr
  d_law_weights : FuncData
  F_law_weights : Fun K "_law_weights" "_law_weights" s_law_weights f_law_weights d_law_weights
  b_law_weights : Binds K d_law_weights ["fields", "edges", "x", "y"] []
  g_law_weights : mg "_law_weights" = some (.ref f_law_weights)
  f_law_shares : Addr
  d_law_shares : FuncData
  F_law_shares : Fun K "_law_shares" "_law_shares" s_law_shares f_law_shares d_law_shares
  b_law_shares : Binds K d_law_shares ["weights"] []
  g_law_shares : mg "_law_shares" = some (.ref f_law_shares)
  f_law_fractions : Addr
  d_law_fractions : FuncData
  F_law_fractions : Fun K "_law_fractions" "_law_fractions" s_law_fractions f_law_fractions d_law_fractions
  b_law_fractions : Binds K d_law_fractions ["cell", "unit"] []
  g_law_fractions : mg "_law_fractions" = some (.ref f_law_fractions)
  f_law_are_rows : Addr
  d_law_are_rows : FuncData
  F_law_are_rows : Fun K "_law_are_rows" "_law_are_rows" s_law_are_rows f_law_are_rows d_law_are_rows
  b_law_are_rows : Binds K d_law_are_rows ["table", "count"] []
  g_law_are_rows : mg "_law_are_rows" = some (.ref f_law_are_rows)
  f_law_row_of : Addr
  d_law_row_of : FuncData
  F_law_row_of : Fun K "_law_row_of" "_law_row_of" s_law_row_of f_law_row_of d_law_row_of
  b_law_row_of : Binds K d_law_row_of ["chances"] []
  g_law_row_of : mg "_law_row_of" = some (.ref f_law_row_of)
  f_law_some_table : Addr
  d_law_some_table : FuncData
  F_law_some_table : Fun K "_law_some_table" "_law_some_table" s_law_some_table f_law_some_table d_law_some_table
  b_law_some_table : Binds K d_law_some_table ["cell", "count"] []
  g_law_some_table : mg "_law_some_table" = some (.ref f_law_some_table)
  f_law_behind : Addr
  d_law_behind : FuncData
  F_law_behind : Fun K "_law_behind" "_law_behind" s_law_behind f_law_behind d_law_behind
  b_law_behind : Binds K d_law_behind ["shares", "table"] []
  g_law_behind : mg "_law_behind" = some (.ref f_law_behind)
  f_law_chance : Addr
  d_law_chance : FuncData
  F_law_chance : Fun K "_law_chance" "_law_chance" s_law_chance f_law_chance d_law_chance
  b_law_chance : Binds K d_law_chance ["table", "start", "end"] []
  g_law_chance : mg "_law_chance" = some (.ref f_law_chance)
  f_law_balanced : Addr
  d_law_balanced : FuncData
  F_law_balanced : Fun K "_law_balanced" "_law_balanced" s_law_balanced f_law_balanced d_law_balanced
  b_law_balanced : Binds K d_law_balanced ["shares", "table"] []
  g_law_balanced : mg "_law_balanced" = some (.ref f_law_balanced)
  t_MOST_VERTICES_spins : Tok
  g_MOST_VERTICES_spins : mg "MOST_VERTICES_spins" = some (.int 12 t_MOST_VERTICES_spins)
  t_MOST_EDGES : Tok
  g_MOST_EDGES : mg "MOST_EDGES" = some (.int 24 t_MOST_EDGES)
  t_MOST_SIZE : Tok
  g_MOST_SIZE : mg "MOST_SIZE" = some (.int 9 t_MOST_SIZE)
  t_MOST_VERTICES_distributions : Tok
  g_MOST_VERTICES_distributions : mg "MOST_VERTICES_distributions" = some (.int 6 t_MOST_VERTICES_distributions)
  f_FieldError : Addr
  g_FieldError : mg "FieldError" = some (.ref f_FieldError)
  q_FieldError : PySem.W.excIn K f_FieldError veB "ValueError.__new__" = true
  k_FieldError : PySem.W.keepIn K (.ref f_FieldError) = true
  b_FieldError : PySem.W.subIn K (.ref f_FieldError) (.type "BaseException") = some true
  y_FieldError : PySem.W.typeIn K (.ref f_FieldError) = some (.type "type")
  f_InvalidSpins : Addr
  g_InvalidSpins : mg "InvalidSpins" = some (.ref f_InvalidSpins)
  q_InvalidSpins : PySem.W.excIn K f_InvalidSpins veB "ValueError.__new__" = true
  k_InvalidSpins : PySem.W.keepIn K (.ref f_InvalidSpins) = true
  b_InvalidSpins : PySem.W.subIn K (.ref f_InvalidSpins) (.type "BaseException") = some true
  y_InvalidSpins : PySem.W.typeIn K (.ref f_InvalidSpins) = some (.type "type")
  f_InvalidWeight : Addr
  g_InvalidWeight : mg "InvalidWeight" = some (.ref f_InvalidWeight)
  q_InvalidWeight : PySem.W.excIn K f_InvalidWeight veB "ValueError.__new__" = true
  k_InvalidWeight : PySem.W.keepIn K (.ref f_InvalidWeight) = true
  b_InvalidWeight : PySem.W.subIn K (.ref f_InvalidWeight) (.type "BaseException") = some true
  y_InvalidWeight : PySem.W.typeIn K (.ref f_InvalidWeight) = some (.type "type")
  f_TooLarge : Addr
  g_TooLarge : mg "TooLarge" = some (.ref f_TooLarge)
  q_TooLarge : PySem.W.excIn K f_TooLarge veB "ValueError.__new__" = true
  k_TooLarge : PySem.W.keepIn K (.ref f_TooLarge) = true
  b_TooLarge : PySem.W.subIn K (.ref f_TooLarge) (.type "BaseException") = some true
  y_TooLarge : PySem.W.typeIn K (.ref f_TooLarge) = some (.type "type")
  C_Spins : Addr
  g_Spins : mg "Spins" = some (.ref C_Spins)
  cl_Spins : Cls K C_Spins
  f_Spins_init : Addr
  d_Spins_init : FuncData
  c_Spins_init : Addr
  P_Spins_init : Addr
  F_Spins_init : FunC K "__init__" "Spins.__init__" s_Spins_init f_Spins_init d_Spins_init c_Spins_init
  b_Spins_init : Binds K d_Spins_init ["self", "fields", "edges"] []
  mk_Spins : Mk K C_Spins f_Spins_init
  na_Spins_fields : NoAttr K C_Spins "fields"
  na_Spins_edges : NoAttr K C_Spins "edges"
  g_gcd : mg "gcd" = some (.builtin "math.gcd")
  g_lcm : mg "lcm" = some (.builtin "math.lcm")
  m_abs : mg "abs" = none
  m_all : mg "all" = none
  m_bool : mg "bool" = none
  m_dict : mg "dict" = none
  m_enumerate : mg "enumerate" = none
  m_int : mg "int" = none
  m_isinstance : mg "isinstance" = none
  m_len : mg "len" = none
  m_list : mg "list" = none
  m_range : mg "range" = none
  m_sorted : mg "sorted" = none
  m_sum : mg "sum" = none
  m_tuple : mg "tuple" = none
  m_zip : mg "zip" = none
  xm_InvalidWeight : PySem.W.exmOne K (.ref f_InvalidWeight) (.ref f_FieldError) = some true
  ki_InvalidWeight : PySem.W.kitOne K (.ref f_InvalidWeight) (.ref f_InvalidWeight) = some true
  ec_InvalidWeight : ExcC K f_InvalidWeight
  xm_TooLarge : PySem.W.exmOne K (.ref f_TooLarge) (.ref f_FieldError) = some true
  ki_TooLarge : PySem.W.kitOne K (.ref f_TooLarge) (.ref f_TooLarge) = some true
  kn_TooLarge : PySem.W.kitOne K (.ref f_TooLarge) (.ref f_InvalidWeight) = some false
  ec_TooLarge : ExcC K f_TooLarge
structure Tb {K : PySem.W.Frag} {mg : Str → Option Value} (T : Top K mg) (base : Heap) : Prop where
  t_Spins_init : LamX.TabB base mg T.c_Spins_init T.P_Spins_init
  t_check_fields : LamX.TabB base mg T.c_check_fields T.P_check_fields
  t_cost : LamX.TabB base mg T.c_cost T.P_cost
  t_distribution_of : LamX.TabB base mg T.c_distribution_of T.P_distribution_of
  t_after : LamX.TabB base mg T.c_after T.P_after
  t_is_balanced : LamX.TabB base mg T.c_is_balanced T.P_is_balanced
  t_followed : LamX.TabB base mg T.c_followed T.P_followed
  t_row_behind : LamX.TabB base mg T.c_row_behind T.P_row_behind
/-- the tables stand -/
structure Tg {K : PySem.W.Frag} {mg : Str → Option Value} (T : Top K mg) (H : Hp) : Prop where
  t_Spins_init : GxR.TabG H T.P_Spins_init
  t_check_fields : GxR.TabG H T.P_check_fields
  t_cost : GxR.TabG H T.P_cost
  t_distribution_of : GxR.TabG H T.P_distribution_of
  t_after : GxR.TabG H T.P_after
  t_is_balanced : GxR.TabG H T.P_is_balanced
  t_followed : GxR.TabG H T.P_followed
  t_row_behind : GxR.TabG H T.P_row_behind
theorem Tg.ext {K : PySem.W.Frag} {mg : Str → Option Value} {T : Top K mg} {H H1 : Hp} (G : Tg T H) (s : Ext H H1) : Tg T H1 := ⟨s.tab G.t_Spins_init, s.tab G.t_check_fields, s.tab G.t_cost, s.tab G.t_distribution_of, s.tab G.t_after, s.tab G.t_is_balanced, s.tab G.t_followed, s.tab G.t_row_behind⟩
theorem sl2 : (2 : Nat) ≤ sizeLine := by rw [sizeLine_eq]; decide
theorem sl_of {n : Nat} (h : n ≤ 1000000) : n ≤ sizeLine := by rw [sizeLine_eq]; omega
theorem sl_lt {n : Nat} (h : n < 1000000) : n < sizeLine := by rw [sizeLine_eq]; omega
end KP
namespace KP
open PySem PySem.Spec PyProof.Rows L2 EXT SDT GXP AUG
open LCM (cr_lcm)
open SM (fq Iz Sm)
open PM (Trm Ex canon mulT look put gather keys addTo pw one addE Canon)
section
variable {P : Program} {w : World} {K : PySem.W.Frag} {mg : Str → Option Value} {base : Heap}
/-- // by a divisor that is not 0, below 2 ^ 9000 -/
def CDivZ (_ j : Int) : Prop := j ≠ 0 ∧ j.natAbs.log2 < 9000
theorem op_fdivZ {X : Cx} : OpR X (binaryOp .FloorDiv) (rI CDivZ fun i j => .int (i.fdiv j)) := opI fun i j _ _ _ _ _ hc q =>
  floordiv_int hc.1 q (.inl (PyProof.noPylong_of_log2 hc.2))
theorem same_upd {H : Hp} {p : Addr} {o : HO} (h : H p = none) : Same H (upd H p o) := fun b x e => by
  rw [upd_ne (ne_of_none e h)]
  exact e
theorem _root_.L2.Same.tup {K : PySem.W.Frag} {H H' : Hp} {a : Addr} {xs : List V} (e : Same H H') (h : SqT K H a xs) : SqT K H' a xs := e.ext.tup h
theorem take_snoc {α : Type} {l : List α} {i : Nat} {x : α} (h : l[i]? = some x) : l.take (i + 1) = l.take i ++ [x] := by
  rw [List.take_add_one, h]
  rfl
theorem _root_.L2.FunC.okX {x qual : Str} {st : Stmt} {f c : Addr} {fd : FuncData} {N ps : List Str} {k : Nat} {sp : Sp} (F : FunC K x qual st f fd c) (S : FnScope N ps (defScope st)) (len : ∀ vs H Q E, sp vs H Q E → vs.length = ps.length)
    (hbody : ∀ (A : Around) (outer : List Env) (s : Shared) (H : Hp) (vs : List V) (Q : VK) (E : XK), Room k (A.deeper (envOfC qual (defScope st) s.heap.objs.size f (.ref c))) → sp vs H Q E →
      ∃ t, PSs (cxOf (L2.CX P w) P w K mg base N qual (defScope st) f (.ref c) A outer s H E) (defBody st) t ∧ t { nx := fun _ H' => Q .non H', rt := Q } (start N vs) H) :
    FnOk P w K mg base (L2.CX P w) (k + 1) f fd ps sp := by
  obtain ⟨oc, od, kV, doc, pm, an, ct, osl, e, lk, hcd⟩ := F.ex
  subst e
  exact fn_of lk hcd S len fun A outer s H vs Q E hr hsp => hbody A outer s H vs Q E hr hsp
theorem iteB {c : Bool} {A B : Prop} (h1 : c = true → A) (h2 : c = false → B) : if c = true then A else B := by
  cases c
  · exact iteF (h2 rfl)
  · exact iteT (h1 rfl)
/-- fields as they may be -/
def goodF (fs : List Int) : Prop := 1 ≤ fs.length ∧ fs.length ≤ 12 ∧ ∀ f ∈ fs, -9 ≤ f ∧ f ≤ 9
def spFields (T : Top K mg) : Sp := fun vs H Q E => ∃ (a : Addr) (fs : List Int), vs = [.ref a] ∧ SqT K H a (fs.map V.int) ∧ Tg T H ∧
  (goodF fs → ∀ H', Ext H H' → Q .non H') ∧ (¬ goodF fs → ∀ H', Ext H H' → E (.ref T.f_InvalidSpins) none H')
theorem ok_check_fields (T : Top K mg) (B : Tb T base) : FnOk P w K mg base (L2.CX P w) 2 T.f_check_fields T.d_check_fields ["fields"] (spFields T) := by
  refine T.F_check_fields.okX sc_check_fields (fun vs H Q E h => ?_) (fun A outer s H vs Q E hr h => ?_)
  · obtain ⟨a, fs, rfl, _⟩ := h
    rfl
  · obtain ⟨a, fs, rfl, ha, G, q1, q2⟩ := h
    refine ⟨_, (pss_cons (ps_if (pt_not (pt_chain op_le op_le pe_int (pe_callB call_len_seq (by rfl) T.m_len (by decide +kernel) (pa_cons (pv 0) pa_nil)) (pe_glob (v := .int 12) (by rfl) T.g_MOST_VERTICES_spins ⟨_, rfl⟩))) (pss_one (ps_raise rfl (takes_of rfl rfl rfl rfl) (pmk_own PySem.F.excBase_ValueError T.q_InvalidSpins T.g_InvalidSpins T.k_InvalidSpins (raises_own T.b_InvalidSpins T.y_InvalidSpins) (by rfl)))) pss_nil)
      (pss_one (ps_if (pt_not (pt_val (GXP.pe_allGx (own := [("field", 1)]) (g := gName 1) (tt := tYes) (k := 0) (c := T.c_check_fields) (P := T.P_check_fields) (by rfl) T.m_all ⟨hr.mono (by decide), rfl, B.t_check_fields, rfl, rfl, blkOk_by (own := [("field", 1)]) (N := n_check_fields) (sc := defScope s_check_fields) (by decide +kernel), sc_check_fields.nd, by decide +kernel, rfl, (pi_tup (pv 0)), fun A s H C cl code bi fp hrA => (pg_name (i := 1) sc_check_fields.nd rfl (by first | exact .inl rfl | exact .inr rfl)), fun A s H C cl code bi fp hrA => pts_nil, fun A s H C cl code bi fp hrA => (pe_chain op_le op_le (pe_un un_neg (pe_glob (v := .int 9) (by rfl) T.g_MOST_SIZE ⟨_, rfl⟩)) (pv 1) (pe_glob (v := .int 9) (by rfl) T.g_MOST_SIZE ⟨_, rfl⟩)), fun _ => rfl⟩))) (pss_one (ps_raise rfl (takes_of rfl rfl rfl rfl) (pmk_own PySem.F.excBase_ValueError T.q_InvalidSpins T.g_InvalidSpins T.k_InvalidSpins (raises_own T.b_InvalidSpins T.y_InvalidSpins) (by rfl)))) pss_nil))), ?_⟩
    have hl : (fs.map V.int).length = fs.length := List.length_map _
    have bad : ¬ goodF fs → ∀ H', Ext H H' → E (.ref T.f_InvalidSpins) none H' := q2
    refine ⟨_, rfl, a, _, rfl, .inr ha, _, _, rfl, rfl, _, rfl, ite2 (fun e1 => ?_) (fun e1 => ?_)⟩
    · have e1 : 1 ≤ fs.length := by
        have := of_decide_eq_true e1
        rw [hl] at this
        omega
      refine ⟨_, _, rfl, rfl, _, rfl, iteB (fun e2 => ?_) (fun e2 => ?_)⟩
      · have e2 : ¬ fs.length ≤ 12 := fun z => by
          have e3 : (12 : Int) < fs.length := by simpa using e2
          omega
        exact bad (fun g => e2 g.2.1) H (Ext.refl H)
      · have e2 : fs.length ≤ 12 := by
          have : decide (((fs.map V.int).length : Int) ≤ 12) = true := by simpa using e2
          have := of_decide_eq_true this
          rw [hl] at this
          omega
        refine ⟨_, rfl, a, rfl, ⟨_, ha⟩, G.t_check_fields, fun H2 t2 => ?_⟩
        have x2 : Ext H H2 := ext_tabbed G.t_check_fields t2
        refine gx_tup (xs := fs.map V.int) (fun i zs H3 => H3 = H2 ∧ ∀ f ∈ fs.take i, -9 ≤ f ∧ f ≤ 9) ⟨rfl, fun f m => by simp at m⟩ (fun i zs H3 _ h => by rw [h.1]; exact x2.tup ha) (fun i x zs H3 hi hP => ?_) (fun zs H3 hP => ?_)
        · obtain ⟨rfl, hz⟩ := hP
          rw [List.getElem?_map] at hi
          cases hf : fs[i]? with
          | none => rw [hf] at hi; cases hi
          | some f =>
            rw [hf] at hi
            cases hi
            have hm := List.mem_of_getElem? hf
            have take1 : fs.take (i + 1) = fs.take i ++ [f] := by rw [List.take_add_one, hf]; rfl
            refine ⟨rfl, _, rfl, _, rfl, _, _, rfl, rfl, _, rfl, ite2 (fun e3 => ?_) (fun e3 => ?_)⟩
            · have e3 := of_decide_eq_true e3
              refine ⟨_, _, rfl, rfl, _, rfl, ?_⟩
              by_cases e4 : f ≤ 9
              · rw [decide_eq_true e4, if_neg (by decide)]
                refine ⟨rfl, fun g m => ?_⟩
                rw [take1] at m
                rcases List.mem_append.mp m with m | m
                · exact hz g m
                · rw [List.mem_singleton.mp m]
                  exact ⟨e3, e4⟩
              · rw [decide_eq_false e4, if_pos rfl]
                exact ⟨_, rfl, iteT (bad (fun g => e4 (g.2.2 f hm).2) _ x2)⟩
            · have e3 : ¬ -9 ≤ f := fun z => e3 (decide_eq_true z)
              refine ⟨_, rfl, ?_⟩
              rw [if_pos rfl]
              exact ⟨_, rfl, iteT (bad (fun g => e3 (g.2.2 f hm).1) _ x2)⟩
        · obtain ⟨rfl, hz⟩ := hP
          rw [hl, List.take_length] at hz
          exact ⟨_, rfl, iteF (q1 ⟨e1, e2, hz⟩ _ x2)⟩
    · have e1 : ¬ 1 ≤ fs.length := fun z => e1 (decide_eq_true (by rw [hl]; omega))
      exact ⟨_, rfl, iteT (bad (fun g => e1 g.1) H (Ext.refl H))⟩
/-- an edge, as a tuple of three ints -/
abbrev Eg := Int × Int × Int
def EdgeAt (K : PySem.W.Frag) (H : Hp) (v : V) (e : Eg) : Prop := ∃ a, v = .ref a ∧ SqT K H a [.int e.1, .int e.2.1, .int e.2.2]
def okE (n : Int) (e : Eg) : Prop := 0 ≤ e.1 ∧ e.1 < e.2.1 ∧ e.2.1 < n ∧ e.2.2 ≠ 0 ∧ -9 ≤ e.2.2 ∧ e.2.2 ≤ 9
def ltEg (x y : Eg) : Prop := x.1 < y.1 ∨ (x.1 = y.1 ∧ x.2.1 < y.2.1)
def goodE (n : Int) (es : List Eg) : Prop := es.length ≤ 24 ∧ (∀ e ∈ es, okE n e) ∧ ∀ i x y, es[i]? = some x → es[i + 1]? = some y → ltEg x y
def spEdges (T : Top K mg) : Sp := fun vs H Q E => ∃ (a : Addr) (xs : List V) (es : List Eg) (n : Int), vs = [.ref a, .int n] ∧ SqT K H a xs ∧ Paired (EdgeAt K H) xs es ∧ es.length < 1000000 ∧
  (goodE n es → ∀ H', Ext H H' → Q .non H') ∧ (¬ goodE n es → ∀ H', Ext H H' → E (.ref T.f_InvalidSpins) none H')
theorem cut2 {x y z : V} : ¬ (HT.sIx [x, y, z].length 0 none = 0 ∧ HT.sIx [x, y, z].length [x, y, z].length (some 2) = [x, y, z].length) := fun w => by
  have h := w.2
  rw [show (some (2 : Int)) = some ((2 : Nat) : Int) from rfl, HT.sIx_nat] at h
  simp at h
theorem ok_check_edges (T : Top K mg) : FnOk P w K mg base (L2.CX P w) 1 T.f_check_edges T.d_check_edges ["edges", "count"] (spEdges T) := by
  refine T.F_check_edges.okX sc_check_edges (fun vs H Q E h => ?_) (fun cdv A outer s H vs Q E hr h => ?_)
  · obtain ⟨a, xs, es, n, rfl, _⟩ := h
    rfl
  · obtain ⟨a, xs, es, n, rfl, ha, hes, hlen, q1, q2⟩ := h
    refine ⟨_, (pss_cons (ps_if (pt_cmpR op_gt (pe_callB call_len_seq (by rfl) T.m_len (by decide +kernel) (pa_cons (pv 0) pa_nil)) (pe_glob (v := .int 24) (by rfl) T.g_MOST_EDGES ⟨_, rfl⟩) (nomark _)) (pss_one (ps_raise rfl (takes_of rfl rfl rfl rfl) (pmk_own PySem.F.excBase_ValueError T.q_InvalidSpins T.g_InvalidSpins T.k_InvalidSpins (raises_own T.b_InvalidSpins T.y_InvalidSpins) (by rfl)))) pss_nil)
      (pss_cons (ps_for (passes_of rfl) rfl (pi_tup (pv 0)) (pg_tup rfl (pgs_cons (pg_name (i := 2) sc_check_edges.nd rfl (by first | exact .inl rfl | exact .inr rfl)) (pgs_cons (pg_name (i := 3) sc_check_edges.nd rfl (by first | exact .inl rfl | exact .inr rfl)) (pgs_cons (pg_name (i := 4) sc_check_edges.nd rfl (by first | exact .inl rfl | exact .inr rfl)) pgs_nil)))) (pss_cons (ps_if (pt_not (pt_chain3 op_le op_lt op_lt pe_int (pv 2) (pv 3) (pv 1))) (pss_one (ps_raise rfl (takes_of rfl rfl rfl rfl) (pmk_own PySem.F.excBase_ValueError T.q_InvalidSpins T.g_InvalidSpins T.k_InvalidSpins (raises_own T.b_InvalidSpins T.y_InvalidSpins) (by rfl)))) pss_nil)
      (pss_one (ps_if (PW.pt (pw_or (pt_cmpR op_eq (pv 4) pe_int (nomark _)) (pw_or1 (pt_not (pt_chain op_le op_le (pe_un un_neg (pe_glob (v := .int 9) (by rfl) T.g_MOST_SIZE ⟨_, rfl⟩)) (pv 4) (pe_glob (v := .int 9) (by rfl) T.g_MOST_SIZE ⟨_, rfl⟩)))))) (pss_one (ps_raise rfl (takes_of rfl rfl rfl rfl) (pmk_own PySem.F.excBase_ValueError T.q_InvalidSpins T.g_InvalidSpins T.k_InvalidSpins (raises_own T.b_InvalidSpins T.y_InvalidSpins) (by rfl)))) pss_nil))))
      (pss_one (ps_for (passes_of rfl) rfl (RZ.pi_zipA (by rfl) T.m_zip (pa_cons (pv 0) (pa_cons (pe_slice sl_tupA (pv 0) (po_some pe_int) po_none) pa_nil))) (pg_tup rfl (pgs_cons (pg_name (i := 5) sc_check_edges.nd rfl (by first | exact .inl rfl | exact .inr rfl)) (pgs_cons (pg_name (i := 6) sc_check_edges.nd rfl (by first | exact .inl rfl | exact .inr rfl)) pgs_nil))) (pss_one (ps_if (pt_cmpR (op_geP (Nat.lt_of_le_of_lt (Nat.le_add_right _ _) hr.units)) (pe_slice sl_tupA (pv 5) po_none (po_some pe_int)) (pe_slice sl_tupA (pv 6) po_none (po_some pe_int)) (nomark _)) (pss_one (ps_raise rfl (takes_of rfl rfl rfl rfl) (pmk_own PySem.F.excBase_ValueError T.q_InvalidSpins T.g_InvalidSpins T.k_InvalidSpins (raises_own T.b_InvalidSpins T.y_InvalidSpins) (by rfl)))) pss_nil)))))), ?_⟩
    have bad : ¬ goodE n es → ∀ H', Ext H H' → E (.ref T.f_InvalidSpins) none H' := q2
    have hl := hes.length
    refine ⟨_, rfl, a, _, rfl, .inr ha, _, _, rfl, rfl, _, rfl, ite2 (fun e1 => ?_) (fun e1 => ?_)⟩
    · have e1 := of_decide_eq_true e1
      exact bad (fun g => by have := g.1; omega) H (Ext.refl H)
    have el24 : es.length ≤ 24 := by
      have : ¬ (24 : Int) < (xs.length : Int) := fun z => e1 (decide_eq_true z)
      omega
    refine ⟨_, rfl, a, rfl, ⟨_, ha⟩, for_tup (xs := xs) (fun i σ H1 => (∃ x1 x2 x3, σ = [some (.ref a), some (.int n), x1, x2, x3, none, none]) ∧ Ext H H1 ∧ ∀ e ∈ es.take i, okE n e) ⟨⟨_, _, _, rfl⟩, Ext.refl H, fun e m => by simp at m⟩ (fun i σ H1 _ h => h.2.1.tup ha) (fun i x σ H1 hi hP => ?_) (fun σ H1 hP => ?_)⟩
    · obtain ⟨⟨x1, x2, x3, rfl⟩, s1, hok⟩ := hP
      obtain ⟨⟨u, v, j⟩, hei, a1, rfl, h1⟩ := paired_at hes hi
      have hm := List.mem_of_getElem? hei
      have take1 : es.take (i + 1) = es.take i ++ [(u, v, j)] := by rw [List.take_add_one, hei]; rfl
      have bade : ¬ okE n (u, v, j) → E (.ref T.f_InvalidSpins) none H1 := fun z => bad (fun g => z (g.2.1 _ hm)) H1 s1
      refine ⟨a1, _, rfl, s1.tup h1, rfl, _, _, rfl, _, _, rfl, _, _, rfl, rfl, ?_⟩
      refine ⟨_, rfl, _, _, rfl, rfl, _, rfl, ite2 (fun b1 => ?_) (fun b1 => ?_)⟩
      · have b1 : 0 ≤ u := of_decide_eq_true b1
        refine ⟨_, rfl, _, _, rfl, rfl, _, rfl, ite2 (fun b2 => ?_) (fun b2 => ?_)⟩
        · have b2 : u < v := of_decide_eq_true b2
          refine ⟨_, rfl, _, _, rfl, rfl, _, rfl, ?_⟩
          by_cases b3 : v < n
          · rw [decide_eq_true b3]
            refine iteF ?_
            refine ⟨_, rfl, rfl, _, rfl, ?_⟩
            by_cases b4 : j = 0
            · subst b4
              refine iteT (iteT (bade fun z => z.2.2.2.1 rfl))
            · have d4 : decide (V.int j = V.int 0) = false := decide_eq_false fun z => b4 (V.int.inj z)
              rw [d4]
              refine iteF ?_
              refine ⟨_, rfl, _, rfl, _, _, rfl, rfl, _, rfl, ite2 (fun b5 => ?_) (fun b5 => ?_)⟩
              · have b5 : -9 ≤ j := of_decide_eq_true b5
                refine ⟨_, _, rfl, rfl, _, rfl, ?_⟩
                by_cases b6 : j ≤ 9
                · rw [decide_eq_true b6]
                  refine iteF ⟨⟨_, _, _, rfl⟩, s1, fun e m => ?_⟩
                  rw [take1] at m
                  rcases List.mem_append.mp m with m | m
                  · exact hok e m
                  · rw [List.mem_singleton.mp m]
                    exact ⟨b1, b2, b3, b4, b5, b6⟩
                · rw [decide_eq_false b6]
                  exact iteT (bade fun z => b6 z.2.2.2.2.2)
              · have b5 : ¬ -9 ≤ j := fun z => b5 (decide_eq_true z)
                exact ⟨_, rfl, iteT (bade fun z => b5 z.2.2.2.2.1)⟩
          · rw [decide_eq_false b3]
            exact iteT (bade fun z => b3 z.2.2.1)
        · have b2 : ¬ u < v := fun z => b2 (decide_eq_true z)
          exact ⟨_, rfl, iteT (bade fun z => b2 z.2.1)⟩
      · have b1 : ¬ 0 ≤ u := fun z => b1 (decide_eq_true z)
        exact ⟨_, rfl, iteT (bade fun z => b1 z.1)⟩
    · obtain ⟨⟨x1, x2', x3, rfl⟩, s1, hok⟩ := hP
      rw [hl, List.take_length] at hok
      -- the pairs ascend
      refine ⟨_, rfl, _, rfl, 1, rfl, a, xs, rfl, s1.tup ha, fun hw => ?_, fun hw p hp => ?_⟩
      · have z0 : xs.length = 0 := by
          have h1 := hw.1
          rw [show (some (1 : Int)) = some ((1 : Nat) : Int) from rfl, HT.sIx_nat] at h1
          omega
        obtain rfl := List.length_eq_zero_iff.mp z0
        refine ⟨a, a, [], [], rfl, .inr ⟨s1.tup ha, s1.tup ha, for_zipM (Nat.le_refl _) (fun i σ H3 => Ext H1 H3) (Ext.refl _) (fun i σ H3 h => ⟨(s1.trans h).tup ha, (s1.trans h).tup ha⟩) (fun i x y T' σ H3 hx => by simp at hx) (fun σ H3 h => ?_)⟩⟩
        refine q1 ⟨el24, hok, fun i x y hx => ?_⟩ H3 (s1.trans h)
        have : es.length = 0 := by rw [← hl]; exact z0
        obtain rfl := List.length_eq_zero_iff.mp this
        simp at hx
      · have ec : cutV xs (some 1) none = xs.drop 1 := by
          unfold cutV
          rw [show (some (1 : Int)) = some ((1 : Nat) : Int) from rfl, HT.sIx_nat, HT.sIx_none]
          by_cases z : xs.length = 0
          · obtain rfl := List.length_eq_zero_iff.mp z
            rfl
          · have z1 : min 1 xs.length = 1 := by omega
            rw [z1]
            refine List.take_of_length_le ?_
            rw [List.length_drop]
            exact Nat.le_refl _
        rw [ec]
        have x2 : Ext H1 (upd H1 p (.tup (xs.drop 1))) := ext_upd hp
        have hb : SqT K (upd H1 p (.tup (xs.drop 1))) p (xs.drop 1) := SqT.of upd_same
        generalize upd H1 p (.tup (xs.drop 1)) = H2 at *
        have s2 := s1.trans x2
        refine ⟨a, p, xs, xs.drop 1, rfl, .inr ⟨s2.tup ha, hb, for_zipM (by rw [List.length_drop]; omega) (fun i σ H3 => (∃ w1 w2, σ = [some (.ref a), some (.int n), x1, x2', x3, w1, w2]) ∧ Ext H2 H3 ∧ ∀ k x y, k < i → es[k]? = some x → es[k + 1]? = some y → ltEg x y)
          ⟨⟨_, _, rfl⟩, Ext.refl _, fun k x y hk => absurd hk (by omega)⟩ (fun i σ H3 h => ⟨(s2.trans h.2.1).tup ha, h.2.1.tup hb⟩) (fun i x y T' σ H3 hx hy hP hT => ?_) (fun σ H3 hP => ?_)⟩⟩
        · obtain ⟨⟨w1, w2, rfl⟩, s3, hlt⟩ := hP
          rw [List.getElem?_drop] at hy
          obtain ⟨⟨u, v, j⟩, hex, a1, rfl, g1⟩ := paired_at hes hx
          obtain ⟨⟨u', v', j'⟩, hey, a2, rfl, g2⟩ := paired_at hes hy
          have hey : es[i + 1]? = some (u', v', j') := by rw [Nat.add_comm]; exact hey
          have s4 : Ext H (upd H3 T' (.tup [.ref a1, .ref a2])) := (s2.trans s3).new hT
          have s5 : Ext H2 (upd H3 T' (.tup [.ref a1, .ref a2])) := s3.new hT
          refine ⟨T', _, rfl, SqT.of upd_same, rfl, _, _, rfl, _, _, rfl, rfl, ?_⟩
          generalize upd H3 T' (.tup [.ref a1, .ref a2]) = H4 at *
          refine ⟨_, rfl, 2, rfl, a1, _, rfl, s4.tup g1, fun w => absurd w cut2, fun _ p1 hp1 => ?_⟩
          have s6 := s4.new (o := .tup (cutV [V.int u, .int v, .int j] none (some 2))) hp1
          refine ⟨_, rfl, 2, rfl, a2, _, rfl, s6.tup g2, fun w => absurd w cut2, fun _ p2 hp2 => ?_⟩
          have s7 := s6.new (o := .tup (cutV [V.int u', .int v', .int j'] none (some 2))) hp2
          refine ⟨p1, p2, (u, v), (u', v'), rfl, rfl, SqT.of ((ext_upd hp2).at upd_same), SqT.of upd_same, _, rfl, iteB (fun z => ?_) (fun z => ?_)⟩
          · have z : geP (u, v) (u', v') = true := z
            refine bad (fun g => ?_) _ s7
            have h1 := g.2.2 i _ _ hex hey
            have h2 : SrtO.lexB (u, v) (u', v') = true := SrtO.lexB_iff.mpr h1
            unfold geP at z
            rw [h2] at z
            cases z
          · have z : geP (u, v) (u', v') = false := z
            refine ⟨⟨_, _, rfl⟩, (s5.new hp1).new hp2, fun k x y hk hkx hky => ?_⟩
            by_cases ek : k = i
            · subst ek
              rw [hex] at hkx
              rw [hey] at hky
              cases hkx
              cases hky
              refine (SrtO.lexB_iff (p := (u, v)) (q := (u', v'))).mp ?_
              unfold geP at z
              simpa using z
            · exact hlt k x y (by omega) hkx hky
        · obtain ⟨⟨w1, w2, rfl⟩, s3, hlt⟩ := hP
          refine q1 ⟨el24, hok, fun i x y hx hy => hlt i x y ?_ hx hy⟩ H3 (s2.trans s3)
          have := (List.getElem?_eq_some_iff.mp hy).1
          rw [List.length_drop]
          omega
/-- tuple(x) of a list, a tuple -/
def rTupOf (K : PySem.W.Frag) : List V → Hp → VK → Prop := fun xs H Q => ∃ p ys, xs = [.ref p] ∧ ((SqL K H p ys ∧ ∀ l, H l = none → Q (.ref l) (upd H l (.tup ys))) ∨ (SqT K H p ys ∧ Q (.ref p) H))
/-- a list or a tuple at a -/
abbrev Sq (K : PySem.W.Frag) (H : Hp) (a : Addr) (xs : List V) : Prop := SqL K H a xs ∨ SqT K H a xs
theorem _root_.EXT.Ext.sq {H H' : Hp} (s : Ext H H') {a : Addr} {xs : List V} (h : Sq K H a xs) : Sq K H' a xs := h.imp s.seq s.tup
theorem _root_.EXT.Ext.edges {H H' : Hp} (s : Ext H H') {xs : List V} {es : List Eg} (h : Paired (EdgeAt K H) xs es) : Paired (EdgeAt K H') xs es := paired_imp (fun _ _ ⟨a, e, h⟩ => ⟨a, e, s.tup h⟩) h
theorem sqt_ins {H : Hp} {p C dx a : Addr} {fs : List (Str × V)} {xs : List V} {o : HO} (hp : H p = some (.ins C dx fs)) (h : SqT K H a xs) : SqT K (upd H p o) a xs := by
  rcases h with (h | ⟨o', h⟩) | h
  · exact .inl (.inl (by rw [upd_ne (fun z => by rw [z, hp] at h; cases h)]; exact h))
  · exact .inl (.inr ⟨o', by rw [upd_ne (fun z => by rw [z, hp] at h; cases h)]; exact h⟩)
  · exact .inr h
/-- a new one is made at p (not there in H0) -/
def spInit (T : Top K mg) : Sp := fun vs H Q E => ∃ (p dx fa ea : Addr) (fs : List Int) (xs : List V) (es : List Eg) (H0 : Hp), vs = [.ref p, .ref fa, .ref ea] ∧ H p = some (.ins T.C_Spins dx []) ∧ H0 p = none ∧ Ext H0 H ∧
  Sq K H0 fa (fs.map V.int) ∧ Sq K H0 ea xs ∧ Paired (EdgeAt K H0) xs es ∧ es.length < 1000000 ∧ fs.length < 1000000 ∧ Tg T H0 ∧
  (goodF fs → goodE fs.length es → ∀ H' fb eb ys, Ext H0 H' → H' p = some (.ins T.C_Spins dx [("fields", .ref fb), ("edges", .ref eb)]) → SqT K H' fb (fs.map V.int) → SqT K H' eb ys → Paired (EdgeAt K H') ys es → Q .non H') ∧
  (¬ (goodF fs ∧ goodE fs.length es) → ∀ H', Ext H0 H' → E (.ref T.f_InvalidSpins) none H')
theorem ok_Spins_init (T : Top K mg) (B : Tb T base) : FnOk P w K mg base (L2.CX P w) 4 T.f_Spins_init T.d_Spins_init ["self", "fields", "edges"] (spInit T) := by
  refine T.F_Spins_init.okX sc_Spins_init (fun vs H Q E h => ?_) (fun A outer s H vs Q E hr h => ?_)
  · obtain ⟨p, dx, fa, ea, fs, xs, es, H0, rfl, _⟩ := h
    rfl
  · obtain ⟨p, dx, fa, ea, fs, xs, es, H0, rfl, hp, h0, s0, hf, he, hes, el, fl, G, q1, q2⟩ := h
    refine ⟨_, (C8.pss_cut (ps_fld (pv 0) (pe_callTy call_tuple_of (by rfl) T.m_tuple (by decide +kernel) (pa_cons (pv 1) pa_nil)) rfl)
      (C8.pss_cut (ps_fld (pv 0) (GXP.pe_tupleGx (own := [("edge", 3)]) (g := gName 3) (tt := tYes) (k := 2) (c := T.c_Spins_init) (P := T.P_Spins_init) (by rfl) T.m_tuple ⟨hr.mono (by decide), rfl, B.t_Spins_init, rfl, rfl, blkOk_by (own := [("edge", 3)]) (N := n_Spins_init) (sc := defScope s_Spins_init) (by decide +kernel), sc_Spins_init.nd, by decide +kernel, rfl, (pi_seq (pv 2)), fun A s H C cl code bi fp hrA => (pg_name (i := 3) sc_Spins_init.nd rfl (by first | exact .inl rfl | exact .inr rfl)), fun A s H C cl code bi fp hrA => pts_nil, fun A s H C cl code bi fp hrA => (pe_callTy (T := "tuple") (r := rTupOf K) call_tuple_of (by rfl) T.m_tuple (by decide +kernel) (pa_cons (pv 3) pa_nil)), fun _ => rfl⟩) rfl)
      (pss_cons (ps_expr (pe_call (ok_check_fields T B) (hr.mono (by decide)) (by rfl) T.g_check_fields T.F_check_fields.kp T.b_check_fields .nil (passes_call (takes_of rfl rfl rfl rfl) (fun _ _ _ _ h => h)) (pa_cons (pe_fld (pv 0) rfl) pa_nil)))
      (pss_one (ps_expr (pe_call (ok_check_edges T) (hr.mono (by decide)) (by rfl) T.g_check_edges T.F_check_edges.kp T.b_check_edges .nil (passes_call (takes_of rfl rfl rfl rfl) (fun _ _ _ _ h => h)) (pa_cons (pe_fld (pv 0) rfl) (pa_cons (pe_callB call_len_seq (by rfl) T.m_len (by decide +kernel) (pa_cons (pe_fld (pv 0) rfl) pa_nil)) pa_nil)))))))), ?_⟩
    have hbad : ∀ H', Ext H0 H' → ¬ (goodF fs ∧ goodE fs.length es) → E (.ref T.f_InvalidSpins) none H' := fun H' s z => q2 z H' s
    refine ⟨fun σ H1 => σ = [some (.ref p), some (.ref fa), some (.ref ea), none] ∧ ∃ fb, Ext H0 H1 ∧ H1 p = some (.ins T.C_Spins dx [("fields", .ref fb)]) ∧ SqT K H1 fb (fs.map V.int), ?_, ?_⟩
    · rcases hf with hf | hf
      · refine ⟨_, rfl, fa, _, rfl, .inl ⟨s0.seq hf, fun l hl => ?_⟩⟩
        have np : p ≠ l := ne_of_none hp hl
        refine ⟨_, rfl, p, T.C_Spins, dx, [], rfl, by rw [upd_ne np]; exact hp, T.cl_Spins, T.na_Spins_fields, by decide, rfl, l, (s0.new hl).own h0, by rw [upd_same]; rfl, ?_⟩
        exact SqT.of (by rw [upd_ne np.symm]; exact upd_same)
      · refine ⟨_, rfl, fa, _, rfl, .inr ⟨s0.tup hf, ?_⟩⟩
        exact ⟨_, rfl, p, T.C_Spins, dx, [], rfl, hp, T.cl_Spins, T.na_Spins_fields, by decide, rfl, fa, s0.own h0, by rw [upd_same]; rfl, (s0.own h0).tup hf⟩
    rintro σ H1 ⟨rfl, fb, s1, hp1, hfb⟩
    have xl := hes.length
    refine ⟨fun σ H1 => σ = [some (.ref p), some (.ref fa), some (.ref ea), none] ∧ ∃ fb eb, Ext H0 H1 ∧ H1 p = some (.ins T.C_Spins dx [("fields", .ref fb), ("edges", .ref eb)]) ∧ SqT K H1 fb (fs.map V.int) ∧ SqT K H1 eb xs, ?_, ?_⟩
    · have tb := (G.ext s1).t_Spins_init
      rcases he with he | he
      · refine ⟨_, rfl, ea, rfl, .inl ⟨⟨_, s1.seq he⟩, tb, fun H2 t2 => ?_⟩⟩
        have s2 := s1.tabbed tb t2
        have hp2 := (ext_tabbed tb t2).keep p _ hp1 (fun _ z => by cases z)
        have hfb2 := (ext_tabbed tb t2).tup hfb
        refine gx_list (xs := xs) (fun i zs H3 => H3 = H2 ∧ zs = xs.take i) ⟨rfl, rfl⟩ (fun i zs H3 _ h => by rw [h.1]; exact s2.seq he) (fun i x zs H3 hi hP => ?_) (fun zs H3 hP => ?_)
        · obtain ⟨rfl, rfl⟩ := hP
          obtain ⟨e, hei, a1, rfl, g1⟩ := paired_at hes hi
          refine ⟨rfl, _, rfl, a1, _, rfl, .inr ⟨s2.tup g1, ?_, rfl, ?_⟩⟩
          · rw [List.length_take]
            exact sl_lt (by omega)
          · rw [List.take_add_one, hi]
            rfl
        · obtain ⟨rfl, rfl⟩ := hP
          intro l hl
          have np : p ≠ l := ne_of_none hp2 hl
          refine ⟨_, rfl, p, T.C_Spins, dx, _, rfl, by rw [upd_ne np]; exact hp2, T.cl_Spins, T.na_Spins_edges, (by show 1 < 1000; decide), rfl, fb, l, (s2.new hl).own h0, by rw [upd_same]; rfl, ?_, ?_⟩
          · exact sqt_ins (by rw [upd_ne np]; exact hp2) ((ext_upd hl).tup hfb2)
          · rw [List.take_length]
            exact SqT.of (by rw [upd_ne np.symm]; exact upd_same)
      · refine ⟨_, rfl, ea, rfl, .inr ⟨⟨_, s1.tup he⟩, tb, fun H2 t2 => ?_⟩⟩
        have s2 := s1.tabbed tb t2
        have hp2 := (ext_tabbed tb t2).keep p _ hp1 (fun _ z => by cases z)
        have hfb2 := (ext_tabbed tb t2).tup hfb
        refine gx_tup (xs := xs) (fun i zs H3 => H3 = H2 ∧ zs = xs.take i) ⟨rfl, rfl⟩ (fun i zs H3 _ h => by rw [h.1]; exact s2.tup he) (fun i x zs H3 hi hP => ?_) (fun zs H3 hP => ?_)
        · obtain ⟨rfl, rfl⟩ := hP
          obtain ⟨e, hei, a1, rfl, g1⟩ := paired_at hes hi
          refine ⟨rfl, _, rfl, a1, _, rfl, .inr ⟨s2.tup g1, ?_, rfl, ?_⟩⟩
          · rw [List.length_take]
            exact sl_lt (by omega)
          · rw [List.take_add_one, hi]
            rfl
        · obtain ⟨rfl, rfl⟩ := hP
          intro l hl
          have np : p ≠ l := ne_of_none hp2 hl
          refine ⟨_, rfl, p, T.C_Spins, dx, _, rfl, by rw [upd_ne np]; exact hp2, T.cl_Spins, T.na_Spins_edges, (by show 1 < 1000; decide), rfl, fb, l, (s2.new hl).own h0, by rw [upd_same]; rfl, ?_, ?_⟩
          · exact sqt_ins (by rw [upd_ne np]; exact hp2) ((ext_upd hl).tup hfb2)
          · rw [List.take_length]
            exact SqT.of (by rw [upd_ne np.symm]; exact upd_same)
    rintro σ H2 ⟨rfl, fb, eb, s2, hp2, hfb2, heb2⟩
    refine ⟨_, rfl, p, T.C_Spins, dx, _, .ref fb, rfl, hp2, T.cl_Spins, T.na_Spins_fields, rfl, fb, fs, rfl, hfb2, G.ext s2, fun gf H3 s3 => ?_, fun nf H3 s3 => hbad H3 (s2.trans s3) fun z => nf z.1⟩
    have hp3 := s3.keep p _ hp2 (fun _ z => by cases z)
    have s03 := s2.trans s3
    refine ⟨_, rfl, p, T.C_Spins, dx, _, .ref eb, rfl, hp3, T.cl_Spins, T.na_Spins_edges, rfl, _, rfl, p, T.C_Spins, dx, _, .ref fb, rfl, hp3, T.cl_Spins, T.na_Spins_fields, rfl, fb, _, rfl, .inr (s3.tup hfb2), ?_⟩
    refine ⟨eb, xs, es, fs.length, by rw [List.length_map]; rfl, s3.tup heb2, s03.edges hes, el, fun ge H4 s4 => ?_, fun ne H4 s4 => hbad H4 (s03.trans s4) fun z => ne z.2⟩
    exact q1 gf ge H4 fb eb xs (s03.trans s4) (s4.keep p _ hp3 (fun _ z => by cases z)) (s4.tup (s3.tup hfb2)) (s4.tup (s3.tup heb2)) ((s03.trans s4).edges hes)
theorem log_lt {j : Int} {b : Nat} (hb : j.natAbs < 2 ^ b) (h0 : 0 < b) (h9 : b ≤ 9000) : j.natAbs.log2 < 9000 := Nat.lt_of_lt_of_le (PySem.Flt.log2_lt_of h0 hb) h9
theorem _root_.L2.Same.new {H H1 : Hp} {p : Addr} {o : HO} (s : Same H H1) (h : H1 p = none) : Same H (upd H1 p o) := s.trans (same_upd h)
open K04
/-- the pair p stands as a tuple at a -/
def Fr (K : PySem.W.Frag) (H : Hp) (a : Addr) (p : Int × Int) : Prop := SqT K H a [.int p.1, .int p.2]
theorem _root_.L2.Same.fr {H H' : Hp} {a : Addr} {p : Int × Int} (e : Same H H') (h : Fr K H a p) : Fr K H' a p := Same.tup e h
/-- hands back a new tuple of p -/
def NewF (H : Hp) (Q : VK) (p : Int × Int) : Prop := ∀ a H', Same H H' → H a = none → H' a = some (.tup [.int p.1, .int p.2]) → Q (.ref a) H'
def small (z : Int) : Prop := z.natAbs < 2 ^ 4000
theorem small_log {z : Int} (h : small z) : z.natAbs.log2 < 9000 := log_lt h (by decide) (by decide)
def spFrac : Sp := fun vs H Q _ => ∃ n d : Int, vs = [.int n, .int d] ∧ d ≠ 0 ∧ small d ∧ NewF H Q (F n d)
theorem gs_small {n d : Int} (h : d ≠ 0) (hs : small d) : CDivZ 0 (gs n d) := ⟨gs_ne h, small_log (Nat.lt_of_le_of_lt (gs_le n h) hs)⟩
theorem ok_fraction (T : Top K mg) : FnOk P w K mg base CX0 1 T.f_fraction T.d_fraction ["numerator", "denominator"] spFrac := by
  refine T.F_fraction.ok sc_fraction (fun vs H Q E h => ?_) (fun cdv A outer s H vs Q E hr h => ?_)
  · obtain ⟨n, d, rfl, _⟩ := h
    rfl
  · obtain ⟨n, d, rfl, hd, hs, q⟩ := h
    refine ⟨_, (pss_cons (ps_set (i := 2) sc_fraction.nd rfl (by first | exact .inl rfl | exact .inr rfl) (pe_callBfun cr_gcd (by rfl) T.g_gcd (pa_cons (pv 0) (pa_cons (pv 1) pa_nil))))
      (pss_cons (ps_if (pt_cmpR op_lt (pv 1) pe_int (nomark _)) (pss_one (ps_set (i := 2) sc_fraction.nd rfl (by first | exact .inl rfl | exact .inr rfl) (pe_un un_neg (pv 2)))) pss_nil)
      (pss_one (ps_ret (pe_tup (pa_cons (pe_op op_fdivZ (pv 0) (pv 2)) (pa_cons (pe_op op_fdivZ (pv 1) (pv 2)) pa_nil))))))), ?_⟩
    refine ⟨_, rfl, _, rfl, n, d, rfl, ?_⟩
    refine ⟨_, rfl, _, _, rfl, rfl, _, rfl, ?_⟩
    have g0 := gs_small (n := n) hd hs
    refine ite2 (fun e => ?_) (fun e => ?_)
    · have e := of_decide_eq_true e
      have eg : gs n d = -((Nat.gcd n.natAbs d.natAbs : Nat) : Int) := by
        unfold gs
        rw [if_pos e]
      have q : NewF H Q (n.fdiv (gs n d), d.fdiv (gs n d)) := q
      rw [eg] at q g0
      refine ⟨_, rfl, _, rfl, ?_⟩
      refine ⟨_, rfl, _, rfl, _, _, rfl, rfl, g0, _, rfl, _, rfl, _, _, rfl, rfl, g0, sl2, fun p hp => ?_⟩
      exact q p _ (same_upd hp) hp upd_same
    · have e : ¬ d < 0 := fun z => e (decide_eq_true z)
      have eg : gs n d = ((Nat.gcd n.natAbs d.natAbs : Nat) : Int) := by
        unfold gs
        rw [if_neg e]
      have q : NewF H Q (n.fdiv (gs n d), d.fdiv (gs n d)) := q
      rw [eg] at q g0
      refine ⟨_, rfl, _, rfl, _, _, rfl, rfl, g0, _, rfl, _, rfl, _, _, rfl, rfl, g0, sl2, fun p hp => ?_⟩
      exact q p _ (same_upd hp) hp upd_same
/-- two fractions come in, a new one goes out -/
def spOp2 (K : PySem.W.Frag) (ok : (Int × Int) → (Int × Int) → Prop) (f : (Int × Int) → (Int × Int) → (Int × Int)) : Sp := fun vs H Q _ => ∃ (a b : Addr) (p q : Int × Int), vs = [.ref a, .ref b] ∧ Fr K H a p ∧ Fr K H b q ∧ ok p q ∧ NewF H Q (f p q)
def mid (z : Int) : Prop := z.natAbs < 2 ^ 1900
theorem mid_mul {x y : Int} (hx : mid x) (hy : mid y) : CMulW x y := wide_mul hx hy (by decide) (by decide) (by decide)
theorem mid_small {x y : Int} (hx : mid x) (hy : mid y) : small (x * y) := Nat.lt_of_lt_of_le (wide_lt hx hy) (Nat.pow_le_pow_right (by decide) (by decide))
def okA (p q : Int × Int) : Prop := mid p.1 ∧ mid p.2 ∧ mid q.1 ∧ mid q.2 ∧ p.2 ≠ 0 ∧ q.2 ≠ 0
def okD (p q : Int × Int) : Prop := mid p.1 ∧ mid p.2 ∧ mid q.1 ∧ mid q.2 ∧ p.2 ≠ 0 ∧ q.1 ≠ 0
theorem ok_add (T : Top K mg) : FnOk P w K mg base CX0 2 T.f_add T.d_add ["a", "b"] (spOp2 K okA addF) := by
  refine T.F_add.ok sc_add (fun vs H Q E h => ?_) (fun cdv A outer s H vs Q E hr h => ?_)
  · obtain ⟨a, b, p, q, rfl, _⟩ := h
    rfl
  · obtain ⟨a, b, p, q, rfl, hp, hq, ⟨m1, m2, m3, m4, n1, n2⟩, k⟩ := h
    refine ⟨_, (pss_one (ps_ret (pe_call (ok_fraction T) (hr.mono (by decide)) (by rfl) T.g_fraction T.F_fraction.kp T.b_fraction .nil pass0 (pa_cons (pe_op op_add (pe_op op_mulW (pe_ix ix_tup (pv 0) pe_int (fun _ _ => rfl)) (pe_ix ix_tup (pv 1) pe_int (fun _ _ => rfl))) (pe_op op_mulW (pe_ix ix_tup (pv 1) pe_int (fun _ _ => rfl)) (pe_ix ix_tup (pv 0) pe_int (fun _ _ => rfl)))) (pa_cons (pe_op op_mulW (pe_ix ix_tup (pv 0) pe_int (fun _ _ => rfl)) (pe_ix ix_tup (pv 1) pe_int (fun _ _ => rfl))) pa_nil))))), ?_⟩
    refine ⟨_, rfl, a, _, _, _, rfl, rfl, hp, atI_nat (j := 0) rfl, _, rfl, b, _, _, _, rfl, rfl, hq, atI_nat (j := 1) rfl, _, _, rfl, rfl, mid_mul m1 m4, ?_⟩
    refine ⟨_, rfl, b, _, _, _, rfl, rfl, hq, atI_nat (j := 0) rfl, _, rfl, a, _, _, _, rfl, rfl, hp, atI_nat (j := 1) rfl, _, _, rfl, rfl, mid_mul m3 m2, ?_⟩
    refine ⟨_, _, rfl, rfl, ?_⟩
    refine ⟨_, rfl, a, _, _, _, rfl, rfl, hp, atI_nat (j := 1) rfl, _, rfl, b, _, _, _, rfl, rfl, hq, atI_nat (j := 1) rfl, _, _, rfl, rfl, mid_mul m2 m4, ?_⟩
    exact ⟨_, _, rfl, Int.mul_ne_zero n1 n2, mid_small m2 m4, k⟩
theorem ok_multiply (T : Top K mg) : FnOk P w K mg base CX0 2 T.f_multiply T.d_multiply ["a", "b"] (spOp2 K okA mulF) := by
  refine T.F_multiply.ok sc_multiply (fun vs H Q E h => ?_) (fun cdv A outer s H vs Q E hr h => ?_)
  · obtain ⟨a, b, p, q, rfl, _⟩ := h
    rfl
  · obtain ⟨a, b, p, q, rfl, hp, hq, ⟨m1, m2, m3, m4, n1, n2⟩, k⟩ := h
    refine ⟨_, (pss_one (ps_ret (pe_call (ok_fraction T) (hr.mono (by decide)) (by rfl) T.g_fraction T.F_fraction.kp T.b_fraction .nil pass0 (pa_cons (pe_op op_mulW (pe_ix ix_tup (pv 0) pe_int (fun _ _ => rfl)) (pe_ix ix_tup (pv 1) pe_int (fun _ _ => rfl))) (pa_cons (pe_op op_mulW (pe_ix ix_tup (pv 0) pe_int (fun _ _ => rfl)) (pe_ix ix_tup (pv 1) pe_int (fun _ _ => rfl))) pa_nil))))), ?_⟩
    refine ⟨_, rfl, a, _, _, _, rfl, rfl, hp, atI_nat (j := 0) rfl, _, rfl, b, _, _, _, rfl, rfl, hq, atI_nat (j := 0) rfl, _, _, rfl, rfl, mid_mul m1 m3, ?_⟩
    refine ⟨_, rfl, a, _, _, _, rfl, rfl, hp, atI_nat (j := 1) rfl, _, rfl, b, _, _, _, rfl, rfl, hq, atI_nat (j := 1) rfl, _, _, rfl, rfl, mid_mul m2 m4, ?_⟩
    exact ⟨_, _, rfl, Int.mul_ne_zero n1 n2, mid_small m2 m4, k⟩
theorem ok_divide (T : Top K mg) : FnOk P w K mg base CX0 2 T.f_divide T.d_divide ["a", "b"] (spOp2 K okD divF) := by
  refine T.F_divide.ok sc_divide (fun vs H Q E h => ?_) (fun cdv A outer s H vs Q E hr h => ?_)
  · obtain ⟨a, b, p, q, rfl, _⟩ := h
    rfl
  · obtain ⟨a, b, p, q, rfl, hp, hq, ⟨m1, m2, m3, m4, n1, n2⟩, k⟩ := h
    refine ⟨_, (pss_one (ps_ret (pe_call (ok_fraction T) (hr.mono (by decide)) (by rfl) T.g_fraction T.F_fraction.kp T.b_fraction .nil pass0 (pa_cons (pe_op op_mulW (pe_ix ix_tup (pv 0) pe_int (fun _ _ => rfl)) (pe_ix ix_tup (pv 1) pe_int (fun _ _ => rfl))) (pa_cons (pe_op op_mulW (pe_ix ix_tup (pv 0) pe_int (fun _ _ => rfl)) (pe_ix ix_tup (pv 1) pe_int (fun _ _ => rfl))) pa_nil))))), ?_⟩
    refine ⟨_, rfl, a, _, _, _, rfl, rfl, hp, atI_nat (j := 0) rfl, _, rfl, b, _, _, _, rfl, rfl, hq, atI_nat (j := 1) rfl, _, _, rfl, rfl, mid_mul m1 m4, ?_⟩
    refine ⟨_, rfl, a, _, _, _, rfl, rfl, hp, atI_nat (j := 1) rfl, _, rfl, b, _, _, _, rfl, rfl, hq, atI_nat (j := 0) rfl, _, _, rfl, rfl, mid_mul m2 m3, ?_⟩
    exact ⟨_, _, rfl, Int.mul_ne_zero n1 n2, mid_small m2 m3, k⟩
/-! ### the law's own reckoning -/
def spGcd : Sp := fun vs H Q _ => ∃ a b : Int, vs = [.int a, .int b] ∧ Q (.int ((Nat.gcd a.natAbs b.natAbs : Nat) : Int)) H
theorem ok_law_gcd (T : Top K mg) : FnOk P w K mg base CX0 1 T.f_law_gcd T.d_law_gcd ["a", "b"] spGcd := by
  refine T.F_law_gcd.ok sc_law_gcd (fun vs H Q E h => ?_) (fun cdv A outer s H vs Q E hr h => ?_)
  · obtain ⟨a, b, rfl, _⟩ := h
    rfl
  · obtain ⟨a, b, rfl, q⟩ := h
    refine ⟨_, (pss_cons (ps_while PassesOwn.never (pt_truth (pv 1) (by intro _; rfl)) (pss_one (ps_par (i := 0) (j := 1) rfl sc_law_gcd.nd rfl rfl (by decide) rfl rfl (pa_cons (pv 1) (pa_cons (pe_op op_modN (pv 0) (pv 1)) pa_nil)) (by rfl))))
      (pss_one (ps_ret (pe_callB call_abs (by rfl) T.m_abs (by decide +kernel) (pa_cons (pv 0) pa_nil))))), ?_⟩
    refine while_by (fun σ H1 => H1 = H ∧ ∃ x y : Int, σ = [some (.int x), some (.int y)] ∧ Nat.gcd x.natAbs y.natAbs = Nat.gcd a.natAbs b.natAbs) (fun σ _ => match σ with | [_, some (.int y)] => y.natAbs | _ => 0)
      ⟨rfl, a, b, rfl, rfl⟩ ?_ ?_
    · rintro σ H1 ⟨rfl, x, y, rfl, e⟩
      refine ⟨_, rfl, _, rfl, iteB (fun ey => ?_) (fun ey => ?_)⟩
      · have ey : y ≠ 0 := by simpa using ey
        refine ⟨_, rfl, _, rfl, _, rfl, _, _, rfl, rfl, ey, _, _, rfl, ⟨rfl, y, x.fmod y, rfl, ?_⟩, ?_⟩
        · rw [gcd_step]
          exact e
        · exact fmod_small ey
      · have ey : y = 0 := by simpa using ey
        subst ey
        refine ⟨_, rfl, x, rfl, ?_⟩
        have e2 : (if x < 0 then -x else x) = ((Nat.gcd a.natAbs b.natAbs : Nat) : Int) := by
          rw [← e, Int.natAbs_zero, Nat.gcd_zero_right]
          split <;> omega
        rw [e2]
        exact q
    · rintro σ H1 Q1 Q2 hq ⟨v, hv, k, hk, h⟩
      exact ⟨v, hv, k, hk, hq _ _ h⟩
theorem ok_law_frac (T : Top K mg) : FnOk P w K mg base CX0 2 T.f_law_frac T.d_law_frac ["a", "b"] spFrac := by
  refine T.F_law_frac.ok sc_law_frac (fun vs H Q E h => ?_) (fun cdv A outer s H vs Q E hr h => ?_)
  · obtain ⟨n, d, rfl, _⟩ := h
    rfl
  · obtain ⟨n, d, rfl, hd, hs, q⟩ := h
    refine ⟨_, (pss_cons (ps_set (i := 2) sc_law_frac.nd rfl (by first | exact .inl rfl | exact .inr rfl) (pe_call (ok_law_gcd T) (hr.mono (by decide)) (by rfl) T.g_law_gcd T.F_law_gcd.kp T.b_law_gcd .nil pass0 (pa_cons (pv 0) (pa_cons (pv 1) pa_nil))))
      (pss_cons (ps_if (pt_cmpR op_lt (pv 1) pe_int (nomark _)) (pss_one (ps_set (i := 2) sc_law_frac.nd rfl (by first | exact .inl rfl | exact .inr rfl) (pe_un un_neg (pv 2)))) pss_nil)
      (pss_one (ps_ret (pe_tup (pa_cons (pe_op op_fdivZ (pv 0) (pv 2)) (pa_cons (pe_op op_fdivZ (pv 1) (pv 2)) pa_nil))))))), ?_⟩
    refine ⟨_, rfl, _, rfl, n, d, rfl, ?_⟩
    refine ⟨_, rfl, _, _, rfl, rfl, _, rfl, ?_⟩
    have g0 := gs_small (n := n) hd hs
    refine ite2 (fun e => ?_) (fun e => ?_)
    · have e := of_decide_eq_true e
      have eg : gs n d = -((Nat.gcd n.natAbs d.natAbs : Nat) : Int) := by
        unfold gs
        rw [if_pos e]
      have q : NewF H Q (n.fdiv (gs n d), d.fdiv (gs n d)) := q
      rw [eg] at q g0
      refine ⟨_, rfl, _, rfl, ?_⟩
      refine ⟨_, rfl, _, rfl, _, _, rfl, rfl, g0, _, rfl, _, rfl, _, _, rfl, rfl, g0, sl2, fun p hp => ?_⟩
      exact q p _ (same_upd hp) hp upd_same
    · have e : ¬ d < 0 := fun z => e (decide_eq_true z)
      have eg : gs n d = ((Nat.gcd n.natAbs d.natAbs : Nat) : Int) := by
        unfold gs
        rw [if_neg e]
      have q : NewF H Q (n.fdiv (gs n d), d.fdiv (gs n d)) := q
      rw [eg] at q g0
      refine ⟨_, rfl, _, rfl, _, _, rfl, rfl, g0, _, rfl, _, rfl, _, _, rfl, rfl, g0, sl2, fun p hp => ?_⟩
      exact q p _ (same_upd hp) hp upd_same
theorem ok_law_mul (T : Top K mg) : FnOk P w K mg base CX0 3 T.f_law_mul T.d_law_mul ["p", "q"] (spOp2 K okA mulF) := by
  refine T.F_law_mul.ok sc_law_mul (fun vs H Q E h => ?_) (fun cdv A outer s H vs Q E hr h => ?_)
  · obtain ⟨a, b, p, q, rfl, _⟩ := h
    rfl
  · obtain ⟨a, b, p, q, rfl, hp, hq, ⟨m1, m2, m3, m4, n1, n2⟩, k⟩ := h
    refine ⟨_, (pss_one (ps_ret (pe_call (ok_law_frac T) (hr.mono (by decide)) (by rfl) T.g_law_frac T.F_law_frac.kp T.b_law_frac .nil pass0 (pa_cons (pe_op op_mulW (pe_ix ix_tup (pv 0) pe_int (fun _ _ => rfl)) (pe_ix ix_tup (pv 1) pe_int (fun _ _ => rfl))) (pa_cons (pe_op op_mulW (pe_ix ix_tup (pv 0) pe_int (fun _ _ => rfl)) (pe_ix ix_tup (pv 1) pe_int (fun _ _ => rfl))) pa_nil))))), ?_⟩
    refine ⟨_, rfl, a, _, _, _, rfl, rfl, hp, atI_nat (j := 0) rfl, _, rfl, b, _, _, _, rfl, rfl, hq, atI_nat (j := 0) rfl, _, _, rfl, rfl, mid_mul m1 m3, ?_⟩
    refine ⟨_, rfl, a, _, _, _, rfl, rfl, hp, atI_nat (j := 1) rfl, _, rfl, b, _, _, _, rfl, rfl, hq, atI_nat (j := 1) rfl, _, _, rfl, rfl, mid_mul m2 m4, ?_⟩
    exact ⟨_, _, rfl, Int.mul_ne_zero n1 n2, mid_small m2 m4, k⟩
/-! ### the law's cell of the script -/
def cellZ (ns : List Int) (k : Nat) : Int := ns.getD k 0
def spCellZ (K : PySem.W.Frag) : Sp := fun vs H Q _ => ∃ (l : Addr) (ns : List Int) (k : Nat), vs = [.ref l, .int (k : Int)] ∧ SqL K H l (ns.map V.int) ∧ Q (.int (cellZ ns k)) H
theorem ok_law_cell (T : Top K mg) : FnOk P w K mg base CX0 1 T.f_law_cell T.d_law_cell ["script", "k"] (spCellZ K) := by
  refine T.F_law_cell.ok sc_law_cell (fun vs H Q E h => ?_) (fun cdv A outer s H vs Q E hr h => ?_)
  · obtain ⟨l, ns, k, rfl, _⟩ := h
    rfl
  · obtain ⟨l, ns, k, rfl, hS, q⟩ := h
    refine ⟨_, (pss_cons (ps_if (pt_cmpR op_lt (pv 1) (pe_callB call_len_seq (by rfl) T.m_len (by decide +kernel) (pa_cons (pv 0) pa_nil)) (nomark _)) (pss_one (ps_ret (pe_callTy call_int1 (by rfl) T.m_int (by decide +kernel) (pa_cons (pe_ix ix_list (pv 0) (pv 1) (fun _ _ => rfl)) pa_nil)))) pss_nil)
      (pss_one (ps_ret pe_int))), ?_⟩
    refine ⟨_, rfl, _, rfl, l, _, rfl, .inl hS, _, _, rfl, rfl, _, rfl, ?_⟩
    refine ite2 (fun e => ?_) (fun e => ?_)
    · have hk : k < ns.length := by
        have := of_decide_eq_true e
        rw [List.length_map] at this
        omega
      refine ⟨_, rfl, _, rfl, l, _, _, .int ns[k], rfl, rfl, hS, ?_, .inl ⟨_, rfl, ?_⟩⟩
      · refine atI_nat ?_
        rw [List.getElem?_map, List.getElem?_eq_getElem hk]
        rfl
      · have : cellZ ns k = ns[k] := by
          unfold cellZ
          rw [List.getD_eq_getElem?_getD, List.getElem?_eq_getElem hk]
          rfl
        rw [← this]
        exact q
    · have hk : ¬ k < ns.length := fun z => e (by
        refine decide_eq_true ?_
        rw [List.length_map]
        omega)
      have : cellZ ns k = 0 := by
        unfold cellZ
        rw [List.getD_eq_getElem?_getD, List.getElem?_eq_none (by omega)]
        rfl
      show Q (.int 0) H
      rw [← this]
      exact q
/-! ### data that stands in the heap -/
mutual
theorem dp_same {K : PySem.W.Frag} {H H' : Hp} (s : Same H H') : ∀ {v : V} {d : PyData}, Dp K H v d → Dp K H' v d
  | _, _, .non => .non
  | _, _, .bl b => .bl b
  | _, _, .int i => .int i
  | _, _, .str x => .str x
  | _, _, .lst h t => .lst (s.seq h) (dpAll_same s t)
  | _, _, .tup h t => .tup (s.tup h) (dpAll_same s t)
theorem dpAll_same {K : PySem.W.Frag} {H H' : Hp} (s : Same H H') : ∀ {vs : List V} {ds : List PyData}, DpAll K H vs ds → DpAll K H' vs ds
  | _, _, .nil => .nil
  | _, _, .cons h t => .cons (dp_same s h) (dpAll_same s t)
end
theorem dpAll_len {K : PySem.W.Frag} {H : Hp} : ∀ {vs : List V} {ds : List PyData}, DpAll K H vs ds → vs.length = ds.length
  | _, _, .nil => rfl
  | _, _, .cons _ t => congrArg (· + 1) (dpAll_len t)
theorem dpAll_get {K : PySem.W.Frag} {H : Hp} : ∀ {vs : List V} {ds : List PyData} {i : Nat} {v : V}, DpAll K H vs ds → vs[i]? = some v → ∃ d, ds[i]? = some d ∧ d ∈ ds ∧ Dp K H v d
  | _, _, i, v, .nil, h => by simp at h
  | _, d :: ds, 0, v, .cons a t, h => by
    simp only [List.getElem?_cons_zero, Option.some.injEq] at h
    subst h
    exact ⟨d, rfl, List.mem_cons_self, a⟩
  | _, d :: ds, i + 1, v, .cons a t, h => by
    simp only [List.getElem?_cons_succ] at h
    obtain ⟨e, h1, h2, h3⟩ := dpAll_get t h
    exact ⟨e, by simpa using h1, List.mem_cons_of_mem _ h2, h3⟩
theorem dpAll_of {α : Type} {K : PySem.W.Frag} {H : Hp} {f : α → PyData} {R : V → α → Prop} (hR : ∀ v x, R v x → Dp K H v (f x)) : ∀ {vs : List V} {xs : List α}, Paired R vs xs → DpAll K H vs (xs.map f)
  | _, _, .nil => .nil
  | _, _, .cons h t => .cons (hR _ _ h) (dpAll_of hR t)
theorem sqt_ty {K : PySem.W.Frag} {H : Hp} {a : Addr} {xs : List V} (h : SqT K H a xs) : TyX K H (.ref a) (.type "tuple") := by
  rcases h with (h | ⟨o, h⟩) | ⟨o, its, n, h, hc, _⟩
  · exact .base (.tup h)
  · exact .fTuple h
  · exact .kTuple h hc
theorem sql_ty {K : PySem.W.Frag} {H : Hp} {a : Addr} {xs : List V} (h : SqL K H a xs) : TyX K H (.ref a) (.type "list") := by
  rcases h with (h | ⟨o, h⟩) | ⟨o, its, n, h, hc, _⟩
  · exact .base (.lst h)
  · exact .base (.frz h)
  · exact .kList h hc
/-- nested tuples of ints, at most n - 1 deep -/
def tupD : Nat → PyData → Prop
  | 0, _ => False
  | _ + 1, .int _ => True
  | n + 1, .tuple ds => ds.length < 1000000 ∧ ∀ x ∈ ds, tupD n x
  | _ + 1, _ => False
def spTup (K : PySem.W.Frag) (n : Nat) : Sp := fun vs H Q _ => ∃ v d, vs = [v] ∧ Dp K H v d ∧ tupD n d ∧ ∀ H', Same H H' → Q (.bl true) H'
theorem ok_law_tuples (T : Top K mg) : ∀ n, FnOk P w K mg base CX0 (n + 1) T.f_law_tuples T.d_law_tuples ["thing"] (spTup K n)
  | 0 => T.F_law_tuples.ok sc_law_tuples (fun vs H Q E h => by obtain ⟨v, d, _, _, h, _⟩ := h; exact h.elim) (fun cdv A outer s H vs Q E hr h => by obtain ⟨v, d, _, _, h, _⟩ := h; exact h.elim)
  | n + 1 => by
    have ih := ok_law_tuples T n
    refine T.F_law_tuples.ok sc_law_tuples (fun vs H Q E h => ?_) (fun cdv A outer s H vs Q E hr h => ?_)
    · obtain ⟨v, d, rfl, _⟩ := h
      rfl
    · obtain ⟨v, d, rfl, hd, ht, q⟩ := h
      refine ⟨_, (pss_cons (ps_if (pt_val (pe_callB call_isi (by rfl) T.m_isinstance (by decide +kernel) (pa_cons (pv 0) (pa_cons (pe_bltn (v := .ty "tuple") (by rfl) T.m_tuple boot_tuple rfl) pa_nil)))) (pss_one (ps_ret (pe_callB (cr_all rfl) (by rfl) T.m_all (by decide +kernel) (pa_cons (pe_lc (own := [("part", 1)]) (g := gName 1) (tt := tYes) rfl sc_law_tuples.nd (pi_tup (pv 0)) (blkOk_by (own := [("part", 1)]) (N := n_law_tuples) (sc := defScope s_law_tuples) (by decide +kernel)) (fun _ _ _ _ _ => (pg_name (i := 1) sc_law_tuples.nd rfl (by first | exact .inl rfl | exact .inr rfl))) (fun _ _ _ _ _ => pts_nil) (fun _ _ _ _ _ => (pe_call ih hr (by rfl) T.g_law_tuples T.F_law_tuples.kp T.b_law_tuples .nil pass0 (pa_cons (pv 1) pa_nil)))) pa_nil)))) pss_nil)
      (pss_one (ps_ret (pe_and (pe_callB call_isi (by rfl) T.m_isinstance (by decide +kernel) (pa_cons (pv 0) (pa_cons (pe_bltn (v := .ty "int") (by rfl) T.m_int boot_int rfl) pa_nil))) (pe_one (pe_not (pe_callB call_isi (by rfl) T.m_isinstance (by decide +kernel) (pa_cons (pv 0) (pa_cons (pe_bltn (v := .ty "bool") (by rfl) T.m_bool boot_bool rfl) pa_nil))))))))), ?_⟩
      cases d with
      | int i =>
        cases hd
        refine ⟨_, rfl, _, _, _, _, _, rfl, .ty _, .base (.int i), kit_ty (r := false) (by decide +kernel), _, rfl, iteF ?_⟩
        refine ⟨_, rfl, _, _, _, _, _, rfl, .ty _, .base (.int i), kit_ty (r := true) (by decide +kernel), _, rfl, iteT ?_⟩
        exact ⟨_, rfl, _, _, _, _, _, rfl, .ty _, .base (.int i), kit_ty (r := false) (by decide +kernel), _, rfl, q H (Same.refl H)⟩
      | tuple ds =>
        cases hd with
        | @tup a xs _ hx hds =>
        refine ⟨_, rfl, _, _, _, _, _, rfl, .ty _, sqt_ty hx, kit_ty (r := true) (by decide +kernel), _, rfl, iteT ?_⟩
        refine ⟨_, rfl, a, rfl, ⟨_, hx⟩, fun D hD => lc_tup (xs := xs) (fun i H' => Same H H' ∧ H' D = some (.lst ((List.replicate i true).map V.bl)) ∧ i ≤ xs.length) ⟨same_upd hD, upd_same, Nat.zero_le _⟩ (fun i H' _ h => h.1.tup hx) (fun i x H' hi hP => ?_) (fun H' hP => ?_)⟩
        · obtain ⟨s1, hl, hix⟩ := hP
          obtain ⟨d, _, hm, hdx⟩ := dpAll_get hds hi
          have hil : i < xs.length := (List.getElem?_eq_some_iff.mp hi).1
          have hlen := dpAll_len hds
          have hz := ht.1
          refine ⟨rfl, _, rfl, x, d, rfl, dp_same s1 hdx, ht.2 d hm, fun H2 s2 => ⟨_, s2 _ _ hl, ?_, fun b o e => ?_, ?_, hil⟩⟩
          · rw [List.length_map, List.length_replicate]
            exact sl_lt (by omega)
          · rw [upd_ne (ne_of_none e hD)]
            exact s2 _ _ (s1 _ _ e)
          · rw [upd_same, List.replicate_succ', List.map_append]
            rfl
        · obtain ⟨s1, hl, _⟩ := hP
          refine ⟨D, List.replicate xs.length true, rfl, SqL.of hl, ?_⟩
          have e : (List.replicate xs.length true).all id = true := by
            rw [List.all_eq_true]
            intro x hx
            rw [List.eq_of_mem_replicate hx]
            rfl
          rw [e]
          exact q H' s1
      | none => exact ht.elim
      | bool b => exact ht.elim
      | str x => exact ht.elim
      | list x => exact ht.elim
      | dict x => exact ht.elim
theorem pos_lit {z : Int} {n : Nat} (h : z = ((n + 1 : Nat) : Int)) : 0 < z := by omega
def spMix : Sp := fun vs H Q _ => ∃ c k : Int, vs = [.int c, .int k] ∧ ∀ m : Int, 0 ≤ m → Q (.int m) H
theorem ok_law_mix (T : Top K mg) : FnOk P w K mg base CX0 1 T.f_law_mix T.d_law_mix ["cell", "k"] spMix := by
  refine T.F_law_mix.ok sc_law_mix (fun vs H Q E h => ?_) (fun cdv A outer s H vs Q E hr h => ?_)
  · obtain ⟨c, k, rfl, _⟩ := h
    rfl
  · obtain ⟨c, k, rfl, q⟩ := h
    refine ⟨_, (pss_cons (ps_set (i := 2) sc_law_mix.nd rfl (by first | exact .inl rfl | exact .inr rfl) (pe_op op_mod (pe_callTy call_int1 (by rfl) T.m_int (by decide +kernel) (pa_cons (pe_op op_add (pe_op op_add (pe_op op_mul (pv 0) pe_int) (pe_op op_mul (pv 1) pe_int)) pe_int) pa_nil)) pe_int))
      (pss_cons (ps_set (i := 2) sc_law_mix.nd rfl (by first | exact .inl rfl | exact .inr rfl) (pe_op op_mod (pe_callTy call_int1 (by rfl) T.m_int (by decide +kernel) (pa_cons (pe_op op_add (pe_op op_add (pe_op op_mul (pv 2) pe_int) (pe_op op_mul (pv 1) pe_int)) pe_int) pa_nil)) pe_int))
      (pss_one (ps_ret (pe_op op_fdiv (pv 2) pe_int))))), ?_⟩
    refine ⟨_, rfl, _, _, rfl, rfl, .inr ⟨by decide, by decide⟩, _, rfl, _, _, rfl, rfl, .inr ⟨by decide, by decide⟩, _, _, rfl, rfl, _, _, rfl, rfl, .inl ⟨_, rfl, _, _, rfl, rfl, pos_lit rfl, ?_⟩⟩
    refine ⟨_, rfl, _, _, rfl, rfl, .inr ⟨by decide, by decide⟩, _, rfl, _, _, rfl, rfl, .inr ⟨by decide, by decide⟩, _, _, rfl, rfl, _, _, rfl, rfl, .inl ⟨_, rfl, _, _, rfl, rfl, pos_lit rfl, ?_⟩⟩
    refine ⟨_, rfl, _, _, rfl, rfl, ⟨by decide, by decide⟩, q _ ?_⟩
    refine Int.ediv_nonneg (Int.emod_nonneg _ (by decide)) (by decide)
/-- some n numbers from 0 up to below b -/
def spRow (K : PySem.W.Frag) : Sp := fun vs H Q _ => ∃ (c b : Int) (n : Nat), vs = [.int c, .int (n : Int), .int b] ∧ n ≤ 1000 ∧ 0 < b ∧ b < 1000 ∧
  ∀ l H' (rs : List Int), Ext H H' → H l = none → H' l = some (.lst (rs.map V.int)) → rs.length = n → (∀ r ∈ rs, 0 ≤ r ∧ r < b) → Q (.ref l) H'
theorem ok_law_row (T : Top K mg) : FnOk P w K mg base CX0 2 T.f_law_row T.d_law_row ["cell", "count", "bound"] (spRow K) := by
  refine T.F_law_row.ok sc_law_row (fun vs H Q E h => ?_) (fun cdv A outer s H vs Q E hr h => ?_)
  · obtain ⟨c, b, n, rfl, _⟩ := h
    rfl
  · obtain ⟨c, b, n, rfl, hn, hb, hb2, q⟩ := h
    refine ⟨_, (pss_cons (ps_set (i := 3) sc_law_row.nd rfl (by first | exact .inl rfl | exact .inr rfl) (pe_lst pa_nil))
      (pss_cons (ps_set (i := 4) sc_law_row.nd rfl (by first | exact .inl rfl | exact .inr rfl) (pe_callB call_abs (by rfl) T.m_abs (by decide +kernel) (pa_cons (pv 0) pa_nil)))
      (pss_cons (ps_for PassesOwn.never rfl (pi_range1 (by rfl) T.m_range (pa_cons (pv 1) pa_nil)) (pg_name (i := 5) sc_law_row.nd rfl (by first | exact .inl rfl | exact .inr rfl)) (pss_one (ps_if (pt_cmpR op_ge (pe_callB call_abs (by rfl) T.m_abs (by decide +kernel) (pa_cons (pv 0) pa_nil)) pe_int (nomark _)) (pss_cons (ps_expr (pe_bm PySem.F.plainAttrs_list PySem.F.slot_list_append PySem.F.type_list_append mt_append (pv 3) (pa_cons (pe_op op_mod (pe_callTy call_int1 (by rfl) T.m_int (by decide +kernel) (pa_cons (pv 4) pa_nil)) (pv 2)) pa_nil)))
      (pss_one (ps_set (i := 4) sc_law_row.nd rfl (by first | exact .inl rfl | exact .inr rfl) (pe_op op_fdivZ (pv 4) (pv 2))))) (pss_one (ps_expr (pe_bm PySem.F.plainAttrs_list PySem.F.slot_list_append PySem.F.type_list_append mt_append (pv 3) (pa_cons (pe_op op_mod (pe_callTy call_int1 (by rfl) T.m_int (by decide +kernel) (pa_cons (pe_call (ok_law_mix T) (hr.mono (by decide)) (by rfl) T.g_law_mix T.F_law_mix.kp T.b_law_mix .nil pass0 (pa_cons (pv 0) (pa_cons (pv 5) pa_nil))) pa_nil)) (pv 2)) pa_nil)))))))
      (pss_one (ps_ret (pv 3)))))), ?_⟩
    refine ⟨by rw [sizeLine_eq]; simp, fun l hl => ?_⟩
    refine ⟨_, rfl, c, rfl, ?_⟩
    refine ⟨_, rfl, _, rfl, by omega, by omega, for_range (n := n) (fun i σ H1 => (∃ (x : Int) (y : Option V) (rs : List Int), σ = [some (.int c), some (.int (n : Int)), some (.int b), some (.ref l), some (.int x), y] ∧ Ext H H1 ∧ H1 l = some (.lst (rs.map V.int)) ∧ rs.length = i ∧ ∀ r ∈ rs, 0 ≤ r ∧ r < b))
      ⟨_, _, [], rfl, ext_upd hl, upd_same, rfl, fun r m => by simp at m⟩ (fun i σ H1 hi hP => ?_) (fun σ H1 hP => ?_)⟩
    · obtain ⟨x, y, rs, rfl, s1, hl1, hlen, hrs⟩ := hP
      have step : ∀ m : Int, ∃ rs', rs' = rs ++ [m % b] ∧ rs'.length = i + 1 ∧ ∀ r ∈ rs', 0 ≤ r ∧ r < b := fun m => ⟨_, rfl, by rw [List.length_append, hlen]; rfl, fun r hr => by
        rcases List.mem_append.mp hr with hr | hr
        · exact hrs r hr
        · rw [List.mem_singleton.mp hr]
          exact ⟨Int.emod_nonneg _ (by omega), Int.emod_lt_of_pos _ hb⟩⟩
      have cnt : (rs.map V.int).length < sizeLine := sl_lt (by rw [List.length_map]; omega)
      have app : ∀ m : Int, rs.map V.int ++ [V.int (m % b)] = (rs ++ [m % b]).map V.int := fun m => by rw [List.map_append]; rfl
      refine ⟨_, rfl, c, rfl, _, _, rfl, rfl, _, rfl, iteB (fun z => ?_) (fun z => ?_)⟩
      · refine ⟨_, rfl, .inl ⟨rfl, _, SqL.of hl1⟩, _, rfl, .inl ⟨_, rfl, _, rfl, _, _, rfl, rfl, hb, l, _, _, rfl, rfl, hl1, cnt, ?_⟩⟩
        refine ⟨_, rfl, _, rfl, _, _, rfl, rfl, ⟨by omega, ?_⟩, ?_⟩
        · refine Nat.lt_of_lt_of_le (PySem.Flt.log2_lt_of (k := 10) (by decide) ?_) (by decide)
          omega
        · obtain ⟨rs', e1, e2, e3⟩ := step x
          subst e1
          exact ⟨_, _, _, rfl, s1.own hl, by rw [upd_same, app], e2, e3⟩
      · refine ⟨_, rfl, .inl ⟨rfl, _, SqL.of hl1⟩, _, rfl, _, rfl, c, _, rfl, fun m hm => .inl ⟨_, rfl, _, rfl, _, _, rfl, rfl, hb, l, _, _, rfl, rfl, hl1, cnt, ?_⟩⟩
        obtain ⟨rs', e1, e2, e3⟩ := step m
        subst e1
        exact ⟨_, _, _, rfl, s1.own hl, by rw [upd_same, app], e2, e3⟩
    · obtain ⟨x, y, rs, rfl, s1, hl1, hlen, hrs⟩ := hP
      exact ⟨_, rfl, q l H1 rs s1 hl hl1 hlen hrs⟩
/-! ### series in the heap -/
def co (rs : List Rat) : Nat → Rat := fun k => rs.getD k 0
def FrV (K : PySem.W.Frag) (H : Hp) (v : V) (r : Rat) : Prop := ∃ a, v = .ref a ∧ Fr K H a (fq r)
abbrev FrsV (K : PySem.W.Frag) (H : Hp) (vs : List V) (rs : List Rat) : Prop := Paired (FrV K H) vs rs
theorem frs_up {H H' : Hp} (s : Ext H H') {vs : List V} {rs : List Rat} (h : FrsV K H vs rs) : FrsV K H' vs rs := paired_imp (fun _ _ ⟨a, e, g⟩ => ⟨a, e, s.tup g⟩) h
theorem sqt_updL {H : Hp} {a g : Addr} {xs ys : List V} {o : HO} (hg : H g = some (.lst xs)) (h : SqT K H a ys) : SqT K (upd H g o) a ys := by
  rcases h with (h | ⟨o', h⟩) | h
  · exact .inl (.inl (by rw [upd_ne (ne_of h hg (by intro z; cases z))]; exact h))
  · exact .inl (.inr ⟨o', by rw [upd_ne (ne_of h hg (by intro z; cases z))]; exact h⟩)
  · exact .inr h
theorem frs_upd {H : Hp} {D : Addr} {o : HO} {acc ys : List V} {rs : List Rat} (hD : H D = some (.lst acc)) (h : FrsV K H ys rs) : FrsV K (upd H D o) ys rs := paired_imp (fun _ _ ⟨a, e, g⟩ => ⟨a, e, sqt_updL hD g⟩) h
theorem frs_at {H : Hp} {vs : List V} {rs : List Rat} (h : FrsV K H vs rs) {k : Nat} (hk : k < rs.length) : ∃ v, vs[k]? = some v ∧ FrV K H v (co rs k) := by
  have hl := Paired.length h
  have hv : k < vs.length := by omega
  obtain ⟨r, e, g⟩ := paired_at h (List.getElem?_eq_getElem hv)
  refine ⟨_, List.getElem?_eq_getElem hv, ?_⟩
  have : co rs k = r := by
    unfold co
    rw [List.getD_eq_getElem?_getD, e]
    rfl
  rw [this]
  exact g
def LT (K : PySem.W.Frag) (H : Hp) (a : Addr) (xs : List V) : Prop := SqL K H a xs ∨ SqT K H a xs
theorem LT.up {H H' : Hp} (s : Ext H H') {a : Addr} {xs : List V} (h : LT K H a xs) : LT K H' a xs := h.imp s.seq s.tup
theorem ix_any {H : Hp} {a : Addr} {xs : List V} {i : Int} {v : V} {Q : VK} (h : LT K H a xs) (h0 : 0 ≤ i) (hv : xs[i.toNat]? = some v) (q : Q v H) : rIx K (.ref a) (.int i) H Q := by
  have e : atI xs i = some v := by
    have := atI_nat hv
    rwa [Int.toNat_of_nonneg h0] at this
  rcases h with h | h
  · exact .inl ⟨a, xs, i, v, rfl, rfl, h, e, q⟩
  · exact .inr (.inl ⟨a, xs, i, v, rfl, rfl, h, e, q⟩)
theorem okA_of {a b : Rat} (h : Sm a) (k : Sm b) : okA (fq a) (fq b) := ⟨h.1, h.2, k.1, k.2, SM.den_ne a, SM.den_ne b⟩
theorem okD_of {a b : Rat} (h : Sm a) (k : Sm b) (n : b ≠ 0) : okD (fq a) (fq b) := ⟨h.1, h.2, k.1, k.2, SM.den_ne a, SM.num_ne n⟩
theorem sm_nat {k : Nat} (h : k ≤ 1000) : Sm (k : Rat) := SM.sm_of (SM.Iz.nat k) (by decide) (Nat.lt_of_lt_of_le (by decide : 1 < 2 ^ 10) (SM.two_le (by decide))) (Nat.lt_of_lt_of_le (show k < 2 ^ 10 by omega) (SM.two_le (by decide)))
theorem sm_zero : Sm 0 := sm_nat (k := 0) (by decide)
theorem sm_one : Sm 1 := sm_nat (k := 1) (by decide)
/-! ### the pairs of vertices -/
def rowP (n u : Nat) : List (Int × Int) := (List.range (n - (u + 1))).map fun j => ((u : Int), ((u + 1 + j : Nat) : Int))
def prs (n : Nat) : Nat → List (Int × Int)
  | 0 => []
  | i + 1 => prs n i ++ rowP n i
def ltK (x y : Int × Int) : Prop := x.1 < y.1 ∨ (x.1 = y.1 ∧ x.2 < y.2)
theorem mem_row {n u : Nat} {x : Int × Int} (h : x ∈ rowP n u) : x.1 = u ∧ (u : Int) < x.2 ∧ x.2 < n := by
  obtain ⟨j, hj, rfl⟩ := List.mem_map.mp h
  have := List.mem_range.mp hj
  exact ⟨rfl, by show (u : Int) < ((u + 1 + j : Nat) : Int); omega, by show ((u + 1 + j : Nat) : Int) < n; omega⟩
theorem mem_prs {n : Nat} {x : Int × Int} : ∀ {i : Nat}, x ∈ prs n i → 0 ≤ x.1 ∧ x.1 < i ∧ x.1 < x.2 ∧ x.2 < n
  | 0, h => by cases h
  | i + 1, h => by
    rcases List.mem_append.mp h with h | h
    · have := mem_prs h
      omega
    · have := mem_row h
      omega
theorem prs_asc (n : Nat) : ∀ i, (prs n i).Pairwise ltK
  | 0 => .nil
  | i + 1 => by
    refine List.pairwise_append.mpr ⟨prs_asc n i, ?_, fun x hx y hy => ?_⟩
    · unfold rowP
      rw [List.pairwise_map]
      refine (List.pairwise_lt_range (n := n - (i + 1))).imp fun {a b} h => ?_
      refine .inr ⟨rfl, ?_⟩
      show ((i + 1 + a : Nat) : Int) < ((i + 1 + b : Nat) : Int)
      omega
    · have h1 := mem_prs hx
      have h2 := mem_row hy
      exact .inl (by omega)
theorem prs_cnt : ∀ n, n ≤ 7 → 2 * (prs n n).length ≤ n * (n - 1) := by decide
theorem prs_len : ∀ n, n ≤ 7 → (prs n n).length ≤ 21 := by decide
/-- an edge known to be a tuple -/
def EdgeT (H : Hp) (v : V) (e : Eg) : Prop := ∃ a, v = .ref a ∧ H a = some (.tup [.int e.1, .int e.2.1, .int e.2.2])
theorem edges_at {H : Hp} {xs : List V} {es : List Eg} (h : Paired (EdgeT H) xs es) : Paired (EdgeAt K H) xs es := paired_imp (fun _ _ ⟨a, e, h⟩ => ⟨a, e, SqT.of h⟩) h
theorem _root_.EXT.Ext.edgesT {H H' : Hp} (s : Ext H H') {xs : List V} {es : List Eg} (h : Paired (EdgeT H) xs es) : Paired (EdgeT H') xs es := paired_imp (fun _ _ ⟨a, e, h⟩ => ⟨a, e, s.at h⟩) h
theorem edgesT_upd {H : Hp} {D : Addr} {o : HO} {acc : List V} {xs : List V} {es : List Eg} (hD : H D = some (.lst acc)) (h : Paired (EdgeT H) xs es) : Paired (EdgeT (upd H D o)) xs es :=
  paired_imp (fun _ _ ⟨a, e, h⟩ => ⟨a, e, by rw [upd_ne (fun z => by rw [z, hD] at h; cases h)]; exact h⟩) h
/-- pairs known to be tuples -/
def PrT (H : Hp) (v : V) (k : Int × Int) : Prop := ∃ a, v = .ref a ∧ H a = some (.tup [.int k.1, .int k.2])
theorem _root_.EXT.Ext.prs {H H' : Hp} (s : Ext H H') {xs : List V} {ks : List (Int × Int)} (h : Paired (PrT H) xs ks) : Paired (PrT H') xs ks := paired_imp (fun _ _ ⟨a, e, h⟩ => ⟨a, e, s.at h⟩) h
theorem prs_upd {H : Hp} {D : Addr} {o : HO} {acc : List V} {xs : List V} {ks : List (Int × Int)} (hD : H D = some (.lst acc)) (h : Paired (PrT H) xs ks) : Paired (PrT (upd H D o)) xs ks :=
  paired_imp (fun _ _ ⟨a, e, h⟩ => ⟨a, e, by rw [upd_ne (fun z => by rw [z, hD] at h; cases h)]; exact h⟩) h
/-- fields and edges as the law draws them -/
structure Drawn (most : Int) (fs : List Int) (es : List Eg) : Prop where
  one : 1 ≤ fs.length
  most : (fs.length : Int) ≤ most
  small : ∀ f ∈ fs, -2 ≤ f ∧ f ≤ 2
  len : es.length ≤ 21
  ok : ∀ e ∈ es, okE fs.length e
  asc : es.Pairwise ltEg
  cnt : 2 * es.length ≤ fs.length * (fs.length - 1)
theorem coup_at (r : Int) (h0 : 0 ≤ r) (h6 : r < 12) : ∃ c : Int, atI [V.int 1, .int (-1), .int 0, .int 2, .int 1, .int 0, .int (-2), .int 3, .int 0, .int 1, .int (-1), .int 0] r = some (.int c) ∧ -2 ≤ c ∧ c ≤ 3 := by
  have : r = 0 ∨ r = 1 ∨ r = 2 ∨ r = 3 ∨ r = 4 ∨ r = 5 ∨ r = 6 ∨ r = 7 ∨ r = 8 ∨ r = 9 ∨ r = 10 ∨ r = 11 := by omega
  rcases this with rfl | rfl | rfl | rfl | rfl | rfl | rfl | rfl | rfl | rfl | rfl | rfl <;> exact ⟨_, rfl, by decide, by decide⟩
def spSpins (K : PySem.W.Frag) : Sp := fun vs H Q _ => ∃ (a : Addr) (ns : List Int) (first : Nat) (most kind : Int), vs = [.ref a, .int (first : Int), .int most, .int kind] ∧ SqL K H a (ns.map V.int) ∧ 1 ≤ most ∧ most ≤ 7 ∧
  ∀ l H' fb eb fs xs es, Ext H H' → H l = none → H' l = some (.tup [.ref fb, .ref eb]) → H fb = none → H' fb = some (.lst (fs.map V.int)) → H eb = none → H' eb = some (.lst xs) → Paired (EdgeT H') xs es → Drawn most fs es → Q (.ref l) H'
theorem ok_law_spins (T : Top K mg) : FnOk P w K mg base CX0 3 T.f_law_spins T.d_law_spins ["script", "first", "most", "kind"] (spSpins K) := by
  refine T.F_law_spins.ok sc_law_spins (fun vs H Q E h => ?_) (fun cdv A outer s H vs Q E hr h => ?_)
  · obtain ⟨a, ns, first, most, kind, rfl, _⟩ := h
    rfl
  obtain ⟨a, ns, first, most, kind, rfl, hS, hm1, hm7, q⟩ := h
  refine ⟨_, (pss_cons (ps_set (i := 4) sc_law_spins.nd rfl (by first | exact .inl rfl | exact .inr rfl) (pe_op op_add pe_int (pe_op op_mod (pe_call (ok_law_cell T) (hr.mono (by decide)) (by rfl) T.g_law_cell T.F_law_cell.kp T.b_law_cell .nil pass0 (pa_cons (pv 0) (pa_cons (pv 1) pa_nil))) (pv 2))))
      (pss_cons (ps_set (i := 5) sc_law_spins.nd rfl (by first | exact .inl rfl | exact .inr rfl) (pe_op op_rep (pe_lst (pa_cons pe_int pa_nil)) (pv 4)))
      (C8.pss_cut (ps_if (pt_cmpR op_lt (pv 3) pe_int (nomark _)) (pss_one (ps_setLc (i := 5) (own := [("digit", 6)]) (g := gName 6) (tt := tYes) rfl sc_law_spins.nd rfl rfl (sw_true rfl rfl rfl (by decide +kernel)) (pi_list (pe_call (ok_law_row T) (hr.mono (by decide)) (by rfl) T.g_law_row T.F_law_row.kp T.b_law_row .nil pass0 (pa_cons (pe_call (ok_law_cell T) (hr.mono (by decide)) (by rfl) T.g_law_cell T.F_law_cell.kp T.b_law_cell .nil pass0 (pa_cons (pv 0) (pa_cons (pe_op op_add (pv 1) pe_int) pa_nil))) (pa_cons (pv 4) (pa_cons pe_int pa_nil))))) (blkOk_by (own := [("digit", 6)]) (N := n_law_spins) (sc := defScope s_law_spins) (by decide +kernel)) (fun _ _ _ _ _ => (pg_name (i := 6) sc_law_spins.nd rfl (by first | exact .inl rfl | exact .inr rfl))) (fun _ _ _ _ _ => pts_nil) (fun _ _ _ _ _ => (pe_op op_sub (pv 6) pe_int)))) pss_nil)
      (pss_cons (ps_set (i := 7) sc_law_spins.nd rfl (by first | exact .inl rfl | exact .inr rfl) (pe_lst pa_nil))
      (C8.pss_cut (ps_for PassesOwn.never rfl (pi_range1 (by rfl) T.m_range (pa_cons (pv 4) pa_nil)) (pg_name (i := 8) sc_law_spins.nd rfl (by first | exact .inl rfl | exact .inr rfl)) (pss_one (ps_aug (i := 7) sc_law_spins.nd rfl (by first | exact .inl rfl | exact .inr rfl) (pe_lc (own := [("v", 9)]) (g := gName 9) (tt := tYes) rfl sc_law_spins.nd (pi_range2 (by rfl) T.m_range (pa_cons (pe_op op_add (pv 8) pe_int) (pa_cons (pv 4) pa_nil))) (blkOk_by (own := [("v", 9)]) (N := n_law_spins) (sc := defScope s_law_spins) (by decide +kernel)) (fun _ _ _ _ _ => (pg_name (i := 9) sc_law_spins.nd rfl (by first | exact .inl rfl | exact .inr rfl))) (fun _ _ _ _ _ => pts_nil) (fun _ _ _ _ _ => (pe_tup (pa_cons (pv 8) (pa_cons (pv 9) pa_nil))))) iop_ext)))
      (pss_cons (ps_set (i := 10) sc_law_spins.nd rfl (by first | exact .inl rfl | exact .inr rfl) (pe_lst pa_nil))
      (pss_cons (ps_set (i := 11) sc_law_spins.nd rfl (by first | exact .inl rfl | exact .inr rfl) (pe_call (ok_law_row T) (hr.mono (by decide)) (by rfl) T.g_law_row T.F_law_row.kp T.b_law_row .nil pass0 (pa_cons (pe_call (ok_law_cell T) (hr.mono (by decide)) (by rfl) T.g_law_cell T.F_law_cell.kp T.b_law_cell .nil pass0 (pa_cons (pv 0) (pa_cons (pe_op op_add (pv 1) pe_int) pa_nil))) (pa_cons (pe_callB call_len_seq (by rfl) T.m_len (by decide +kernel) (pa_cons (pv 7) pa_nil)) (pa_cons pe_int pa_nil)))))
      (pss_cons (ps_for PassesOwn.never rfl (pi_range1 (by rfl) T.m_range (pa_cons (pe_callB call_len_seq (by rfl) T.m_len (by decide +kernel) (pa_cons (pv 7) pa_nil)) pa_nil)) (pg_name (i := 12) sc_law_spins.nd rfl (by first | exact .inl rfl | exact .inr rfl)) (pss_cons (ps_set (i := 13) sc_law_spins.nd rfl (by first | exact .inl rfl | exact .inr rfl) (pe_ix ix_tup (pe_tup (pa_cons pe_int (pa_cons (pe_un un_neg pe_int) (pa_cons pe_int (pa_cons pe_int (pa_cons pe_int (pa_cons pe_int (pa_cons (pe_un un_neg pe_int) (pa_cons pe_int (pa_cons pe_int (pa_cons pe_int (pa_cons (pe_un un_neg pe_int) (pa_cons pe_int pa_nil))))))))))))) (pe_ix ix_list (pv 11) (pv 12) (fun _ _ => rfl)) (fun _ _ => rfl)))
      (pss_one (ps_if (pt_cmpR op_ne (pv 13) pe_int (nomark _)) (pss_one (ps_expr (pe_bm PySem.F.plainAttrs_list PySem.F.slot_list_append PySem.F.type_list_append mt_append (pv 10) (pa_cons (pe_tup (pa_cons (pe_ix ix_tup (pe_ix ix_list (pv 7) (pv 12) (fun _ _ => rfl)) pe_int (fun _ _ => rfl)) (pa_cons (pe_ix ix_tup (pe_ix ix_list (pv 7) (pv 12) (fun _ _ => rfl)) pe_int (fun _ _ => rfl)) (pa_cons (pe_ifExp (pt_cmpR op_in_seq (pv 3) (pe_tup (pa_cons pe_int (pa_cons pe_int pa_nil))) (by rfl)) (pe_callB call_abs (by rfl) T.m_abs (by decide +kernel) (pa_cons (pv 13) pa_nil)) (pv 13)) pa_nil)))) pa_nil)))) pss_nil))))
      (pss_one (ps_ret (pe_tup (pa_cons (pv 5) (pa_cons (pv 10) pa_nil))))))))))))), ?_⟩
  -- count
  refine ⟨_, rfl, _, rfl, a, ns, first, rfl, hS, _, rfl, _, _, rfl, rfl, (show 0 < most by omega), _, _, rfl, rfl, ?_⟩
  obtain ⟨n, hn, hn7⟩ : ∃ n : Nat, 1 + cellZ ns first % most = ((n + 1 : Nat) : Int) ∧ ((n + 1 : Nat) : Int) ≤ most := by
    have h1 := Int.emod_nonneg (cellZ ns first) (show most ≠ 0 by omega)
    have h2 := Int.emod_lt_of_pos (cellZ ns first) (show 0 < most by omega)
    exact ⟨(cellZ ns first % most).toNat, by omega, by omega⟩
  have hn8 : n ≤ 6 := by omega
  have ec : V.int (1 + cellZ ns first % most) = V.int ((n + 1 : Nat) : Int) := by rw [hn]
  refine ⟨by rw [sizeLine_eq]; simp, fun l0 hl0 => ⟨_, rfl, l0, _, [V.int 0], rfl, rfl, upd_same, by omega, by omega, ?_, fun f0 hf0 => ?_⟩⟩
  · rw [hn, sizeLine_eq]
    show 1 * (((n + 1 : Nat) : Int)).toNat ≤ _
    omega
  have s0 : Ext H (upd (upd H l0 (.lst [V.int 0])) f0 (.lst (List.replicate (1 + cellZ ns first % most).toNat [V.int 0]).flatten)) := (ext_upd hl0).new hf0
  have nf0 : H f0 = none := (ext_upd hl0).free hf0
  have hfl : upd (upd H l0 (.lst [V.int 0])) f0 (.lst (List.replicate (1 + cellZ ns first % most).toNat [V.int 0]).flatten) f0 = some (.lst ((List.replicate (n + 1) (0 : Int)).map V.int)) := by
    rw [upd_same, hn]
    have : ((n + 1 : Nat) : Int).toNat = n + 1 := by omega
    rw [this, List.map_replicate]
    have e : ∀ k, (List.replicate k [V.int 0]).flatten = List.replicate k (V.int 0) := fun k => by
      induction k with
      | zero => rfl
      | succ k ih => rw [List.replicate_succ, List.flatten_cons, ih, List.replicate_succ]; rfl
    rw [e]
  generalize upd (upd H l0 (.lst [V.int 0])) f0 (.lst (List.replicate (1 + cellZ ns first % most).toNat [V.int 0]).flatten) = H1 at *
  refine ⟨fun σ H2 => ∃ (fb : Addr) (fs : List Int), σ = [some (.ref a), some (.int (first : Int)), some (.int most), some (.int kind), some (.int ((n + 1 : Nat) : Int)), some (.ref fb), none, none, none, none, none, none, none, none] ∧ Ext H H2 ∧ H fb = none ∧ H2 fb = some (.lst (fs.map V.int)) ∧ fs.length = n + 1 ∧ ∀ f ∈ fs, -2 ≤ f ∧ f ≤ 2, ?_, ?_⟩
  · refine ⟨_, rfl, _, _, rfl, rfl, _, rfl, ite2 (fun _ => ?_) (fun _ => ?_)⟩
    · refine ⟨_, rfl, _, rfl, _, _, rfl, rfl, a, ns, first + 1, rfl, s0.seq hS, _, rfl, cellZ ns (first + 1), 5, n + 1, by rw [← ec]; rfl, by omega, by decide, by decide, fun l H2 rs s2 nl hl lrs hrs => ?_⟩
      have s02 := s0.trans s2
      refine ⟨l, rfl, ⟨_, SqL.of hl⟩, fun D hD => lc_list (xs := rs.map V.int) (fun i H3 => Ext H2 H3 ∧ H3 D = some (.lst (((rs.take i).map fun r => r - 2).map V.int))) ⟨ext_upd hD, upd_same⟩ (fun i H3 _ h => SqL.of (h.1.lst hl)) (fun i x H3 hi hP => ?_) (fun H3 hP => ?_)⟩
      · obtain ⟨s3, hz⟩ := hP
        rw [List.getElem?_map] at hi
        cases hr2 : rs[i]? with
        | none => rw [hr2] at hi; cases hi
        | some r =>
          rw [hr2] at hi
          cases hi
          refine ⟨rfl, _, rfl, _, _, rfl, rfl, _, hz, ?_, s3.own hD, ?_⟩
          · rw [List.length_map, List.length_map, List.length_take]
            exact sl_lt (by omega)
          · rw [upd_same, take_snoc hr2, List.map_append, List.map_append]
            rfl
      · obtain ⟨s3, hz⟩ := hP
        rw [List.length_map, List.take_length] at hz
        refine ⟨D, rs.map fun r => r - 2, ?_, s02.trans s3, s02.free hD, hz, by rw [List.length_map]; exact lrs, fun f m => ?_⟩
        · rw [← ec]
          rfl
        · obtain ⟨r, hr3, rfl⟩ := List.mem_map.mp m
          have := hrs r hr3
          omega
    · refine ⟨f0, List.replicate (n + 1) 0, ?_, s0, nf0, hfl, List.length_replicate, fun f m => ?_⟩
      · rw [← ec]
        rfl
      · rw [List.eq_of_mem_replicate m]
        decide
  rintro σ H2 ⟨fb, fs, rfl, s2, nfb, hfb, lfs, sfs⟩
  -- pairs
  refine ⟨by rw [sizeLine_eq]; simp, fun pl hpl => ?_⟩
  have npl : H pl = none := s2.free hpl
  refine ⟨fun σ H3 => ∃ (u : Option V) (xs : List V), σ = [some (.ref a), some (.int (first : Int)), some (.int most), some (.int kind), some (.int ((n + 1 : Nat) : Int)), some (.ref fb), none, some (.ref pl), u, none, none, none, none, none] ∧ Ext H2 H3 ∧ H3 pl = some (.lst xs) ∧ Paired (PrT H3) xs (prs (n + 1) (n + 1)), ?_, ?_⟩
  · refine ⟨_, rfl, _, rfl, by omega, by omega, for_range (n := n + 1) (fun i σ H3 => ∃ (u : Option V) (xs : List V), σ = [some (.ref a), some (.int (first : Int)), some (.int most), some (.int kind), some (.int ((n + 1 : Nat) : Int)), some (.ref fb), none, some (.ref pl), u, none, none, none, none, none] ∧ Ext H2 H3 ∧ H3 pl = some (.lst xs) ∧ Paired (PrT H3) xs (prs (n + 1) i) ∧ xs.length ≤ 7 * i)
      ⟨_, [], rfl, ext_upd hpl, upd_same, .nil, Nat.zero_le _⟩ (fun i σ H3 hi hP => ?_) (fun σ H3 hP => ?_)⟩
    · obtain ⟨u, xs, rfl, s3, hxs, hpr, lxs⟩ := hP
      have rl : (rowP (n + 1) i).length ≤ 6 := by
        unfold rowP
        rw [List.length_map, List.length_range]
        omega
      refine ⟨_, rfl, _, rfl, _, _, rfl, rfl, _, rfl, _, _, rfl, ⟨by omega, by omega, by omega, by omega⟩, fun D hD => lc_range (lo := 0 + (i : Int) + 1) (n := (((n + 1 : Nat) : Int) - (0 + (i : Int) + 1)).toNat) (fun j H4 => Ext H3 H4 ∧ ∃ ys, H4 D = some (.lst ys) ∧ Paired (PrT H4) ys ((rowP (n + 1) i).take j)) ⟨ext_upd hD, [], upd_same, .nil⟩ (fun j H4 hj hP => ?_) (fun H4 hP => ?_)⟩
      · obtain ⟨s4, ys, hys, hp4⟩ := hP
        have hj : j < n + 1 - (i + 1) := by omega
        have hg : (rowP (n + 1) i)[j]? = some (0 + (i : Int), 0 + (i : Int) + 1 + (j : Int)) := by
          unfold rowP
          rw [List.getElem?_map, List.getElem?_range hj]
          show some ((i : Int), ((i + 1 + j : Nat) : Int)) = _
          congr 1
          refine Prod.ext ?_ ?_
          · show (i : Int) = 0 + i
            omega
          · show ((i + 1 + j : Nat) : Int) = 0 + (i : Int) + 1 + j
            omega
        refine ⟨rfl, _, rfl, _, rfl, sl2, fun p hp => ?_⟩
        have hys2 := (ext_upd (o := .tup [V.int (0 + (i : Int)), .int (0 + (i : Int) + 1 + (j : Int))]) hp).lst hys
        refine ⟨ys, hys2, ?_, (s4.new hp).own hD, ys ++ [.ref p], upd_same, ?_⟩
        · have l4 := hp4.length
          rw [List.length_take] at l4
          exact sl_lt (by omega)
        · rw [take_snoc hg]
          exact prs_upd hys2 (paired_snoc ((ext_upd hp).prs hp4) ⟨p, rfl, upd_same⟩)
      · obtain ⟨s4, ys, hys, hp4⟩ := hP
        have el : (((n + 1 : Nat) : Int) - (0 + (i : Int) + 1)).toNat = (rowP (n + 1) i).length := by
          unfold rowP
          rw [List.length_map, List.length_range]
          omega
        rw [el, List.take_length] at hp4
        have hx4 := s4.lst hxs
        have npl2 : H2 pl = none := hpl
        refine ⟨pl, D, xs, ys, rfl, rfl, hx4, hys, ?_, ?_⟩
        · have := hp4.length
          exact sl_of (by omega)
        · refine ⟨_, _, rfl, (s3.trans s4).own npl2, upd_same, ?_, ?_⟩
          · exact prs_upd hx4 (paired_app (s4.prs hpr) hp4)
          · have := hp4.length
            rw [List.length_append]
            omega
    · obtain ⟨u, xs, rfl, s3, hxs, hpr, _⟩ := hP
      exact ⟨u, xs, rfl, s3, hxs, hpr⟩
  rintro σ H3 ⟨u, ps, rfl, s3, hps, hpr⟩
  -- edges, digits
  have lp := hpr.length
  have lp21 : (prs (n + 1) (n + 1)).length ≤ 21 := prs_len (n + 1) (by omega)
  have s03 := s2.trans s3
  have nfb3 : H3 fb = some (.lst (fs.map V.int)) := s3.lst hfb
  refine ⟨by rw [sizeLine_eq]; simp, fun e0 he0 => ?_⟩
  have ne0 : H e0 = none := s03.free he0
  have x4 : Ext H3 (upd H3 e0 (.lst [])) := ext_upd he0
  have he1 : upd H3 e0 (.lst []) e0 = some (.lst []) := upd_same
  generalize upd H3 e0 (.lst []) = H4 at *
  have s04 := s03.trans x4
  refine ⟨_, rfl, _, rfl, _, _, rfl, rfl, a, ns, first + 2, rfl, s04.seq hS, _, rfl, pl, _, rfl, .inl (SqL.of (x4.lst hps)), cellZ ns (first + 2), 12, ps.length, rfl, by omega, by decide, by decide, fun dl H5 rs s5 nd hd ld hrs => ?_⟩
  have s05 := s04.trans s5
  have x5 := x4.trans s5
  have n1 : fb ≠ e0 := ne_of_none nfb3 he0
  have n2 : pl ≠ e0 := ne_of_none hps he0
  have n3 : dl ≠ e0 := (ne_of_none he1 nd).symm
  refine ⟨_, rfl, pl, _, rfl, .inl (SqL.of (x5.lst hps)), _, rfl, by omega, by omega, for_range (n := ps.length) (fun k σ H6 => ∃ (w1 w2 : Option V) (xs : List V) (es : List Eg), σ = [some (.ref a), some (.int (first : Int)), some (.int most), some (.int kind), some (.int ((n + 1 : Nat) : Int)), some (.ref fb), none, some (.ref pl), u, none, some (.ref e0), some (.ref dl), w1, w2] ∧ Ext H H6 ∧
      H6 fb = some (.lst (fs.map V.int)) ∧ H6 pl = some (.lst ps) ∧ Paired (PrT H6) ps (prs (n + 1) (n + 1)) ∧ H6 dl = some (.lst (rs.map V.int)) ∧ H6 e0 = some (.lst xs) ∧ Paired (EdgeT H6) xs es ∧ (es.map fun e => (e.1, e.2.1)).Sublist ((prs (n + 1) (n + 1)).take k) ∧ ∀ e ∈ es, e.2.2 ≠ 0 ∧ -9 ≤ e.2.2 ∧ e.2.2 ≤ 9)
    ⟨_, _, [], [], rfl, s05, x5.lst nfb3, x5.lst hps, x5.prs hpr, hd, s5.lst he1, .nil, List.nil_sublist _, fun e m => by simp at m⟩ (fun k σ H6 hk hP => ?_) (fun σ H6 hP => ?_)⟩
  · obtain ⟨w1, w2, xs, es, rfl, s6, f6, p6, pr6, d6, e6, ee6, sub, good⟩ := hP
    have hkp : k < ps.length := by
      have : (k : Int) < ps.length := by omega
      omega
    obtain ⟨pk, hpk⟩ : ∃ v, ps[k]? = some v := ⟨_, List.getElem?_eq_getElem hkp⟩
    obtain ⟨⟨pu, pw⟩, hprk, pa, rfl, hpa⟩ := paired_at pr6 hpk
    obtain ⟨r, hrk⟩ : ∃ r, rs[k]? = some r := ⟨_, List.getElem?_eq_getElem (by omega)⟩
    have hr12 := hrs r (List.mem_of_getElem? hrk)
    obtain ⟨c, hc, hc3⟩ := coup_at r hr12.1 hr12.2
    have lxs : xs.length ≤ 21 := by
      have h1 := ee6.length
      have h2 := sub.length_le
      rw [List.length_map, List.length_take] at h2
      omega
    have atk : ∀ {α : Type} {zs : List α} {z : α}, zs[k]? = some z → atI zs (0 + (k : Int)) = some z := fun h => by
      rw [Int.zero_add]
      exact atI_nat h
    refine ⟨_, rfl, _, rfl, _, rfl, by rw [sizeLine_eq]; simp, fun tp htp => ?_⟩
    have y1 := ext_upd (o := .tup [V.int 1, .int (-1), .int 0, .int 2, .int 1, .int 0, .int (-2), .int 3, .int 0, .int 1, .int (-1), .int 0]) htp
    refine ⟨_, rfl, _, rfl, dl, rs.map V.int, _, .int r, rfl, rfl, SqL.of (y1.lst d6), atk (by rw [List.getElem?_map, hrk]; rfl), tp, _, r, .int c, rfl, rfl, SqT.of upd_same, hc, ?_⟩
    generalize upd H6 tp (.tup [V.int 1, .int (-1), .int 0, .int 2, .int 1, .int 0, .int (-2), .int 3, .int 0, .int 1, .int (-1), .int 0]) = H7 at *
    have subk : (es.map fun e => (e.1, e.2.1)).Sublist ((prs (n + 1) (n + 1)).take (k + 1)) := by
      rw [take_snoc hprk]
      exact sub.trans (List.sublist_append_left _ _)
    refine ⟨_, rfl, rfl, _, rfl, iteB (fun z => ?_) (fun z => ?_)⟩
    · have cz : c ≠ 0 := fun w => by
        rw [w] at z
        cases z
      refine ⟨_, rfl, .inl ⟨rfl, _, SqL.of (y1.lst e6)⟩, _, rfl, _, rfl, pl, ps, _, _, rfl, rfl, SqL.of (y1.lst p6), atk hpk, pa, _, 0, _, rfl, rfl, SqT.of (y1.at hpa), atI_nat (j := 0) rfl,
        _, rfl, _, rfl, pl, ps, _, _, rfl, rfl, SqL.of (y1.lst p6), atk hpk, pa, _, 1, _, rfl, rfl, SqT.of (y1.at hpa), atI_nat (j := 1) rfl, _, rfl, sl2, fun q1 hq1 => ?_⟩
      have y2 := y1.trans (ext_upd (o := .tup [V.int 1, .int 3]) hq1)
      refine ⟨q1, _, rfl, .inr (SqT.of upd_same), rfl, rfl, _, rfl, ?_⟩
      generalize upd H7 q1 (.tup [V.int 1, .int 3]) = H8 at *
      have key : ∀ c' : Int, c' ≠ 0 → -9 ≤ c' → c' ≤ 9 → ∀ p3, H8 p3 = none → Ext H6 (upd H8 p3 (.tup [.int pu, .int pw, .int c'])) ∧ (∀ e ∈ es ++ [(pu, pw, c')], e.2.2 ≠ 0 ∧ -9 ≤ e.2.2 ∧ e.2.2 ≤ 9) ∧ ((es ++ [(pu, pw, c')]).map fun e => (e.1, e.2.1)).Sublist ((prs (n + 1) (n + 1)).take (k + 1)) := fun c' h1 h2 h3 p3 hp3 => by
        refine ⟨y2.new hp3, fun e m => ?_, ?_⟩
        · rcases List.mem_append.mp m with m | m
          · exact good e m
          · rw [List.mem_singleton.mp m]
            exact ⟨h1, h2, h3⟩
        · rw [take_snoc hprk, List.map_append]
          exact sub.append (List.Sublist.refl _)
      refine iteB (fun _ => ?_) (fun _ => ?_)
      · refine ⟨_, rfl, c, rfl, by rw [sizeLine_eq]; simp, fun p3 hp3 => ?_⟩
        obtain ⟨y3, g3, sb3⟩ := key (if c < 0 then -c else c) (by split <;> omega) (by split <;> omega) (by split <;> omega) p3 hp3
        have ee := y3.lst e6
        refine ⟨e0, xs, .ref p3, rfl, rfl, ee, sl_lt (by omega), _, _, xs ++ [.ref p3], _, rfl, (s6.trans y3).own ne0, ?_, ?_, ?_, ?_, upd_same, edgesT_upd ee (paired_snoc (y3.edgesT ee6) ⟨p3, rfl, upd_same⟩), sb3, g3⟩
        · rw [upd_ne n1]
          exact y3.lst f6
        · rw [upd_ne n2]
          exact y3.lst p6
        · exact prs_upd ee (y3.prs pr6)
        · rw [upd_ne n3]
          exact y3.lst d6
      · refine ⟨_, rfl, by rw [sizeLine_eq]; simp, fun p3 hp3 => ?_⟩
        obtain ⟨y3, g3, sb3⟩ := key c cz (by omega) (by omega) p3 hp3
        have ee := y3.lst e6
        refine ⟨e0, xs, .ref p3, rfl, rfl, ee, sl_lt (by omega), _, _, xs ++ [.ref p3], _, rfl, (s6.trans y3).own ne0, ?_, ?_, ?_, ?_, upd_same, edgesT_upd ee (paired_snoc (y3.edgesT ee6) ⟨p3, rfl, upd_same⟩), sb3, g3⟩
        · rw [upd_ne n1]
          exact y3.lst f6
        · rw [upd_ne n2]
          exact y3.lst p6
        · exact prs_upd ee (y3.prs pr6)
        · rw [upd_ne n3]
          exact y3.lst d6
    · exact ⟨_, _, xs, es, rfl, s6.trans y1, y1.lst f6, y1.lst p6, y1.prs pr6, y1.lst d6, y1.lst e6, y1.edgesT ee6, subk, good⟩
  · obtain ⟨w1, w2, xs, es, rfl, s6, f6, p6, pr6, d6, e6, ee6, sub, good⟩ := hP
    rw [lp, List.take_length] at sub
    refine ⟨_, rfl, _, rfl, sl2, fun l hl => ?_⟩
    have y1 := ext_upd (o := .tup [V.ref fb, .ref e0]) hl
    refine q l _ fb e0 fs xs es (s6.new hl) (s6.free hl) upd_same nfb (y1.lst f6) ne0 (y1.lst e6) (y1.edgesT ee6) ⟨by omega, by rw [lfs]; exact hn7, sfs, ?_, fun e m => ?_, ?_, ?_⟩
    · have h2 := sub.length_le
      rw [List.length_map] at h2
      omega
    · have h1 := mem_prs (sub.subset (List.mem_map.mpr ⟨e, m, rfl⟩))
      obtain ⟨g1, g2, g3⟩ := good e m
      rw [lfs]
      exact ⟨h1.1, h1.2.2.1, h1.2.2.2, g1, g2, g3⟩
    · have h1 := (prs_asc (n + 1) (n + 1)).sublist sub
      rw [List.pairwise_map] at h1
      exact h1
    · have h2 := sub.length_le
      rw [List.length_map] at h2
      rw [lfs]
      exact Nat.le_trans (Nat.mul_le_mul_left 2 h2) (prs_cnt (n + 1) (by omega))
/-! states, costs, sums: the mathematics -/
def states : Nat → List (List Int)
  | 0 => [[]]
  | n + 1 => (states n).flatMap fun s => [s ++ [0], s ++ [1]]
def bits (st : List Int) : Prop := ∀ b ∈ st, b = 0 ∨ b = 1
theorem states_ok : ∀ (n : Nat), ∀ st ∈ states n, st.length = n ∧ bits st
  | 0, st, m => by
    rw [List.mem_singleton.mp m]
    exact ⟨rfl, fun b z => by cases z⟩
  | n + 1, st, m => by
    obtain ⟨s, hs, m⟩ := List.mem_flatMap.mp m
    obtain ⟨h1, h2⟩ := states_ok n s hs
    have key : ∀ x : Int, (x = 0 ∨ x = 1) → (s ++ [x]).length = n + 1 ∧ bits (s ++ [x]) := fun x hx => ⟨by rw [List.length_append, h1]; rfl, fun b z => by
      rcases List.mem_append.mp z with z | z
      · exact h2 b z
      · rw [List.mem_singleton.mp z]
        exact hx⟩
    simp only [List.mem_cons, List.not_mem_nil, or_false] at m
    rcases m with rfl | rfl
    · exact key 0 (.inl rfl)
    · exact key 1 (.inr rfl)
theorem length_states : ∀ n, (states n).length = 2 ^ n
  | 0 => rfl
  | n + 1 => by
    have : ∀ l : List (List Int), (l.flatMap fun s => [s ++ [0], s ++ [1]]).length = 2 * l.length := fun l => by
      induction l with
      | nil => rfl
      | cons s l ih =>
        rw [List.flatMap_cons, List.length_append, ih]
        simp only [List.length_cons, List.length_nil]
        omega
    rw [states, this, length_states n, Nat.pow_succ]
    omega
theorem states_add (n : Nat) : ∀ m, states (n + m) = (states n).flatMap fun s => (states m).map fun t => s ++ t
  | 0 => by
    have : ∀ l : List (List Int), (l.flatMap fun s => [s ++ []]) = l := fun l => by
      induction l with
      | nil => rfl
      | cons s l ih => rw [List.flatMap_cons, ih, List.append_nil]; rfl
    exact (this _).symm
  | m + 1 => by
    show (states (n + m)).flatMap _ = _
    rw [states_add n m, List.flatMap_assoc]
    congr 1
    funext s
    show _ = ((states m).flatMap fun t => [t ++ [0], t ++ [1]]).map _
    rw [List.map_flatMap, List.flatMap_map]
    congr 1
    funext t
    simp only [List.map_cons, List.map_nil, List.append_assoc]
def atS (st : List Int) (i : Int) : Int := st.getD i.toNat 0
def edgeC (es : List Eg) (st : List Int) : Int := ((es.filter fun e => decide (atS st e.1 ≠ atS st e.2.1)).map fun e => e.2.2).sum
def fieldC (fs st : List Int) : Int := (((fs.zip st).filter fun p => decide (p.2 = 1)).map fun p => p.1).sum
def costZ (fs : List Int) (es : List Eg) (st : List Int) : Int := edgeC es st + fieldC fs st
def termS (fs : List Int) (es : List Eg) (st : List Int) : Trm := ((costZ fs es st, st.sum), 1)
def zraw (fs : List Int) (es : List Eg) : List Trm := (states fs.length).map (termS fs es)
def shiftE (n : Int) (es : List Eg) : List Eg := es.map fun e => (e.1 + n, e.2.1 + n, e.2.2)
theorem atS_left {s t : List Int} {i : Int} (h0 : 0 ≤ i) (h1 : i < s.length) : atS (s ++ t) i = atS s i := by
  unfold atS
  rw [List.getD_eq_getElem?_getD, List.getD_eq_getElem?_getD, List.getElem?_append_left (by omega)]
theorem atS_right {s t : List Int} {i : Int} (h0 : 0 ≤ i) : atS (s ++ t) (i + s.length) = atS t i := by
  unfold atS
  rw [List.getD_eq_getElem?_getD, List.getD_eq_getElem?_getD, List.getElem?_append_right (by omega)]
  congr 2
  omega
theorem edgeC_left {es : List Eg} {s t : List Int} (h : ∀ e ∈ es, okE s.length e) : edgeC es (s ++ t) = edgeC es s := by
  unfold edgeC
  congr 2
  refine List.filter_congr fun e m => ?_
  obtain ⟨h1, h2, h3, _⟩ := h e m
  rw [atS_left h1 (by omega), atS_left (by omega) h3]
theorem edgeC_right {es : List Eg} {s t : List Int} {n : Int} (h : ∀ e ∈ es, okE n e) : edgeC (shiftE s.length es) (s ++ t) = edgeC es t := by
  unfold edgeC shiftE
  rw [List.filter_map, List.map_map]
  congr 1
  have : es.filter ((fun e : Eg => decide (atS (s ++ t) e.1 ≠ atS (s ++ t) e.2.1)) ∘ fun e => (e.1 + s.length, e.2.1 + s.length, e.2.2)) = es.filter fun e => decide (atS t e.1 ≠ atS t e.2.1) := by
    refine List.filter_congr fun e m => ?_
    obtain ⟨h1, h2, h3, _⟩ := h e m
    show decide (atS (s ++ t) (e.1 + s.length) ≠ atS (s ++ t) (e.2.1 + s.length)) = _
    rw [atS_right h1, atS_right (by omega)]
  rw [this]
  rfl
theorem costZ_app {fs ms s t : List Int} {es ls : List Eg} {n : Int} (hs : s.length = fs.length) (he : ∀ e ∈ es, okE fs.length e) (hl : ∀ e ∈ ls, okE n e) :
    costZ (fs ++ ms) (es ++ shiftE fs.length ls) (s ++ t) = costZ fs es s + costZ ms ls t := by
  have h1 : edgeC (es ++ shiftE fs.length ls) (s ++ t) = edgeC es s + edgeC ls t := by
    rw [← edgeC_left (es := es) (s := s) (t := t) (fun e m => by rw [hs]; exact he e m), ← edgeC_right (es := ls) (s := s) (t := t) hl, hs]
    unfold edgeC
    rw [List.filter_append, List.map_append, List.sum_append]
  have h2 : fieldC (fs ++ ms) (s ++ t) = fieldC fs s + fieldC ms t := by
    unfold fieldC
    rw [List.zip_append hs.symm, List.filter_append, List.map_append, List.sum_append]
  unfold costZ
  omega
theorem fm_congr {α β : Type} {f g : α → List β} : ∀ {l : List α}, (∀ x ∈ l, f x = g x) → l.flatMap f = l.flatMap g
  | [], _ => rfl
  | x :: l, h => by rw [List.flatMap_cons, List.flatMap_cons, h x List.mem_cons_self, fm_congr fun y m => h y (List.mem_cons_of_mem _ m)]
theorem zraw_app {fs ms : List Int} {es ls : List Eg} (he : ∀ e ∈ es, okE fs.length e) (hl : ∀ e ∈ ls, okE ms.length e) :
    zraw (fs ++ ms) (es ++ shiftE fs.length ls) = mulT (zraw fs es) (zraw ms ls) := by
  unfold zraw mulT
  rw [List.length_append, states_add, List.map_flatMap, List.flatMap_map]
  refine fm_congr fun s hs => ?_
  rw [List.map_map, List.map_map]
  refine List.map_congr_left fun t ht => ?_
  show termS _ _ (s ++ t) = (addE _ _, 1 * 1)
  unfold termS addE
  rw [costZ_app ((states_ok _ s hs).1) he hl, List.sum_append]
  rfl
theorem z_mul {fs ms : List Int} {es ls : List Eg} (he : ∀ e ∈ es, okE fs.length e) (hl : ∀ e ∈ ls, okE ms.length e) :
    canon (zraw (fs ++ ms) (es ++ shiftE fs.length ls)) = canon (mulT (canon (zraw fs es)) (canon (zraw ms ls))) := by
  rw [zraw_app he hl]
  exact PM.canon_congr (PM.Eqv.mul (PM.eqv_canon _).symm (PM.eqv_canon _).symm)
theorem length_zraw (fs : List Int) (es : List Eg) : (zraw fs es).length = 2 ^ fs.length := by
  unfold zraw
  rw [List.length_map, length_states]
/-- fields times spins -/
def dotC : List Int → List Int → Int
  | f :: fs, s :: st => f * s + dotC fs st
  | _, _ => 0
theorem dot_field : ∀ {fs st : List Int}, bits st → dotC fs st = fieldC fs st
  | [], st, _ => by unfold dotC fieldC; rfl
  | f :: fs, [], _ => by unfold dotC fieldC; rfl
  | f :: fs, s :: st, h => by
    have ih := dot_field (fs := fs) (st := st) fun b m => h b (List.mem_cons_of_mem _ m)
    have hs := h s List.mem_cons_self
    unfold fieldC at *
    rw [dotC, ih, List.zip_cons_cons, List.filter_cons]
    rcases hs with rfl | rfl
    · simp
    · simp
theorem dot_snoc {fs st : List Int} {f s : Int} : ∀ {k : Nat}, fs[k]? = some f → st[k]? = some s → dotC (fs.take (k + 1)) (st.take (k + 1)) = dotC (fs.take k) (st.take k) + f * s := by
  intro k
  induction k generalizing fs st with
  | zero =>
    intro h1 h2
    cases fs with
    | nil => simp at h1
    | cons a fs =>
      cases st with
      | nil => simp at h2
      | cons b st =>
        simp only [List.getElem?_cons_zero, Option.some.injEq] at h1 h2
        subst h1
        subst h2
        simp [dotC]
  | succ k ih =>
    intro h1 h2
    cases fs with
    | nil => simp at h1
    | cons a fs =>
      cases st with
      | nil => simp at h2
      | cons b st =>
        simp only [List.getElem?_cons_succ] at h1 h2
        have := ih h1 h2
        simp only [List.take_succ_cons, dotC, this]
        omega
theorem sum_bound {c : Int} : ∀ {l : List Int}, (∀ x ∈ l, -c ≤ x ∧ x ≤ c) → -(c * l.length) ≤ l.sum ∧ l.sum ≤ c * l.length
  | [], _ => by simp
  | x :: l, h => by
    obtain ⟨h1, h2⟩ := sum_bound (l := l) fun y m => h y (List.mem_cons_of_mem _ m)
    obtain ⟨h3, h4⟩ := h x List.mem_cons_self
    rw [List.sum_cons, List.length_cons]
    have : c * ((l.length + 1 : Nat) : Int) = c * l.length + c := by
      rw [Int.natCast_add, Int.mul_add]
      simp
    omega
theorem sumV_ints : ∀ l : List Int, sumV (l.map V.int) = l.sum
  | [] => rfl
  | x :: l => by
    rw [List.map_cons, List.sum_cons, ← sumV_ints l]
    rfl
/-- spins at p -/
structure SpAt (T : Top K mg) (H : Hp) (p : Addr) (fs : List Int) (es : List Eg) : Prop where
  gf : goodF fs
  ge : goodE fs.length es
  ex : ∃ dx fb eb ys, H p = some (.ins T.C_Spins dx [("fields", .ref fb), ("edges", .ref eb)]) ∧ SqT K H fb (fs.map V.int) ∧ SqT K H eb ys ∧ Paired (EdgeAt K H) ys es
theorem SpAt.up {T : Top K mg} {H H' : Hp} {p : Addr} {fs : List Int} {es : List Eg} (h : SpAt T H p fs es) (s : Ext H H') : SpAt T H' p fs es := by
  obtain ⟨g1, g2, dx, fb, eb, ys, h1, h2, h3, h4⟩ := h
  exact ⟨g1, g2, dx, fb, eb, ys, s.keep p _ h1 (fun _ z => by cases z), s.tup h2, s.tup h3, s.edges h4⟩
/-- a state -/
def StAt (K : PySem.W.Frag) (H : Hp) (v : V) (st : List Int) : Prop := ∃ a, v = .ref a ∧ SqT K H a (st.map V.int)
theorem _root_.EXT.Ext.sts {H H' : Hp} (s : Ext H H') {xs : List V} {l : List (List Int)} (h : Paired (StAt K H) xs l) : Paired (StAt K H') xs l := paired_imp (fun _ _ ⟨a, e, h⟩ => ⟨a, e, s.tup h⟩) h
theorem sqt_lst {H : Hp} {p a : Addr} {acc xs : List V} {o : HO} (hp : H p = some (.lst acc)) (h : SqT K H a xs) : SqT K (upd H p o) a xs := by
  rcases h with (h | ⟨o', h⟩) | h
  · exact .inl (.inl (by rw [upd_ne (fun z => by rw [z, hp] at h; cases h)]; exact h))
  · exact .inl (.inr ⟨o', by rw [upd_ne (fun z => by rw [z, hp] at h; cases h)]; exact h⟩)
  · exact .inr h
theorem sts_lst {H : Hp} {p : Addr} {acc xs : List V} {l : List (List Int)} {o : HO} (hp : H p = some (.lst acc)) (h : Paired (StAt K H) xs l) : Paired (StAt K (upd H p o)) xs l := paired_imp (fun _ _ ⟨a, e, h⟩ => ⟨a, e, sqt_lst hp h⟩) h
def two (s : List Int) : List (List Int) := [s ++ [0], s ++ [1]]
theorem pow8 {n : Nat} (h : n ≤ 8) : 2 ^ n ≤ 256 := Nat.le_trans (Nat.pow_le_pow_right (by decide) h) (by decide)
/-- s + (b,) as a state -/
theorem st_cat {H : Hp} {Q : VK} {a b : Addr} {s : List Int} {z : Int} (h1 : SqT K H a (s.map V.int)) (h2 : H b = some (.tup [V.int z])) (hl : s.length ≤ 100)
    (q : ∀ v H', Ext H H' → (∀ D acc, H D = some (.lst acc) → H' D = some (.lst acc)) → StAt K H' v (s ++ [z]) → Q v H') : rCatA K (.ref a) (.ref b) H Q := by
  refine ⟨a, b, s.map V.int, [V.int z], rfl, rfl, h1, SqT.of h2, sl_of (by rw [List.length_map]; simp only [List.length_cons, List.length_nil]; omega), fun e => ?_, fun _ e => (nomatch e), fun _ _ p hp => ?_⟩
  · have e0 : s = [] := List.map_eq_nil_iff.mp e
    subst e0
    exact q _ _ (Ext.refl H) (fun D acc h => h) ⟨b, rfl, SqT.of h2⟩
  · refine q _ _ (ext_upd hp) (fun D acc h => (ext_upd hp).lst h) ⟨p, rfl, ?_⟩
    rw [List.map_append]
    exact SqT.of upd_same
def spStates (T : Top K mg) : Sp := fun vs H Q _ => ∃ (p : Addr) (fs : List Int) (es : List Eg), vs = [.ref p] ∧ SpAt T H p fs es ∧ fs.length ≤ 8 ∧
  ∀ l H' xs, Ext H H' → H l = none → H' l = some (.lst xs) → Paired (StAt K H') xs (states fs.length) → Q (.ref l) H'
theorem ok_all_states (T : Top K mg) : FnOk P w K mg base CX0 1 T.f_all_states T.d_all_states ["spins"] (spStates T) := by
  refine T.F_all_states.ok sc_all_states (fun vs H Q E h => ?_) (fun cdv A outer s H vs Q E hr h => ?_)
  · obtain ⟨p, fs, es, rfl, _⟩ := h
    rfl
  obtain ⟨p, fs, es, rfl, hp, l8, q⟩ := h
  refine ⟨_, (pss_cons (ps_set (i := 1) sc_all_states.nd rfl (by first | exact .inl rfl | exact .inr rfl) (pe_lst (pa_cons (pe_tup pa_nil) pa_nil)))
      (pss_cons (ps_for PassesOwn.never rfl (pi_tup (pe_fld (pv 0) rfl)) (pg_name (i := 2) sc_all_states.nd rfl (by first | exact .inl rfl | exact .inr rfl)) (pss_one (ps_setLc2 (i := 1) (own := [("state", 3), ("spin", 4)]) (vs1 := [4]) (g := gName 3) (g1 := gName 4) (wi1 := iTup K _) (tt := tYes) (tt1 := tYes) rfl sc_all_states.nd rfl rfl (sw_true rfl rfl rfl (by decide +kernel)) (pi_list (pv 1)) (blkOk_by (own := [("state", 3), ("spin", 4)]) (N := n_all_states) (sc := defScope s_all_states) (by decide +kernel)) (by decide) (fun _ _ _ _ _ => (pg_name (i := 3) sc_all_states.nd rfl (by first | exact .inl rfl | exact .inr rfl))) (fun _ _ _ _ _ => pts_nil) (fun _ _ _ _ _ => (pi_tup (pe_tup (pa_cons pe_int (pa_cons pe_int pa_nil))))) (fun _ _ _ _ _ => (pg_name (i := 4) sc_all_states.nd rfl (by first | exact .inl rfl | exact .inr rfl))) (fun _ _ _ _ _ => pts_nil) (fun _ _ _ _ _ => (pe_op (r := rCatA K) op_catA (pv 3) (pe_tup (pa_cons (pv 4) pa_nil)))))))
      (pss_one (ps_ret (pv 1))))), ?_⟩
  have hpl := hp
  obtain ⟨gf, ge, dx, fb, eb, ys, h1, h2, h3, h4⟩ := hp
  refine ⟨by rw [sizeLine_eq]; simp, fun e0 he0 => ⟨by rw [sizeLine_eq]; simp, fun l0 hl0 => ?_⟩⟩
  have x0 : Ext H (upd (upd H e0 (.tup [])) l0 (.lst [V.ref e0])) := (ext_upd he0).new hl0
  refine ⟨_, rfl, p, T.C_Spins, dx, _, .ref fb, rfl, x0.keep p _ h1 (fun _ z => by cases z), T.cl_Spins, T.na_Spins_fields, rfl, fb, rfl, ⟨_, x0.tup h2⟩, for_tup (xs := fs.map V.int)
    (fun i σ H1 => ∃ l x xs, σ = [some (.ref p), some (.ref l), x, none, none] ∧ Ext H H1 ∧ H l = none ∧ H1 l = some (.lst xs) ∧ Paired (StAt K H1) xs (states i))
    ⟨l0, none, [.ref e0], rfl, x0, (ext_upd he0).free hl0, upd_same, .cons ⟨e0, rfl, SqT.of ((ext_upd hl0).at upd_same)⟩ .nil⟩ (fun i σ H1 _ ⟨l, x, xs, h⟩ => h.2.1.tup h2) (fun i x σ H1 hi hP => ?_) (fun σ H1 hP => ?_)⟩
  · obtain ⟨l, x1, xs, rfl, s1, nl, hl, hst⟩ := hP
    have i8 : i < 8 := by
      have := (List.getElem?_eq_some_iff.mp hi).1
      rw [List.length_map] at this
      omega
    have lst := hst.length
    rw [length_states] at lst
    have c256 : xs.length ≤ 256 := by rw [lst]; exact pow8 (by omega)
    refine ⟨_, rfl, l, rfl, ⟨_, SqL.of hl⟩, fun D hD => w_list (xs := xs) (fun j H2 => Ext H1 H2 ∧ ∃ zs, H2 D = some (.lst zs) ∧ Paired (StAt K H2) zs (((states i).take j).flatMap two) ∧ zs.length = 2 * j)
      ⟨ext_upd hD, [], upd_same, .nil, rfl⟩ (fun j H2 _ h => SqL.of (h.1.lst hl)) (fun j v H2 hj hP => ?_) (fun H2 hP => ?_)⟩
    · obtain ⟨s2, zs, hz, hp2, lz⟩ := hP
      have hjl := (List.getElem?_eq_some_iff.mp hj).1
      obtain ⟨st, hsj, a, rfl, ha⟩ := paired_at hst hj
      have tk : ((states i).take (j + 1)).flatMap two = ((states i).take j).flatMap two ++ two st := by
        rw [take_snoc hsj, List.flatMap_append]
        simp
      have lst1 := (states_ok i st (List.mem_of_getElem? hsj)).1
      refine ⟨rfl, sl2, fun t ht => ⟨t, rfl, ⟨_, SqT.of upd_same⟩, w_tup (xs := [V.int 0, .int 1]) (fun k H3 => Ext H1 H3 ∧ H3 t = some (.tup [V.int 0, .int 1]) ∧ ∃ zs, H3 D = some (.lst zs) ∧ Paired (StAt K H3) zs (((states i).take j).flatMap two ++ (two st).take k) ∧ zs.length = 2 * j + k)
        ⟨s2.new ht, upd_same, zs, (ext_upd ht).lst hz, by rw [List.take_zero, List.append_nil]; exact (ext_upd ht).sts hp2, lz⟩ (fun k H3 _ h => SqT.of h.2.1) (fun k y H3 hk hP => ?_) (fun H3 hP => ?_)⟩⟩
      · obtain ⟨s3, ht3, zs, hz, hp3, lz⟩ := hP
        obtain ⟨b, hb, rfl, k2⟩ : ∃ b : Int, (two st)[k]? = some (st ++ [b]) ∧ y = .int b ∧ k < 2 := by
          match k, hk with
          | 0, hk => exact ⟨0, rfl, by simpa using hk.symm, by decide⟩
          | 1, hk => exact ⟨1, rfl, by simpa using hk.symm, by decide⟩
          | k + 2, hk => simp at hk
        refine ⟨rfl, _, rfl, _, rfl, by rw [sizeLine_eq]; simp, fun c hc => ?_⟩
        have x3 := ext_upd (o := .tup [V.int b]) hc
        refine st_cat (s := st) (z := b) (x3.tup (s3.tup ha)) upd_same (by omega) (fun v H4 s4 keepL hv => ?_)
        have hD4 := keepL D zs (x3.lst hz)
        have t4 : H4 t = some (.tup [V.int 0, .int 1]) := (x3.trans s4).at ht3
        refine ⟨zs, hD4, sl_lt (by omega), ((s3.trans x3).trans s4).own hD, ?_, zs ++ [v], upd_same, ?_, by rw [List.length_append, List.length_singleton]; omega⟩
        · rw [upd_ne (fun z => by rw [z, hD4] at t4; cases t4)]
          exact t4
        · rw [take_snoc hb, ← List.append_assoc]
          obtain ⟨a', rfl, ha'⟩ := hv
          exact paired_snoc (sts_lst hD4 ((x3.trans s4).sts hp3)) ⟨a', rfl, sqt_lst hD4 ha'⟩
      · obtain ⟨s3, _, zs, hz, hp3, lz⟩ := hP
        exact ⟨s3, zs, hz, by rw [tk]; exact hp3, by rw [lz]; simp only [List.length_cons, List.length_nil]; omega⟩
    · obtain ⟨s2, zs, hz, hp2, lz⟩ := hP
      rw [lst, ← length_states, List.take_length] at hp2
      exact ⟨D, some x, zs, rfl, s1.trans s2, s1.free hD, hz, hp2⟩
  · obtain ⟨l, x, xs, rfl, s1, nl, hl, hst⟩ := hP
    rw [List.length_map] at hst
    exact ⟨_, rfl, q l H1 xs s1 nl hl hst⟩
theorem atI_st {st : List Int} {i : Int} (h0 : 0 ≤ i) (h1 : i < st.length) : atI (st.map V.int) i = some (.int (atS st i)) := by
  obtain ⟨k, rfl⟩ := Int.eq_ofNat_of_zero_le h0
  have hk : k < st.length := by omega
  refine atI_nat (j := k) ?_
  unfold atS
  rw [List.getElem?_map, Int.toNat_natCast, List.getD_eq_getElem?_getD, List.getElem?_eq_getElem hk]
  rfl
theorem inlong {z : Int} (h : -1000 ≤ z ∧ z ≤ 1000) : InLong z := by
  unfold InLong
  omega
def spCost (T : Top K mg) : Sp := fun vs H Q _ => ∃ (p a : Addr) (fs : List Int) (es : List Eg) (st : List Int), vs = [.ref p, .ref a] ∧ SpAt T H p fs es ∧ SqT K H a (st.map V.int) ∧ st.length = fs.length ∧ bits st ∧ Tg T H ∧
  ∀ H', Ext H H' → Q (.int (costZ fs es st)) H'
theorem edgeC_bound {es : List Eg} {st : List Int} {n : Int} (h : es.length ≤ 24) (g : ∀ e ∈ es, okE n e) (i : Nat) : -216 ≤ edgeC (es.take i) st ∧ edgeC (es.take i) st ≤ 216 := by
  have hb := sum_bound (c := 9) (l := ((es.take i).filter fun e => decide (atS st e.1 ≠ atS st e.2.1)).map fun e => e.2.2) fun x m => by
    obtain ⟨e, me, rfl⟩ := List.mem_map.mp m
    obtain ⟨_, _, _, _, h1, h2⟩ := g e (List.mem_of_mem_take (List.mem_filter.mp me).1)
    exact ⟨h1, h2⟩
  have hl : (((es.take i).filter fun e => decide (atS st e.1 ≠ atS st e.2.1)).map fun e => e.2.2).length ≤ 24 := by
    rw [List.length_map]
    refine Nat.le_trans (List.length_filter_le _ _) ?_
    rw [List.length_take]
    omega
  unfold edgeC
  omega
theorem fieldC_bound {fs st : List Int} (h : goodF fs) (i : Nat) : -108 ≤ fieldC (fs.take i) (st.take i) ∧ fieldC (fs.take i) (st.take i) ≤ 108 := by
  have hb := sum_bound (c := 9) (l := (((fs.take i).zip (st.take i)).filter fun p => decide (p.2 = 1)).map fun p => p.1) fun x m => by
    obtain ⟨e, me, rfl⟩ := List.mem_map.mp m
    have := List.of_mem_zip (List.mem_filter.mp me).1
    exact h.2.2 _ (List.mem_of_mem_take this.1)
  have hl : ((((fs.take i).zip (st.take i)).filter fun p => decide (p.2 = 1)).map fun p => p.1).length ≤ 12 := by
    rw [List.length_map]
    refine Nat.le_trans (List.length_filter_le _ _) ?_
    rw [List.length_zip, List.length_take]
    have := h.2.1
    omega
  unfold fieldC
  omega
theorem ok_cost (T : Top K mg) (B : Tb T base) : FnOk P w K mg base CX0 2 T.f_cost T.d_cost ["spins", "state"] (spCost T) := by
  refine T.F_cost.ok sc_cost (fun vs H Q E h => ?_) (fun A outer s H vs Q E hr h => ?_)
  · obtain ⟨p, a, fs, es, st, rfl, _⟩ := h
    rfl
  obtain ⟨p, a, fs, es, st, rfl, hp, ha, hls, hb, G, q⟩ := h
  refine ⟨_, (pss_cons (ps_set (i := 2) sc_cost.nd rfl (by first | exact .inl rfl | exact .inr rfl) (GXP.pe_sumGx (own := [("u", 3), ("v", 4), ("j", 5)]) (g := gTup K 3 (gCons (gName 3) (gCons (gName 4) (gCons (gName 5) gNil)))) (k := 0) (c := T.c_cost) (P := T.P_cost) (by rfl) T.m_sum ⟨hr.mono (by decide), rfl, B.t_cost, rfl, rfl, blkOk_by (own := [("u", 3), ("v", 4), ("j", 5)]) (N := n_cost) (sc := defScope s_cost) (by decide +kernel), sc_cost.nd, by decide +kernel, rfl, (pi_tup (pe_fld (pv 0) rfl)), fun A s H C cl code bi fp hrA => (pg_tup rfl (pgs_cons (pg_name (i := 3) sc_cost.nd rfl (by first | exact .inl rfl | exact .inr rfl)) (pgs_cons (pg_name (i := 4) sc_cost.nd rfl (by first | exact .inl rfl | exact .inr rfl)) (pgs_cons (pg_name (i := 5) sc_cost.nd rfl (by first | exact .inl rfl | exact .inr rfl)) pgs_nil)))), fun A s H C cl code bi fp hrA => (pts_one (pt_cmpR op_ne (pe_ix (r := rIxT K) ix_tup (pv 1) (pv 3) (fun _ _ => rfl)) (pe_ix (r := rIxT K) ix_tup (pv 1) (pv 4) (fun _ _ => rfl)) (nomark _))), fun A s H C cl code bi fp hrA => (pv 5), fun _ => rfl⟩))
      (pss_one (ps_ret (pe_op op_add (pv 2) (GXP.pe_sumGx (own := [("field", 6), ("spin", 7)]) (g := gTup K 2 (gCons (gName 6) (gCons (gName 7) gNil))) (k := 0) (c := T.c_cost) (P := T.P_cost) (by rfl) T.m_sum ⟨hr.mono (by decide), rfl, B.t_cost, rfl, rfl, blkOk_by (own := [("field", 6), ("spin", 7)]) (N := n_cost) (sc := defScope s_cost) (by decide +kernel), sc_cost.nd, by decide +kernel, rfl, (RZ.pi_zipA (by rfl) T.m_zip (pa_cons (pe_fld (pv 0) rfl) (pa_cons (pv 1) pa_nil))), fun A s H C cl code bi fp hrA => (pg_tup rfl (pgs_cons (pg_name (i := 6) sc_cost.nd rfl (by first | exact .inl rfl | exact .inr rfl)) (pgs_cons (pg_name (i := 7) sc_cost.nd rfl (by first | exact .inl rfl | exact .inr rfl)) pgs_nil))), fun A s H C cl code bi fp hrA => (pts_one (pt_cmpR op_eq (pv 7) pe_int (nomark _))), fun A s H C cl code bi fp hrA => (pv 6), fun _ => rfl⟩))))), ?_⟩
  have hpl := hp
  obtain ⟨gf, ge, dx, fb, eb, ys, h1, h2, h3, h4⟩ := hp
  have hl4 := h4.length
  refine ⟨_, rfl, p, T.C_Spins, dx, _, .ref eb, rfl, h1, T.cl_Spins, T.na_Spins_edges, rfl, eb, rfl, ⟨_, h3⟩, G.t_cost, fun H2 t2 => ?_⟩
  have x2 : Ext H H2 := ext_tabbed G.t_cost t2
  refine gx_tup (xs := ys) (fun i zs H3 => Ext H2 H3 ∧ zs = (((es.take i).filter fun e => decide (atS st e.1 ≠ atS st e.2.1)).map fun e => e.2.2).map V.int) ⟨Ext.refl _, rfl⟩ (fun i zs H3 _ h => (x2.trans h.1).tup h3) (fun i x zs H3 hi hP => ?_) (fun zs H3 hP => ?_)
  · obtain ⟨s3, rfl⟩ := hP
    obtain ⟨⟨u, v, j⟩, hei, a1, rfl, g1⟩ := paired_at h4 hi
    have hm := List.mem_of_getElem? hei
    obtain ⟨k1, k2, k3, k4, k5, k6⟩ := ge.2.1 _ hm
    have k1 : 0 ≤ u := k1
    have k2 : u < v := k2
    have k3 : v < fs.length := k3
    have k5 : -9 ≤ j := k5
    have k6 : j ≤ 9 := k6
    have s03 := x2.trans s3
    have hbd := edgeC_bound (st := st) ge.1 ge.2.1 i
    unfold edgeC at hbd
    refine ⟨a1, _, rfl, s03.tup g1, rfl, _, _, rfl, _, _, rfl, _, _, rfl, rfl, ?_⟩
    refine ⟨rfl, _, rfl, _, rfl, a, _, u, _, rfl, rfl, s03.tup ha, atI_st k1 (by rw [hls]; omega), _, rfl, _, rfl, a, _, v, _, rfl, rfl, s03.tup ha, atI_st (by omega) (by rw [hls]; exact k3), rfl, _, rfl, iteB (fun z => ?_) (fun z => ?_)⟩
    · have hne : atS st u ≠ atS st v := fun e => by
        rw [e] at z
        simp at z
      refine ⟨_, rfl, j, rfl, inlong (by omega), inlong (by rw [sumV_ints]; omega), s3, ?_⟩
      rw [take_snoc hei, List.filter_append, List.filter_cons_of_pos (by simpa using hne), List.filter_nil, List.map_append, List.map_append]
      rfl
    · have hne : ¬ atS st u ≠ atS st v := fun e => by
        rw [decide_eq_false (fun w => e (V.int.inj w))] at z
        cases z
      refine ⟨s3, ?_⟩
      rw [take_snoc hei, List.filter_append, List.filter_cons_of_neg (by simpa using hne), List.filter_nil, List.append_nil]
  · obtain ⟨s3, rfl⟩ := hP
    rw [hl4, List.take_length]
    have s03 := x2.trans s3
    have G3 := G.ext s03
    refine ⟨_, rfl, _, rfl, p, T.C_Spins, dx, _, .ref fb, rfl, s03.keep p _ h1 (fun _ z => by cases z), T.cl_Spins, T.na_Spins_fields, rfl, _, rfl, fb, a, _, _, rfl, .inr ⟨s03.tup h2, s03.tup ha, G3.t_cost, fun H4 t4 => ?_⟩⟩
    have x4 : Ext H3 H4 := ext_tabbed G3.t_cost t4
    have s04 := s03.trans x4
    refine gx_zipT (by rw [List.length_map, List.length_map, hls]) (fun i zs H5 => Ext H4 H5 ∧ zs = ((((fs.take i).zip (st.take i)).filter fun p => decide (p.2 = 1)).map fun p => p.1).map V.int) ⟨Ext.refl _, rfl⟩ (fun i zs H5 h => ⟨(s04.trans h.1).tup h2, (s04.trans h.1).tup ha⟩) (fun i x y T' zs H5 hx hy hP hT => ?_) (fun zs H5 hP => ?_)
    · obtain ⟨s5, rfl⟩ := hP
      rw [List.getElem?_map] at hx hy
      cases hf : fs[i]? with
      | none => rw [hf] at hx; cases hx
      | some f =>
        cases hs : st[i]? with
        | none => rw [hs] at hy; cases hy
        | some b =>
          rw [hf] at hx
          rw [hs] at hy
          cases hx
          cases hy
          have hbd := fieldC_bound (st := st) gf i
          unfold fieldC at hbd
          have gf1 := gf.2.2 f (List.mem_of_getElem? hf)
          have zz : (fs.take (i + 1)).zip (st.take (i + 1)) = (fs.take i).zip (st.take i) ++ [(f, b)] := by
            rw [take_snoc hf, take_snoc hs, List.zip_append (by rw [List.length_take, List.length_take, hls])]
            rfl
          refine ⟨T', _, rfl, SqT.of upd_same, rfl, _, _, rfl, _, _, rfl, rfl, ?_⟩
          refine ⟨rfl, _, rfl, rfl, _, rfl, iteB (fun z => ?_) (fun z => ?_)⟩
          · have hb1 : b = 1 := V.int.inj (of_decide_eq_true z)
            refine ⟨_, rfl, f, rfl, inlong (by omega), inlong (by rw [sumV_ints]; omega), s5.new hT, ?_⟩
            rw [zz, List.filter_append, List.filter_cons_of_pos (by simpa using hb1), List.filter_nil, List.map_append, List.map_append]
            rfl
          · have hb1 : ¬ b = 1 := fun e => by
              rw [e] at z
              simp at z
            refine ⟨s5.new hT, ?_⟩
            rw [zz, List.filter_append, List.filter_cons_of_neg (by simpa using hb1), List.filter_nil, List.append_nil]
    · obtain ⟨s5, rfl⟩ := hP
      refine ⟨_, _, rfl, rfl, ?_⟩
      rw [sumV_ints, sumV_ints, List.length_map, List.take_length, hls, List.take_length]
      exact q H5 (s04.trans s5)
def spUps (K : PySem.W.Frag) : Sp := fun vs H Q _ => ∃ (a : Addr) (st : List Int), vs = [.ref a] ∧ SqT K H a (st.map V.int) ∧ Q (.int st.sum) H
theorem ok_ups (T : Top K mg) : FnOk P w K mg base CX0 1 T.f_ups T.d_ups ["state"] (spUps K) := by
  refine T.F_ups.ok sc_ups (fun vs H Q E h => ?_) (fun cdv A outer s H vs Q E hr h => ?_)
  · obtain ⟨a, st, rfl, _⟩ := h
    rfl
  obtain ⟨a, st, rfl, ha, q⟩ := h
  exact ⟨_, (pss_one (ps_ret (pe_callB (cr_sumT rfl) (by rfl) T.m_sum (by decide +kernel) (pa_cons (pv 0) pa_nil)))), _, rfl, a, st, rfl, ha, q⟩
def spLStates (K : PySem.W.Frag) : Sp := fun vs H Q _ => ∃ n : Nat, vs = [.int (n : Int)] ∧ n ≤ 8 ∧ ∀ l H' xs, Ext H H' → H l = none → H' l = some (.lst xs) → Paired (StAt K H') xs (states n) → Q (.ref l) H'
theorem ok_law_states (T : Top K mg) : FnOk P w K mg base CX0 1 T.f_law_states T.d_law_states ["count"] (spLStates K) := by
  refine T.F_law_states.ok sc_law_states (fun vs H Q E h => ?_) (fun cdv A outer s H vs Q E hr h => ?_)
  · obtain ⟨n, rfl, _⟩ := h
    rfl
  obtain ⟨n, rfl, l8, q⟩ := h
  refine ⟨_, (pss_cons (ps_set (i := 1) sc_law_states.nd rfl (by first | exact .inl rfl | exact .inr rfl) (pe_lst (pa_cons (pe_tup pa_nil) pa_nil)))
      (pss_cons (ps_for PassesOwn.never rfl (pi_range1 (by rfl) T.m_range (pa_cons (pv 0) pa_nil)) (pg_name (i := 2) sc_law_states.nd rfl (by first | exact .inl rfl | exact .inr rfl)) (pss_cons (ps_set (i := 3) sc_law_states.nd rfl (by first | exact .inl rfl | exact .inr rfl) (pe_lst pa_nil))
      (pss_cons (ps_for PassesOwn.never rfl (pi_list (pv 1)) (pg_name (i := 4) sc_law_states.nd rfl (by first | exact .inl rfl | exact .inr rfl)) (pss_one (ps_aug (i := 3) sc_law_states.nd rfl (by first | exact .inl rfl | exact .inr rfl) (pe_lst (pa_cons (pe_op op_catA (pv 4) (pe_tup (pa_cons pe_int pa_nil))) (pa_cons (pe_op op_catA (pv 4) (pe_tup (pa_cons pe_int pa_nil))) pa_nil))) iop_ext)))
      (pss_one (ps_set (i := 1) sc_law_states.nd rfl (by first | exact .inl rfl | exact .inr rfl) (pv 3))))))
      (pss_one (ps_ret (pv 1))))), ?_⟩
  refine ⟨by rw [sizeLine_eq]; simp, fun e0 he0 => ⟨by rw [sizeLine_eq]; simp, fun l0 hl0 => ?_⟩⟩
  have x0 : Ext H (upd (upd H e0 (.tup [])) l0 (.lst [V.ref e0])) := (ext_upd he0).new hl0
  refine ⟨_, rfl, _, rfl, by omega, by omega, for_range (n := n) (fun i σ H1 => ∃ l x y z xs, σ = [some (.int (n : Int)), some (.ref l), x, y, z] ∧ Ext H H1 ∧ H l = none ∧ H1 l = some (.lst xs) ∧ Paired (StAt K H1) xs (states i))
    ⟨l0, none, none, none, [.ref e0], rfl, x0, (ext_upd he0).free hl0, upd_same, .cons ⟨e0, rfl, SqT.of ((ext_upd hl0).at upd_same)⟩ .nil⟩ (fun i σ H1 hi hP => ?_) (fun σ H1 hP => ?_)⟩
  · obtain ⟨l, x1, y1, z1, xs, rfl, s1, nl, hl, hst⟩ := hP
    have lst := hst.length
    rw [length_states] at lst
    have c256 : xs.length ≤ 256 := by rw [lst]; exact pow8 (by omega)
    refine ⟨by rw [sizeLine_eq]; simp, fun D hD => ?_⟩
    refine ⟨_, rfl, l, rfl, ⟨_, SqL.of ((ext_upd hD).lst hl)⟩, for_list (xs := xs) (fun j σ H2 => ∃ z zs, σ = [some (.int (n : Int)), some (.ref l), some (.int (0 + (i : Int))), some (.ref D), z] ∧ Ext H1 H2 ∧ H2 D = some (.lst zs) ∧ Paired (StAt K H2) zs (((states i).take j).flatMap two) ∧ zs.length = 2 * j)
      ⟨z1, [], rfl, ext_upd hD, upd_same, .nil, rfl⟩ (fun j σ H2 _ ⟨z, zs, h⟩ => SqL.of (h.2.1.lst hl)) (fun j v σ H2 hj hP => ?_) (fun σ H2 hP => ?_)⟩
    · obtain ⟨z2, zs, rfl, s2, hz, hp2, lz⟩ := hP
      have hjl := (List.getElem?_eq_some_iff.mp hj).1
      obtain ⟨st, hsj, a, rfl, ha⟩ := paired_at hst hj
      have tk : ((states i).take (j + 1)).flatMap two = ((states i).take j).flatMap two ++ two st := by
        rw [take_snoc hsj, List.flatMap_append]
        simp
      have lst1 := (states_ok i st (List.mem_of_getElem? hsj)).1
      refine ⟨_, rfl, _, rfl, by rw [sizeLine_eq]; simp, fun c hc => ?_⟩
      have x3 := ext_upd (o := .tup [V.int 0]) hc
      refine st_cat (s := st) (z := 0) (x3.tup (s2.tup ha)) upd_same (by omega) (fun v3 H3 s3 keep3 hv3 => ?_)
      have s23 := x3.trans s3
      refine ⟨_, rfl, by rw [sizeLine_eq]; simp, fun c2 hc2 => ?_⟩
      have x4 := ext_upd (o := .tup [V.int 1]) hc2
      refine st_cat (s := st) (z := 1) (x4.tup (s23.tup (s2.tup ha))) upd_same (by omega) (fun v4 H4 s4 keep4 hv4 => ?_)
      have s24 := s23.trans (x4.trans s4)
      refine ⟨by rw [sizeLine_eq]; simp, fun e he => ?_⟩
      have x5 := ext_upd (o := .lst [v3, v4]) he
      have hD5 := x5.lst (s24.lst hz)
      obtain ⟨a3, rfl, h3⟩ := hv3
      obtain ⟨a4, rfl, h4⟩ := hv4
      refine ⟨D, e, zs, [.ref a3, .ref a4], rfl, rfl, hD5, upd_same, sl_of (by simp only [List.length_append, List.length_cons, List.length_nil]; omega), ?_⟩
      refine ⟨_, _, rfl, ((s2.trans s24).trans x5).own hD, upd_same, ?_, ?_⟩
      · rw [tk]
        refine sts_lst hD5 (paired_app ((s24.trans x5).sts hp2) (.cons ⟨a3, rfl, ?_⟩ (.cons ⟨a4, rfl, ?_⟩ .nil)))
        · exact x5.tup ((x4.trans s4).tup h3)
        · exact x5.tup h4
      · simp only [List.length_append, List.length_cons, List.length_nil]
        omega
    · obtain ⟨z2, zs, rfl, s2, hz, hp2, lz⟩ := hP
      rw [lst, ← length_states, List.take_length] at hp2
      exact ⟨_, rfl, D, _, _, _, zs, rfl, s1.trans s2, s1.free hD, hz, hp2⟩
  · obtain ⟨l, x1, y1, z1, xs, rfl, s1, nl, hl, hst⟩ := hP
    exact ⟨_, rfl, q l H1 xs s1 nl hl hst⟩
def spLCost (K : PySem.W.Frag) : Sp := fun vs H Q _ => ∃ (fa ea a : Addr) (fs : List Int) (xs : List V) (es : List Eg) (st : List Int), vs = [.ref fa, .ref ea, .ref a] ∧ SqL K H fa (fs.map V.int) ∧ SqL K H ea xs ∧ Paired (EdgeAt K H) xs es ∧ SqT K H a (st.map V.int) ∧ st.length = fs.length ∧ bits st ∧ goodF fs ∧ goodE fs.length es ∧
  Q (.int (costZ fs es st)) H
theorem ok_law_cost (T : Top K mg) : FnOk P w K mg base CX0 1 T.f_law_cost T.d_law_cost ["fields", "edges", "state"] (spLCost K) := by
  refine T.F_law_cost.ok sc_law_cost (fun vs H Q E h => ?_) (fun cdv A outer s H vs Q E hr h => ?_)
  · obtain ⟨fa, ea, a, fs, xs, es, st, rfl, _⟩ := h
    rfl
  obtain ⟨fa, ea, a, fs, xs, es, st, rfl, hf, he, hes, ha, hls, hb, gf, ge, q⟩ := h
  have f12 := gf.2.1
  refine ⟨_, (pss_cons (ps_set (i := 3) sc_law_cost.nd rfl (by first | exact .inl rfl | exact .inr rfl) pe_int)
      (pss_cons (ps_for PassesOwn.never rfl (pi_range1 (by rfl) T.m_range (pa_cons (pe_callB call_len_seq (by rfl) T.m_len (by decide +kernel) (pa_cons (pv 0) pa_nil)) pa_nil)) (pg_name (i := 4) sc_law_cost.nd rfl (by first | exact .inl rfl | exact .inr rfl)) (pss_one (ps_aug (i := 3) sc_law_cost.nd rfl (by first | exact .inl rfl | exact .inr rfl) (pe_op op_mul (pe_ix ix_list (pv 0) (pv 4) (fun _ _ => rfl)) (pe_ix ix_tup (pv 2) (pv 4) (fun _ _ => rfl))) ip_add)))
      (pss_cons (ps_for PassesOwn.never rfl (pi_list (pv 1)) (pg_tup rfl (pgs_cons (pg_name (i := 5) sc_law_cost.nd rfl (by first | exact .inl rfl | exact .inr rfl)) (pgs_cons (pg_name (i := 6) sc_law_cost.nd rfl (by first | exact .inl rfl | exact .inr rfl)) (pgs_cons (pg_name (i := 7) sc_law_cost.nd rfl (by first | exact .inl rfl | exact .inr rfl)) pgs_nil)))) (pss_one (ps_if (pt_cmpR op_ne (pe_ix ix_tup (pv 2) (pv 5) (fun _ _ => rfl)) (pe_ix ix_tup (pv 2) (pv 6) (fun _ _ => rfl)) (nomark _)) (pss_one (ps_aug (i := 3) sc_law_cost.nd rfl (by first | exact .inl rfl | exact .inr rfl) (pv 7) ip_add)) pss_nil)))
      (pss_one (ps_ret (pv 3)))))), ?_⟩
  have hl4 := hes.length
  refine ⟨_, rfl, fa, _, rfl, .inl hf, _, rfl, by rw [List.length_map]; omega, by rw [List.length_map]; omega, for_range (n := (fs.map V.int).length) (fun i σ H1 => H1 = H ∧ ∃ x, σ = [some (.ref fa), some (.ref ea), some (.ref a), some (.int (dotC (fs.take i) (st.take i))), x, none, none, none])
    ⟨rfl, none, rfl⟩ (fun i σ H1 hi hP => ?_) (fun σ H1 hP => ?_)⟩
  · obtain ⟨rfl, x, rfl⟩ := hP
    rw [List.length_map] at hi
    have i0 : (0 : Int) + (i : Int) = (i : Int) := Int.zero_add _
    refine ⟨_, rfl, _, rfl, _, rfl, fa, _, _, _, rfl, rfl, hf, (by rw [i0]; exact atI_nat (j := i) (by rw [List.getElem?_map, List.getElem?_eq_getElem hi]; rfl)), _, rfl, _, rfl, a, _, _, _, rfl, rfl, ha, (by rw [i0]; exact atI_nat (j := i) (by rw [List.getElem?_map, List.getElem?_eq_getElem (show i < st.length by omega)]; rfl)), ?_⟩
    have m1 := gf.2.2 _ (List.getElem_mem hi)
    refine ⟨_, _, rfl, rfl, .inl ⟨by omega, by omega⟩, _, _, rfl, rfl, rfl, some (.int (0 + (i : Int))), ?_⟩
    rw [dot_snoc (List.getElem?_eq_getElem hi) (List.getElem?_eq_getElem (show i < st.length by omega))]
    rfl
  · obtain ⟨rfl, x, rfl⟩ := hP
    rw [List.length_map, List.take_length, ← hls, List.take_length, dot_field hb]
    refine ⟨_, rfl, ea, rfl, ⟨_, he⟩, for_list (xs := xs) (fun i σ H2 => H2 = H1 ∧ ∃ y u v j, σ = [some (.ref fa), some (.ref ea), some (.ref a), some (.int (fieldC fs st + edgeC (es.take i) st)), y, u, v, j])
      ⟨rfl, x, none, none, none, ?_⟩ (fun i σ H2 _ h => by rw [h.1]; exact he) (fun i x' σ H2 hi hP => ?_) (fun σ H2 hP => ?_)⟩
    · rw [List.take_zero, show edgeC [] st = 0 from rfl, Int.add_zero]
    · obtain ⟨rfl, y, u1, v1, j1, rfl⟩ := hP
      obtain ⟨⟨u, v, j⟩, hei, a1, rfl, g1⟩ := paired_at hes hi
      have hm := List.mem_of_getElem? hei
      obtain ⟨k1, k2, k3, k4, k5, k6⟩ := ge.2.1 _ hm
      have k1 : 0 ≤ u := k1
      have k2 : u < v := k2
      have k3 : v < fs.length := k3
      refine ⟨a1, _, rfl, g1, rfl, _, _, rfl, _, _, rfl, _, _, rfl, rfl, ?_⟩
      refine ⟨_, rfl, _, rfl, a, _, u, _, rfl, rfl, ha, atI_st k1 (by rw [hls]; omega), _, rfl, _, rfl, a, _, v, _, rfl, rfl, ha, atI_st (by omega) (by rw [hls]; exact k3), rfl, _, rfl, iteB (fun z => ?_) (fun z => ?_)⟩
      · have hne : atS st u ≠ atS st v := fun e => by
          rw [e] at z
          simp at z
        refine ⟨_, rfl, _, rfl, _, _, rfl, rfl, rfl, y, some (.int u), some (.int v), some (.int j), ?_⟩
        have : edgeC (es.take (i + 1)) st = edgeC (es.take i) st + j := by
          unfold edgeC
          rw [take_snoc hei, List.filter_append, List.filter_cons_of_pos (by simpa using hne), List.filter_nil, List.map_append, List.sum_append]
          simp
        rw [this, ← Int.add_assoc]
        rfl
      · have hne : ¬ atS st u ≠ atS st v := fun e => by
          rw [decide_eq_false (fun w => e (V.int.inj w))] at z
          cases z
        refine ⟨rfl, y, some (.int u), some (.int v), some (.int j), ?_⟩
        have : edgeC (es.take (i + 1)) st = edgeC (es.take i) st := by
          unfold edgeC
          rw [take_snoc hei, List.filter_append, List.filter_cons_of_neg (by simpa using hne), List.filter_nil, List.append_nil]
        rw [this]
        rfl
    · obtain ⟨rfl, y, u1, v1, j1, rfl⟩ := hP
      rw [hl4, List.take_length]
      have : fieldC fs st + edgeC es st = costZ fs es st := Int.add_comm _ _
      rw [this]
      exact ⟨_, rfl, q⟩
open K04
def spCmp (K : PySem.W.Frag) : Sp := fun vs H Q _ => ∃ (a b : Addr) (p q : Int × Int), vs = [.ref a, .ref b] ∧ Fr K H a p ∧ Fr K H b q ∧ mid p.1 ∧ mid p.2 ∧ mid q.1 ∧ mid q.2 ∧
  Q (.int (if p.1 * q.2 < q.1 * p.2 then -1 else if q.1 * p.2 < p.1 * q.2 then 1 else 0)) H
theorem ok_compare (T : Top K mg) : FnOk P w K mg base CX0 1 T.f_compare T.d_compare ["a", "b"] (spCmp K) := by
  refine T.F_compare.ok sc_compare (fun vs H Q E h => ?_) (fun cdv A outer s H vs Q E hr h => ?_)
  · obtain ⟨a, b, p, q, rfl, _⟩ := h
    rfl
  · obtain ⟨a, b, p, q, rfl, hp, hq, m1, m2, m3, m4, k⟩ := h
    refine ⟨_, (pss_cons (ps_set (i := 2) sc_compare.nd rfl (by first | exact .inl rfl | exact .inr rfl) (pe_op op_mulW (pe_ix ix_tup (pv 0) pe_int (fun _ _ => rfl)) (pe_ix ix_tup (pv 1) pe_int (fun _ _ => rfl))))
      (pss_cons (ps_set (i := 3) sc_compare.nd rfl (by first | exact .inl rfl | exact .inr rfl) (pe_op op_mulW (pe_ix ix_tup (pv 1) pe_int (fun _ _ => rfl)) (pe_ix ix_tup (pv 0) pe_int (fun _ _ => rfl))))
      (pss_cons (ps_if (pt_cmpR op_lt (pv 2) (pv 3) (nomark _)) (pss_one (ps_ret (pe_un un_neg pe_int))) pss_nil)
      (pss_cons (ps_if (pt_cmpR op_gt (pv 2) (pv 3) (nomark _)) (pss_one (ps_ret pe_int)) pss_nil)
      (pss_one (ps_ret pe_int)))))), ?_⟩
    refine ⟨_, rfl, a, _, _, _, rfl, rfl, hp, atI_nat (j := 0) rfl, _, rfl, b, _, _, _, rfl, rfl, hq, atI_nat (j := 1) rfl, _, _, rfl, rfl, mid_mul m1 m4, ?_⟩
    refine ⟨_, rfl, b, _, _, _, rfl, rfl, hq, atI_nat (j := 0) rfl, _, rfl, a, _, _, _, rfl, rfl, hp, atI_nat (j := 1) rfl, _, _, rfl, rfl, mid_mul m3 m2, ?_⟩
    refine ⟨_, rfl, _, rfl, _, _, rfl, rfl, _, rfl, ite2 (fun e => ?_) (fun e => ?_)⟩
    · rw [if_pos (of_decide_eq_true e)] at k
      exact ⟨_, rfl, k⟩
    · rw [if_neg (fun z => e (decide_eq_true z))] at k
      refine ⟨_, rfl, _, rfl, _, _, rfl, rfl, _, rfl, ite2 (fun e => ?_) (fun e => ?_)⟩
      · rw [if_pos (of_decide_eq_true e)] at k
        exact k
      · rw [if_neg (fun z => e (decide_eq_true z))] at k
        exact k
/-- the power of (n / d) by an exponent that is not negative -/
def spRep (K : PySem.W.Frag) (fM : Addr) : Sp := fun vs H Q _ => ∃ (a o : Addr) (n d : Int) (k : Nat), vs = [.ref a, .int (k : Int), .ref o, .ref fM] ∧ d ≠ 0 ∧ n.natAbs < 2 ^ 12 ∧ d.natAbs < 2 ^ 12 ∧ k ≤ 64 ∧ Fr K H a (F n d) ∧ Fr K H o (1, 1) ∧
  ∀ p H', Same H H' → Fr K H' p (pwF n d k) → Q (.ref p) H'
theorem pw_mid {n d : Int} (h : d ≠ 0) (hn : n.natAbs < 2 ^ 12) (hd : d.natAbs < 2 ^ 12) {k : Nat} (hk : k ≤ 64) : mid (pwF n d k).1 ∧ mid (pwF n d k).2 ∧ (pwF n d k).2 ≠ 0 := by
  have e : 12 * k + 1 ≤ 1900 := by omega
  exact ⟨Nat.lt_of_lt_of_le (pwF_lt1 h hn k) (Nat.pow_le_pow_right (by decide) e), Nat.lt_of_lt_of_le (pwF_lt2 h hd k) (Nat.pow_le_pow_right (by decide) e), Int.ne_of_gt (F_pos _ (pow_ne h k))⟩
theorem bit1 (k : Nat) : Builtin.bitAnd (k : Int) 1 = ((k % 2 : Nat) : Int) := by
  have h := PySem.W.kbt_mask (k : Int) 1
  have e : (2 : Int) ^ 1 - 1 = 1 := by decide
  rw [e] at h
  rw [h]
  have e2 : (2 : Int) ^ 1 = 2 := by decide
  rw [e2]
  omega
theorem ok_repeated (T : Top K mg) : FnOk P w K mg base CX0 3 T.f_repeated T.d_repeated ["base", "exponent", "one", "combine"] (spRep K T.f_multiply) := by
  refine T.F_repeated.ok sc_repeated (fun vs H Q E h => ?_) (fun cdv A outer s H vs Q E hr h => ?_)
  · obtain ⟨a, o, n, d, k, rfl, _⟩ := h
    rfl
  · obtain ⟨a, o, n, d, k, rfl, hd, n60, d60, hk, ha, ho, q⟩ := h
    refine ⟨_, (pss_cons (ps_set (i := 4) sc_repeated.nd rfl (by first | exact .inl rfl | exact .inr rfl) (pv 2))
      (pss_cons (ps_set (i := 5) sc_repeated.nd rfl (by first | exact .inl rfl | exact .inr rfl) (pv 0))
      (pss_cons (ps_set (i := 6) sc_repeated.nd rfl (by first | exact .inl rfl | exact .inr rfl) (pv 1))
      (pss_cons (ps_while PassesOwn.never (pt_cmpR op_gt (pv 6) pe_int (nomark _)) (C8.pss_cut (ps_if (pt_truth (pe_op op_and (pv 6) pe_int) (by intro _; rfl)) (pss_one (ps_set (i := 4) sc_repeated.nd rfl (by first | exact .inl rfl | exact .inr rfl) (pe_callL (i := 3) (ok_multiply T) (hr.mono (by decide)) rfl (Or.inl rfl) T.F_multiply.kp T.b_multiply .nil pass0 (pa_cons (pv 4) (pa_cons (pv 5) pa_nil))))) pss_nil)
      (pss_cons (ps_aug (i := 6) sc_repeated.nd rfl (by first | exact .inl rfl | exact .inr rfl) pe_int iop_shr)
      (pss_one (ps_if (pt_cmpR op_gt (pv 6) pe_int (nomark _)) (pss_one (ps_set (i := 5) sc_repeated.nd rfl (by first | exact .inl rfl | exact .inr rfl) (pe_callL (i := 3) (ok_multiply T) (hr.mono (by decide)) rfl (Or.inl rfl) T.F_multiply.kp T.b_multiply .nil pass0 (pa_cons (pv 5) (pa_cons (pv 5) pa_nil))))) pss_nil)))))
      (pss_one (ps_ret (pv 4))))))), ?_⟩
    refine ⟨_, rfl, _, rfl, _, rfl, ?_⟩
    -- while left > 0
    refine while_by (fun σ H1 => ∃ (r u : Addr) (i j l : Nat), σ = [some (.ref a), some (.int (k : Int)), some (.ref o), some (.ref T.f_multiply), some (.ref r), some (.ref u), some (.int (l : Int))] ∧ Same H H1 ∧
        Fr K H1 r (pwF n d i) ∧ Fr K H1 u (pwF n d j) ∧ i + j * l = k) (fun σ _ => match σ with | [_, _, _, _, _, _, some (.int l)] => l.toNat | _ => 0)
      ⟨o, a, 0, 1, k, rfl, Same.refl H, by rw [pwF_zero]; exact ho, by rw [pwF_one]; exact ha, by omega⟩ ?_ ?_
    · rintro σ H1 ⟨r, u, i, j, l, rfl, s1, hr1, hu1, e⟩
      refine ⟨_, rfl, _, _, rfl, rfl, _, rfl, ite2 (fun el => ?_) (fun el => ?_)⟩
      · have el : 0 < l := by
          have := of_decide_eq_true el
          omega
        have hi : i ≤ 64 := by omega
        have hj : j ≤ 64 := by
          have : j * 1 ≤ j * l := Nat.mul_le_mul_left j el
          omega
        obtain ⟨m1, m2, m3⟩ := pw_mid hd n60 d60 hi
        obtain ⟨m4, m5, m6⟩ := pw_mid hd n60 d60 hj
        have hmod : l = l % 2 + 2 * (l / 2) := by omega
        have e2 : i + j * (l % 2) + j * (2 * (l / 2)) = k := by
          rw [Nat.add_assoc, ← Nat.mul_add, ← hmod]
          exact e
        -- if left & 1
        refine ⟨fun σ' H' => ∃ (r' : Addr), σ' = [some (.ref a), some (.int (k : Int)), some (.ref o), some (.ref T.f_multiply), some (.ref r'), some (.ref u), some (.int (l : Int))] ∧ Same H H' ∧ Fr K H' r' (pwF n d (i + j * (l % 2))) ∧ Fr K H' u (pwF n d j), ?_, ?_⟩
        · refine ⟨_, rfl, _, _, rfl, rfl, _, rfl, ?_⟩
          rw [bit1]
          refine iteB (fun eb => ?_) (fun eb => ?_)
          · have hb : l % 2 = 1 := by
              have : ¬ ((l % 2 : Nat) : Int) = 0 := by simpa using eb
              omega
            refine ⟨rfl, _, rfl, _, rfl, r, u, _, _, rfl, hr1, hu1, ⟨m1, m2, m4, m5, m3, m6⟩, fun p H' sp np hp => ?_⟩
            refine ⟨p, rfl, s1.trans sp, ?_, sp.fr hu1⟩
            rw [pwF_mul hd] at hp
            rw [hb, Nat.mul_one]
            exact SqT.of hp
          · have hb : l % 2 = 0 := by
              have : ((l % 2 : Nat) : Int) = 0 := by simpa using eb
              omega
            refine ⟨r, rfl, s1, ?_, hu1⟩
            rw [hb, Nat.mul_zero, Nat.add_zero]
            exact hr1
        · rintro σ' H' ⟨r', rfl, s2, hr2, hu2⟩
          -- left >>= 1
          refine ⟨_, rfl, _, _, rfl, rfl, (by show (0 : Int) ≤ 1; decide), ?_⟩
          have esh : (l : Int) / 2 ^ (1 : Int).toNat = ((l / 2 : Nat) : Int) := by
            show (l : Int) / 2 = _
            omega
          refine ⟨_, rfl, _, _, rfl, rfl, _, rfl, ite2 (fun e3 => ?_) (fun e3 => ?_)⟩
          · have e3 : 0 < l / 2 := by
              have := of_decide_eq_true e3
              rw [esh] at this
              omega
            have hjj : j + j ≤ 64 := by
              have : j * (2 * 1) ≤ j * (2 * (l / 2)) := Nat.mul_le_mul_left j (by omega)
              omega
            refine ⟨rfl, _, rfl, _, rfl, u, u, _, _, rfl, hu2, hu2, ⟨m4, m5, m4, m5, m6, m6⟩, fun p H' sp np hp => ?_⟩
            rw [pwF_mul hd] at hp
            refine ⟨⟨r', p, i + j * (l % 2), j + j, l / 2, ?_, s2.trans sp, sp.fr hr2, SqT.of hp, ?_⟩, ?_⟩
            · rw [← esh]
              rfl
            · rw [← e2, Nat.add_mul, Nat.mul_left_comm, Nat.two_mul]
            · show ((l : Int) / 2 ^ (1 : Int).toNat).toNat < (l : Int).toNat
              rw [esh]
              omega
          · have e3 : l / 2 = 0 := by
              have : ¬ (0 : Int) < (l : Int) / 2 ^ (1 : Int).toNat := fun z => e3 (decide_eq_true z)
              rw [esh] at this
              omega
            refine ⟨⟨r', u, i + j * (l % 2), j, l / 2, ?_, s2, hr2, hu2, ?_⟩, ?_⟩
            · rw [← esh]
              rfl
            · rw [← e2, e3]
            · show ((l : Int) / 2 ^ (1 : Int).toNat).toNat < (l : Int).toNat
              rw [esh]
              omega
      · have el : l = 0 := by
          have : ¬ (0 : Int) < (l : Int) := fun z => el (decide_eq_true z)
          omega
        subst el
        have : i = k := by omega
        subst this
        exact ⟨_, rfl, q r H1 s1 hr1⟩
    · rintro σ H1 Q1 Q2 hq ⟨v, hv, i, j, hi, hj, b, hb, h⟩
      exact ⟨v, hv, i, j, hi, hj, b, hb, hq _ _ h⟩
def spRaised (K : PySem.W.Frag) : Sp := fun vs H Q _ => ∃ (a : Addr) (n d : Int) (x : Int), vs = [.ref a, .int x] ∧ 0 < d ∧ n.natAbs < 2 ^ 12 ∧ d.natAbs < 2 ^ 12 ∧ x.natAbs ≤ 64 ∧ (x < 0 → n ≠ 0) ∧ Fr K H a (F n d) ∧
  ∀ p H', Same H H' → Fr K H' p (if 0 ≤ x then pwF n d x.natAbs else pwF d n x.natAbs) → Q (.ref p) H'
theorem divF_one {n d : Int} (hn : n ≠ 0) (hd : d ≠ 0) : divF (1, 1) (F n d) = F d n := by
  have h := divF_F (a := 1) (b := 1) (c := n) (d := d) (by decide) hd hn
  rw [F_one] at h
  rw [h, Int.one_mul, Int.one_mul]
theorem ok_raised (T : Top K mg) : FnOk P w K mg base CX0 4 T.f_raised T.d_raised ["a", "exponent"] (spRaised K) := by
  refine T.F_raised.ok sc_raised (fun vs H Q E h => ?_) (fun cdv A outer s H vs Q E hr h => ?_)
  · obtain ⟨a, n, d, x, rfl, _⟩ := h
    rfl
  · obtain ⟨a, n, d, x, rfl, hd, n60, d60, hx, hn, ha, q⟩ := h
    have hd0 : d ≠ 0 := Int.ne_of_gt hd
    have n1 : mid (F n d).1 := by
      have := (pw_mid hd0 n60 d60 (k := 1) (by decide)).1
      rw [pwF_one] at this
      exact this
    have n2 : mid (F n d).2 := by
      have := (pw_mid hd0 n60 d60 (k := 1) (by decide)).2.1
      rw [pwF_one] at this
      exact this
    have mone : mid 1 := Nat.lt_of_lt_of_le (show (1 : Nat) < 2 ^ 1 by decide) (Nat.pow_le_pow_right (by decide) (by decide))
    refine ⟨_, (pss_cons (ps_if (pt_cmpR op_lt (pv 1) pe_int (nomark _)) (pss_one (ps_ret (pe_call (ok_repeated T) (hr.mono (by decide)) (by rfl) T.g_repeated T.F_repeated.kp T.b_repeated .nil pass0 (pa_cons (pe_call (ok_divide T) (hr.mono (by decide)) (by rfl) T.g_divide T.F_divide.kp T.b_divide .nil pass0 (pa_cons (pe_tup (pa_cons pe_int (pa_cons pe_int pa_nil))) (pa_cons (pv 0) pa_nil))) (pa_cons (pe_un un_neg (pv 1)) (pa_cons (pe_tup (pa_cons pe_int (pa_cons pe_int pa_nil))) (pa_cons (pe_glob (v := .ref T.f_multiply) (by rfl) T.g_multiply rfl) pa_nil))))))) pss_nil)
      (pss_one (ps_ret (pe_call (ok_repeated T) (hr.mono (by decide)) (by rfl) T.g_repeated T.F_repeated.kp T.b_repeated .nil pass0 (pa_cons (pv 0) (pa_cons (pv 1) (pa_cons (pe_tup (pa_cons pe_int (pa_cons pe_int pa_nil))) (pa_cons (pe_glob (v := .ref T.f_multiply) (by rfl) T.g_multiply rfl) pa_nil)))))))), ?_⟩
    refine ⟨_, rfl, _, _, rfl, rfl, _, rfl, ite2 (fun e => ?_) (fun e => ?_)⟩
    · have e := of_decide_eq_true e
      rw [if_neg (by omega)] at q
      have hn0 := hn e
      refine ⟨sl2, fun o1 no1 => ?_⟩
      have s1 := same_upd (o := .tup [.int 1, .int 1]) no1
      refine ⟨_, rfl, o1, a, (1, 1), F n d, rfl, SqT.of upd_same, s1.fr ha, ⟨mone, mone, n1, n2, by decide, fun z => hn0 ((F_zero n hd0).mp z)⟩, fun b H2 s2 nb hb => ?_⟩
      rw [divF_one hn0 hd0] at hb
      refine ⟨_, rfl, _, rfl, sl2, fun o2 no2 => ?_⟩
      have s3 := same_upd (o := .tup [.int 1, .int 1]) no2
      refine ⟨b, o2, d, n, x.natAbs, ?_, hn0, d60, n60, hx, s3.fr (SqT.of hb), SqT.of upd_same, fun p H' s4 hp => q p H' (((s1.trans s2).trans s3).trans s4) hp⟩
      show [V.ref b, V.int (-x), V.ref o2, V.ref T.f_multiply] = _
      rw [show -x = ((x.natAbs : Nat) : Int) by omega]
    · have e : ¬ x < 0 := fun z => e (decide_eq_true z)
      rw [if_pos (by omega)] at q
      refine ⟨_, rfl, _, rfl, sl2, fun o2 no2 => ?_⟩
      have s3 := same_upd (o := .tup [.int 1, .int 1]) no2
      refine ⟨a, o2, n, d, x.natAbs, ?_, hd0, n60, d60, hx, s3.fr ha, SqT.of upd_same, fun p H' s4 hp => q p H' (s3.trans s4) hp⟩
      show [V.ref a, V.int x, V.ref o2, V.ref T.f_multiply] = _
      rw [show x = ((x.natAbs : Nat) : Int) by omega]
      rfl
theorem ok_law_pow (T : Top K mg) : FnOk P w K mg base CX0 4 T.f_law_pow T.d_law_pow ["p", "n"] (spRaised K) := by
  refine T.F_law_pow.ok sc_law_pow (fun vs H Q E h => ?_) (fun cdv A outer s H vs Q E hr h => ?_)
  · obtain ⟨a, n, d, x, rfl, _⟩ := h
    rfl
  · obtain ⟨a, n, d, x, rfl, hd, n60, d60, hx, hn, ha, q⟩ := h
    have hd0 : d ≠ 0 := Int.ne_of_gt hd
    obtain ⟨f1, f2, f3⟩ := pw_mid hd0 n60 d60 (k := 1) (by decide)
    rw [pwF_one] at f1 f2 f3
    refine ⟨_, (pss_cons (ps_set (i := 2) sc_law_pow.nd rfl (by first | exact .inl rfl | exact .inr rfl) (pe_tup (pa_cons pe_int (pa_cons pe_int pa_nil))))
      (pss_cons (ps_for PassesOwn.never rfl (pi_range1 (by rfl) T.m_range (pa_cons (pe_callB call_abs (by rfl) T.m_abs (by decide +kernel) (pa_cons (pv 1) pa_nil)) pa_nil)) (pg_name (i := 3) sc_law_pow.nd rfl (by first | exact .inl rfl | exact .inr rfl)) (pss_one (ps_set (i := 2) sc_law_pow.nd rfl (by first | exact .inl rfl | exact .inr rfl) (pe_call (ok_law_mul T) (hr.mono (by decide)) (by rfl) T.g_law_mul T.F_law_mul.kp T.b_law_mul .nil pass0 (pa_cons (pv 2) (pa_cons (pv 0) pa_nil))))))
      (pss_one (ps_ret (pe_ifExp (pt_cmpR op_ge (pv 1) pe_int (nomark _)) (pv 2) (pe_call (ok_law_frac T) (hr.mono (by decide)) (by rfl) T.g_law_frac T.F_law_frac.kp T.b_law_frac .nil pass0 (pa_cons (pe_ix ix_tup (pv 2) pe_int (fun _ _ => rfl)) (pa_cons (pe_ix ix_tup (pv 2) pe_int (fun _ _ => rfl)) pa_nil)))))))), ?_⟩
    refine ⟨sl2, fun o no => ?_⟩
    have s0 := same_upd (o := .tup [.int 1, .int 1]) no
    refine ⟨_, rfl, x, rfl, _, rfl, by split <;> omega, by split <;> omega, ?_⟩
    rw [show (if x < 0 then -x else x).toNat = x.natAbs by split <;> omega]
    refine for_range (fun i σ H1 => ∃ (r : Addr) (y : Option V), σ = [some (.ref a), some (.int x), some (.ref r), y] ∧ Same H H1 ∧ Fr K H1 r (pwF n d i)) ⟨o, none, rfl, s0, by rw [pwF_zero]; exact SqT.of upd_same⟩ ?_ ?_
    · rintro i σ H1 hi ⟨r, y, rfl, s1, hr1⟩
      obtain ⟨m1, m2, m3⟩ := pw_mid hd0 n60 d60 (k := i) (by omega)
      refine ⟨_, rfl, _, rfl, r, a, _, _, rfl, hr1, s1.fr ha, ⟨m1, m2, f1, f2, m3, f3⟩, fun p H' sp np hp => ?_⟩
      refine ⟨p, _, rfl, s1.trans sp, ?_⟩
      rw [← pwF_one, pwF_mul hd0] at hp
      exact SqT.of hp
    · rintro σ H1 ⟨r, y, rfl, s1, hr1⟩
      obtain ⟨m1, m2, m3⟩ := pw_mid hd0 n60 d60 hx
      refine ⟨_, rfl, _, _, rfl, rfl, _, rfl, ite2 (fun e => ?_) (fun e => ?_)⟩
      · have e := of_decide_eq_true e
        rw [if_pos e] at q
        exact ⟨_, rfl, q r H1 s1 hr1⟩
      · have e : ¬ 0 ≤ x := fun z => e (decide_eq_true z)
        rw [if_neg e] at q
        have hn0 : n ≠ 0 := hn (by omega)
        have hnp : n ^ x.natAbs ≠ 0 := Int.pow_ne_zero hn0
        have h1 : (pwF n d x.natAbs).1 ≠ 0 := fun z => hnp ((F_zero _ (pow_ne hd0 _)).mp z)
        have m1' : small (pwF n d x.natAbs).1 := Nat.lt_of_lt_of_le m1 (Nat.pow_le_pow_right (by decide) (by decide))
        refine ⟨_, rfl, r, _, _, _, rfl, rfl, hr1, atI_nat (j := 1) rfl, _, rfl, r, _, _, _, rfl, rfl, hr1, atI_nat (j := 0) rfl, _, _, rfl, h1, m1', fun p H' sp np hp => ?_⟩
        refine q p H' (s1.trans sp) (SqT.of ?_)
        have ef : F (pwF n d x.natAbs).2 (pwF n d x.natAbs).1 = pwF d n x.natAbs := F_flip hnp (pow_ne hd0 _)
        rw [ef] at hp
        exact hp
open K04
/-! ### powers as rational numbers -/
def rp (r : Rat) (x : Int) : Rat := if 0 ≤ x then r ^ x.natAbs else r⁻¹ ^ x.natAbs
theorem pwF_fq {n d : Int} (hd : d ≠ 0) : ∀ k : Nat, pwF n d k = fq ((Rat.divInt n d) ^ k)
  | 0 => by
    rw [pwF_zero, Rat.pow_zero]
    rfl
  | k + 1 => by
    rw [← pwF_mul hd k 1, pwF_fq hd k, pwF_one, SM.F_fq n hd, SM.mulF_fq, Rat.pow_succ]
theorem inv_divInt (r : Rat) : Rat.divInt (r.den : Int) r.num = r⁻¹ := by
  have h := Rat.inv_divInt r.num (r.den : Int)
  rw [← h]
  congr 1
  exact Rat.num_divInt_den r
/-- small fractions -/
def sm12 (r : Rat) : Prop := r.num.natAbs < 2 ^ 12 ∧ r.den < 2 ^ 12
def spRp (K : PySem.W.Frag) : Sp := fun vs H Q _ => ∃ (a : Addr) (r : Rat) (x : Int), vs = [.ref a, .int x] ∧ sm12 r ∧ x.natAbs ≤ 64 ∧ (x < 0 → r ≠ 0) ∧ Fr K H a (fq r) ∧ ∀ p H', Same H H' → Fr K H' p (fq (rp r x)) → Q (.ref p) H'
theorem rp_of (K : PySem.W.Frag) : ∀ {vs H Q E}, spRp K vs H Q E → spRaised K vs H Q E := fun {vs H Q E} ⟨a, r, x, e, ⟨h1, h2⟩, hx, hn, ha, q⟩ => by
  have hd : (0 : Int) < (r.den : Int) := by
    have := r.den_pos
    omega
  refine ⟨a, r.num, (r.den : Int), x, e, hd, h1, by rw [Int.natAbs_natCast]; exact h2, hx, fun z => SM.num_ne (hn z), by rw [SM.F_red]; exact ha, fun p H' s hp => q p H' s ?_⟩
  unfold rp
  split at hp
  · rename_i h
    rw [if_pos h]
    rw [pwF_fq (Int.ne_of_gt hd), Rat.num_divInt_den] at hp
    exact hp
  · rename_i h
    rw [if_neg h]
    rw [pwF_fq (SM.num_ne (hn (by omega))), inv_divInt] at hp
    exact hp
theorem ok_rp (T : Top K mg) : FnOk P w K mg base CX0 4 T.f_raised T.d_raised ["a", "exponent"] (spRp K) := (ok_raised T).imp fun _ _ _ _ h => rp_of K h
theorem ok_law_rp (T : Top K mg) : FnOk P w K mg base CX0 4 T.f_law_pow T.d_law_pow ["p", "n"] (spRp K) := (ok_law_pow T).imp fun _ _ _ _ h => rp_of K h
/-- compare, as rational numbers -/
def spCm (K : PySem.W.Frag) : Sp := fun vs H Q _ => ∃ (a b : Addr) (r s : Rat), vs = [.ref a, .ref b] ∧ Fr K H a (fq r) ∧ Fr K H b (fq s) ∧ Sm r ∧ Sm s ∧ Q (.int (if r < s then -1 else if s < r then 1 else 0)) H
theorem lt_fq (r s : Rat) : (fq r).1 * (fq s).2 < (fq s).1 * (fq r).2 ↔ r < s := (Rat.lt_iff r s).symm
theorem ok_cm (T : Top K mg) : FnOk P w K mg base CX0 1 T.f_compare T.d_compare ["a", "b"] (spCm K) := (ok_compare T).imp fun vs H Q E ⟨a, b, r, s, e, ha, hb, h1, h2, q⟩ => by
  refine ⟨a, b, fq r, fq s, e, ha, hb, h1.1, h1.2, h2.1, h2.2, ?_⟩
  have e1 := lt_fq r s
  have e2 := lt_fq s r
  by_cases z : r < s
  · rw [if_pos z] at q
    rw [if_pos (e1.mpr z)]
    exact q
  · rw [if_neg z] at q
    rw [if_neg (fun y => z (e1.mp y))]
    by_cases z2 : s < r
    · rw [if_pos z2] at q
      rw [if_pos (e2.mpr z2)]
      exact q
    · rw [if_neg z2] at q
      rw [if_neg (fun y => z2 (e2.mp y))]
      exact q
theorem sm_rp {r : Rat} (h : sm12 r) (n : r ≠ 0) {x : Int} (hx : x.natAbs ≤ 64) : Sm (rp r x) := by
  have hd : (r.den : Int) ≠ 0 := SM.den_ne r
  unfold rp
  split
  · have e := pwF_fq (n := r.num) hd x.natAbs
    rw [Rat.num_divInt_den] at e
    obtain ⟨m1, m2, _⟩ := pw_mid hd h.1 (by rw [Int.natAbs_natCast]; exact h.2) hx
    rw [e] at m1 m2
    exact ⟨m1, m2⟩
  · have e := pwF_fq (n := (r.den : Int)) (SM.num_ne n) x.natAbs
    rw [inv_divInt] at e
    obtain ⟨m1, m2, _⟩ := pw_mid (SM.num_ne n) (by rw [Int.natAbs_natCast]; exact h.2) h.1 hx
    rw [e] at m1 m2
    exact ⟨m1, m2⟩
/-! ### sizes of fractions, in bits -/
/-- both parts below 2 ^ b -/
def Bz (b : Nat) (r : Rat) : Prop := (fq r).1.natAbs < 2 ^ b ∧ (fq r).2.natAbs < 2 ^ b
theorem Bz.le {a b : Nat} {r : Rat} (h : Bz a r) (k : a ≤ b) : Bz b r := ⟨Nat.lt_of_lt_of_le h.1 (Nat.pow_le_pow_right (by decide) k), Nat.lt_of_lt_of_le h.2 (Nat.pow_le_pow_right (by decide) k)⟩
theorem Bz.sm {b : Nat} {r : Rat} (h : Bz b r) (k : b ≤ 1900) : Sm r := ⟨(h.le k).1, (h.le k).2⟩
theorem mul_lt2 {x y : Int} {a b : Nat} (hx : x.natAbs < 2 ^ a) (hy : y.natAbs < 2 ^ b) : (x * y).natAbs < 2 ^ (a + b) := by
  rw [Int.natAbs_mul, Nat.pow_add]
  exact Nat.mul_lt_mul'' hx hy
theorem add_lt2 {x y : Int} {a : Nat} (hx : x.natAbs < 2 ^ a) (hy : y.natAbs < 2 ^ a) : (x + y).natAbs < 2 ^ (a + 1) := by
  have := Int.natAbs_add_le x y
  rw [Nat.pow_succ]
  omega
theorem Bz.mul {a b : Nat} {r s : Rat} (h : Bz a r) (k : Bz b s) : Bz (a + b) (r * s) := by
  unfold Bz
  rw [← SM.mulF_fq]
  have hd := Int.mul_ne_zero (SM.den_ne r) (SM.den_ne s)
  exact ⟨Nat.lt_of_le_of_lt (F_le1 _ hd) (mul_lt2 h.1 k.1), Nat.lt_of_le_of_lt (F_le2 _ hd) (mul_lt2 h.2 k.2)⟩
theorem Bz.add {a b : Nat} {r s : Rat} (h : Bz a r) (k : Bz b s) : Bz (a + b + 1) (r + s) := by
  unfold Bz
  rw [← SM.addF_fq]
  have hd := Int.mul_ne_zero (SM.den_ne r) (SM.den_ne s)
  have e : b + a = a + b := Nat.add_comm _ _
  exact ⟨Nat.lt_of_le_of_lt (F_le1 _ hd) (add_lt2 (mul_lt2 h.1 k.2) (e ▸ mul_lt2 k.1 h.2)), Nat.lt_of_le_of_lt (F_le2 _ hd) (Nat.lt_of_lt_of_le (mul_lt2 h.2 k.2) (Nat.pow_le_pow_right (by decide) (Nat.le_succ _)))⟩
theorem Bz.sub {a b : Nat} {r s : Rat} (h : Bz a r) (k : Bz b s) : Bz (a + b + 1) (r - s) := by
  unfold Bz
  rw [← SM.subF_fq]
  have hd := Int.mul_ne_zero (SM.den_ne r) (SM.den_ne s)
  have e : b + a = a + b := Nat.add_comm _ _
  have hn : (-((fq s).1 * (fq r).2)).natAbs < 2 ^ (a + b) := by
    rw [Int.natAbs_neg]
    exact e ▸ mul_lt2 k.1 h.2
  refine ⟨Nat.lt_of_le_of_lt (F_le1 _ hd) ?_, Nat.lt_of_le_of_lt (F_le2 _ hd) (Nat.lt_of_lt_of_le (mul_lt2 h.2 k.2) (Nat.pow_le_pow_right (by decide) (Nat.le_succ _)))⟩
  rw [Int.sub_eq_add_neg]
  exact add_lt2 (mul_lt2 h.1 k.2) hn
theorem Bz.div {a b : Nat} {r s : Rat} (h : Bz a r) (k : Bz b s) (n : s ≠ 0) : Bz (a + b) (r / s) := by
  unfold Bz
  rw [← SM.divF_fq r n]
  have hd := Int.mul_ne_zero (SM.den_ne r) (SM.num_ne n)
  exact ⟨Nat.lt_of_le_of_lt (F_le1 _ hd) (mul_lt2 h.1 k.2), Nat.lt_of_le_of_lt (F_le2 _ hd) (mul_lt2 h.2 k.1)⟩
/-- a power: b bits, exponent up to e -/
theorem Bz.rp {b e : Nat} {r : Rat} (h : Bz b r) (n : r ≠ 0) {x : Int} (hx : x.natAbs ≤ e) : Bz (b * e + 1) (rp r x) := by
  have hd : (r.den : Int) ≠ 0 := SM.den_ne r
  have le : b * x.natAbs + 1 ≤ b * e + 1 := Nat.succ_le_succ (Nat.mul_le_mul_left b hx)
  have up : ∀ {z : Nat}, z < 2 ^ (b * x.natAbs + 1) → z < 2 ^ (b * e + 1) := fun hz => Nat.lt_of_lt_of_le hz (Nat.pow_le_pow_right (by decide) le)
  have h1 : r.num.natAbs < 2 ^ b := h.1
  have h2 : (r.den : Int).natAbs < 2 ^ b := h.2
  unfold KP.rp
  split
  · have e1 := pwF_fq (n := r.num) hd x.natAbs
    rw [Rat.num_divInt_den] at e1
    unfold Bz
    rw [← e1]
    exact ⟨up (pwF_lt1 hd h1 _), up (pwF_lt2 hd h2 _)⟩
  · have e1 := pwF_fq (n := (r.den : Int)) (SM.num_ne n) x.natAbs
    rw [inv_divInt] at e1
    unfold Bz
    rw [← e1]
    exact ⟨up (pwF_lt1 (SM.num_ne n) h2 _), up (pwF_lt2 (SM.num_ne n) h1 _)⟩
def spAbove (T : Top K mg) : Sp := fun vs H Q E => ∃ (a b : Addr) (x y : Rat), vs = [.ref a, .ref b] ∧ Fr K H a (fq x) ∧ Fr K H b (fq y) ∧ Sm x ∧ Sm y ∧
  (0 < x → 0 < y → ∀ H', Ext H H' → Q .non H') ∧ (¬ (0 < x ∧ 0 < y) → ∀ H', Ext H H' → E (.ref T.f_InvalidWeight) none H')
theorem ok_check_above_zero (T : Top K mg) : FnOk P w K mg base (L2.CX P w) 2 T.f_check_above_zero T.d_check_above_zero ["x", "y"] (spAbove T) := by
  refine T.F_check_above_zero.okX sc_check_above_zero (fun vs H Q E h => ?_) (fun cdv A outer s H vs Q E hr h => ?_)
  · obtain ⟨a, b, x, y, rfl, _⟩ := h
    rfl
  obtain ⟨a, b, x, y, rfl, ha, hb, sx, sy, q1, q2⟩ := h
  refine ⟨_, (pss_one (ps_if (PW.pt (pw_or (pt_cmpR op_le (pe_call (ok_cm T) (hr.mono (by decide)) (by rfl) T.g_compare T.F_compare.kp T.b_compare .nil pass0 (pa_cons (pv 0) (pa_cons (pe_tup (pa_cons pe_int (pa_cons pe_int pa_nil))) pa_nil))) pe_int (nomark _)) (pw_or1 (pt_cmpR op_le (pe_call (ok_cm T) (hr.mono (by decide)) (by rfl) T.g_compare T.F_compare.kp T.b_compare .nil pass0 (pa_cons (pv 1) (pa_cons (pe_tup (pa_cons pe_int (pa_cons pe_int pa_nil))) pa_nil))) pe_int (nomark _))))) (pss_one (ps_raise rfl (takes_of rfl rfl rfl rfl) (pmk_own PySem.F.excBase_ValueError T.q_InvalidWeight T.g_InvalidWeight T.k_InvalidWeight (raises_own T.b_InvalidWeight T.y_InvalidWeight) (by rfl)))) pss_nil)), ?_⟩
  refine ⟨_, rfl, sl2, fun t1 h1 => ⟨a, t1, x, 0, rfl, (ext_upd h1).tup ha, SqT.of upd_same, sx, sm_zero, ?_⟩⟩
  have x1 := ext_upd (o := .tup [.int 0, .int 1]) h1
  have le0 : ∀ r : Rat, (if r < 0 then (-1 : Int) else if 0 < r then 1 else 0) ≤ 0 ↔ ¬ 0 < r := fun r => by
    split
    · rename_i h
      exact ⟨fun _ z => absurd (Std.lt_trans h z) (Rat.lt_irrefl), fun _ => by decide⟩
    · split
      · rename_i h
        exact ⟨fun z => absurd z (by decide), fun z => absurd h z⟩
      · rename_i h
        exact ⟨fun _ => h, fun _ => by decide⟩
  refine ⟨_, _, rfl, rfl, _, rfl, iteB (fun z => iteT (q2 (fun h => (le0 x).mp (of_decide_eq_true z) h.1) _ x1)) (fun z => ?_)⟩
  have px : 0 < x := Decidable.byContradiction fun h => of_decide_eq_false z ((le0 x).mpr h)
  refine ⟨_, rfl, sl2, fun t2 h2 => ⟨b, t2, y, 0, rfl, (x1.trans (ext_upd h2)).tup hb, SqT.of upd_same, sy, sm_zero, ?_⟩⟩
  have x2 := ext_upd (o := .tup [.int 0, .int 1]) h2
  refine ⟨_, _, rfl, rfl, _, rfl, iteB (fun z => q2 (fun h => (le0 y).mp (of_decide_eq_true z) h.2) _ (x1.trans x2)) (fun z => ?_)⟩
  have py : 0 < y := Decidable.byContradiction fun h => of_decide_eq_false z ((le0 y).mpr h)
  exact q1 px py _ (x1.trans x2)
def spSmall (T : Top K mg) : Sp := fun vs H Q E => ∃ (p a b : Addr) (fs : List Int) (es : List Eg) (x y : Rat), vs = [.ref p, .ref a, .ref b] ∧ SpAt T H p fs es ∧ Fr K H a (fq x) ∧ Fr K H b (fq y) ∧ Sm x ∧ Sm y ∧
  (0 < x → 0 < y → fs.length ≤ 6 → ∀ H', Ext H H' → Q .non H') ∧ (¬ (0 < x ∧ 0 < y) → ∀ H', Ext H H' → E (.ref T.f_InvalidWeight) none H') ∧ (0 < x → 0 < y → 6 < fs.length → ∀ H', Ext H H' → E (.ref T.f_TooLarge) none H')
theorem ok_check_small (T : Top K mg) : FnOk P w K mg base (L2.CX P w) 3 T.f_check_small T.d_check_small ["spins", "x", "y"] (spSmall T) := by
  refine T.F_check_small.okX sc_check_small (fun vs H Q E h => ?_) (fun cdv A outer s H vs Q E hr h => ?_)
  · obtain ⟨p, a, b, fs, es, x, y, rfl, _⟩ := h
    rfl
  obtain ⟨p, a, b, fs, es, x, y, rfl, hp, ha, hb, sx, sy, q1, q2, q3⟩ := h
  refine ⟨_, (pss_cons (ps_expr (pe_call (ok_check_above_zero T) (hr.mono (by decide)) (by rfl) T.g_check_above_zero T.F_check_above_zero.kp T.b_check_above_zero .nil (passes_call (takes_of rfl rfl rfl rfl) (fun _ _ _ _ h => h)) (pa_cons (pv 1) (pa_cons (pv 2) pa_nil))))
      (pss_one (ps_if (pt_cmpR op_gt (pe_callB call_len_seq (by rfl) T.m_len (by decide +kernel) (pa_cons (pe_fld (pv 0) rfl) pa_nil)) (pe_glob (v := .int 6) (by rfl) T.g_MOST_VERTICES_distributions ⟨_, rfl⟩) (nomark _)) (pss_one (ps_raise rfl (takes_of rfl rfl rfl rfl) (pmk_own PySem.F.excBase_ValueError T.q_TooLarge T.g_TooLarge T.k_TooLarge (raises_own T.b_TooLarge T.y_TooLarge) (by rfl)))) pss_nil))), ?_⟩
  refine ⟨_, rfl, _, rfl, a, b, x, y, rfl, ha, hb, sx, sy, fun px py H1 s1 => ?_, fun h H1 s1 => q2 h H1 s1⟩
  have hp1 := hp.up s1
  obtain ⟨gf, ge, dx, fb, eb, ys, h1, h2, h3, h4⟩ := hp1
  refine ⟨_, rfl, p, T.C_Spins, dx, _, .ref fb, rfl, h1, T.cl_Spins, T.na_Spins_fields, rfl, fb, _, rfl, .inr h2, _, _, rfl, rfl, _, rfl, iteB (fun z => ?_) (fun z => ?_)⟩
  · have z : (6 : Int) < (((fs.map V.int).length : Nat) : Int) := of_decide_eq_true z
    rw [List.length_map] at z
    exact q3 px py (by omega) H1 s1
  · have z : ¬ (6 : Int) < (((fs.map V.int).length : Nat) : Int) := of_decide_eq_false z
    rw [List.length_map] at z
    exact q1 px py (by omega) H1 s1
/-- the weights of the states -/
def wtR (fs : List Int) (es : List Eg) (x y : Rat) (st : List Int) : Rat := rp x (costZ fs es st) * rp y st.sum
def spWts (T : Top K mg) : Sp := fun vs H Q _ => ∃ (p a b : Addr) (fs : List Int) (es : List Eg) (x y : Rat), vs = [.ref p, .ref a, .ref b] ∧ SpAt T H p fs es ∧ Fr K H a (fq x) ∧ Fr K H b (fq y) ∧ sm12 x ∧ sm12 y ∧ x ≠ 0 ∧ y ≠ 0 ∧ fs.length ≤ 8 ∧ (∀ st ∈ states fs.length, (costZ fs es st).natAbs ≤ 64) ∧ Tg T H ∧
  ∀ l H' xs, Ext H H' → H l = none → H' l = some (.lst xs) → FrsV K H' xs ((states fs.length).map (wtR fs es x y)) → Q (.ref l) H'
theorem ok_weights_of (T : Top K mg) (B : Tb T base) : FnOk P w K mg base CX0 5 T.f_weights_of T.d_weights_of ["spins", "x", "y"] (spWts T) := by
  refine T.F_weights_of.ok sc_weights_of (fun vs H Q E h => ?_) (fun cdv A outer s H vs Q E hr h => ?_)
  · obtain ⟨p, a, b, fs, es, x, y, rfl, _⟩ := h
    rfl
  obtain ⟨p, a, b, fs, es, x, y, rfl, hp, ha, hb, sx, sy, nx, ny, l8, hc, G, q⟩ := h
  refine ⟨_, (pss_one (ps_ret (pe_lc (own := [("state", 3)]) (g := gName 3) (tt := tYes) rfl sc_weights_of.nd (pi_list (pe_call (ok_all_states T) (hr.mono (by decide)) (by rfl) T.g_all_states T.F_all_states.kp T.b_all_states .nil pass0 (pa_cons (pv 0) pa_nil))) (blkOk_by (own := [("state", 3)]) (N := n_weights_of) (sc := defScope s_weights_of) (by decide +kernel)) (fun _ _ _ _ _ => (pg_name (i := 3) sc_weights_of.nd rfl (by first | exact .inl rfl | exact .inr rfl))) (fun _ _ _ _ _ => pts_nil) (fun _ _ _ _ _ => (pe_call (ok_multiply T) (hr.mono (by decide)) (by rfl) T.g_multiply T.F_multiply.kp T.b_multiply .nil pass0 (pa_cons (pe_call (ok_rp T) (hr.mono (by decide)) (by rfl) T.g_raised T.F_raised.kp T.b_raised .nil pass0 (pa_cons (pv 1) (pa_cons (pe_call (ok_cost T B) (hr.mono (by decide)) (by rfl) T.g_cost T.F_cost.kp T.b_cost .nil pass0 (pa_cons (pv 0) (pa_cons (pv 3) pa_nil))) pa_nil))) (pa_cons (pe_call (ok_rp T) (hr.mono (by decide)) (by rfl) T.g_raised T.F_raised.kp T.b_raised .nil pass0 (pa_cons (pv 2) (pa_cons (pe_call (ok_ups T) (hr.mono (by decide)) (by rfl) T.g_ups T.F_ups.kp T.b_ups .nil pass0 (pa_cons (pv 3) pa_nil)) pa_nil))) pa_nil))))))), ?_⟩
  refine ⟨_, rfl, p, fs, es, rfl, hp, l8, fun l1 H1 xs s1 nl hl hst => ⟨l1, rfl, ⟨_, SqL.of hl⟩, fun D hD => lc_list (xs := xs) (fun i H2 => Ext H1 H2 ∧ ∃ ys, H2 D = some (.lst ys) ∧ FrsV K H2 ys (((states fs.length).take i).map (wtR fs es x y))) ⟨ext_upd hD, [], upd_same, .nil⟩ (fun i H2 _ h => SqL.of (h.1.lst hl)) (fun i x0 H2 hi hP => ?_) (fun H2 hP => ?_)⟩⟩
  · obtain ⟨s2, ys, hys, hp2⟩ := hP
    obtain ⟨st, hsi, a1, rfl, ha1⟩ := paired_at hst hi
    have hm := List.mem_of_getElem? hsi
    obtain ⟨ln, hbt⟩ := states_ok _ st hm
    have lst := hp2.length
    have ls := length_states fs.length
    have l256 : 2 ^ fs.length ≤ 256 := pow8 l8
    rw [List.length_map, List.length_take] at lst
    have sb := sum_bound (c := 1) (l := st) fun z hz => by
      rcases hbt z hz with e | e <;> rw [e] <;> decide
    have hs64 : st.sum.natAbs ≤ 64 := by omega
    dsimp only [gName]
    refine ⟨rfl, _, rfl, _, rfl, _, rfl, p, a1, fs, es, st, rfl, hp.up (s1.trans s2), s2.tup ha1, ln, hbt, G.ext (s1.trans s2), fun H3 s3 => ⟨a, x, _, rfl, sx, hc st hm, fun _ => nx, ((s1.trans s2).trans s3).tup ha, fun p1 H4 s4 hp1 => ?_⟩⟩
    have t4 := s3.trans s4.ext
    have u4 := (s1.trans s2).trans t4
    refine ⟨_, rfl, _, rfl, a1, st, rfl, (s2.trans t4).tup ha1, b, y, _, rfl, sy, hs64, fun _ => ny, u4.tup hb, fun p2 H5 s5 hp2' => ?_⟩
    refine ⟨p1, p2, _, _, rfl, s5.fr hp1, hp2', okA_of (sm_rp sx nx (hc st hm)) (sm_rp sy ny hs64), fun p3 H6 s6 n6 hp6 => ?_⟩
    rw [SM.mulF_fq] at hp6
    have t6 := (t4.trans s5.ext).trans s6.ext
    have hys6 := t6.lst hys
    refine ⟨ys, hys6, sl_lt (by omega), (s2.trans t6).own hD, ys ++ [.ref p3], upd_same, ?_⟩
    rw [take_snoc hsi, List.map_append]
    exact frs_upd hys6 (paired_snoc (frs_up t6 hp2) ⟨p3, rfl, SqT.of hp6⟩)
  · obtain ⟨s2, ys, hys, hp2⟩ := hP
    rw [hst.length, List.take_length] at hp2
    exact q D H2 ys (s1.trans s2) (s1.free hD) hys hp2
/-! ### the distribution -/
def sumR : List Rat → Rat
  | [] => 0
  | r :: l => r + sumR l
theorem sumR_app : ∀ a b : List Rat, sumR (a ++ b) = sumR a + sumR b
  | [], b => by rw [List.nil_append, sumR, Rat.zero_add]
  | r :: a, b => by rw [List.cons_append, sumR, sumR, sumR_app a b, Rat.add_assoc]
theorem sumR_snoc (a : List Rat) (r : Rat) : sumR (a ++ [r]) = sumR a + r := by
  rw [sumR_app, sumR, sumR, Rat.add_zero]
theorem sumR_iz {D X : Nat} : ∀ (l : List Rat), (∀ r ∈ l, Iz D X r) → Iz D (l.length * X) (sumR l)
  | [], _ => by
    show Iz D (0 * X) 0
    rw [Nat.zero_mul]
    exact SM.Iz.zero
  | r :: l, h => by
    rw [sumR, List.length_cons, Nat.succ_mul, Nat.add_comm]
    exact SM.Iz.add (h r List.mem_cons_self) (sumR_iz l fun s m => h s (List.mem_cons_of_mem _ m))
theorem sumR_pos : ∀ (l : List Rat), l ≠ [] → (∀ r ∈ l, 0 < r) → 0 < sumR l
  | [], h, _ => absurd rfl h
  | [r], _, h => by
    rw [sumR, sumR, Rat.add_zero]
    exact h r List.mem_cons_self
  | r :: s :: l, _, h => by
    rw [sumR]
    have h1 := h r List.mem_cons_self
    have h2 := sumR_pos (s :: l) (by simp) fun u m => h u (List.mem_cons_of_mem _ m)
    grind
theorem sm_izs {D X : Nat} {r : Rat} (h : Iz D X r) (hD : D ≠ 0) (h1 : D < 2 ^ 1900) (h2 : X < 2 ^ 1900) : Sm r := by
  obtain ⟨a, b⟩ := h.sizes hD
  exact ⟨Nat.lt_of_le_of_lt a h2, Nat.lt_of_le_of_lt b h1⟩
def wtL (fs : List Int) (es : List Eg) (x y : Rat) : List Rat := (states fs.length).map (wtR fs es x y)
def shL (fs : List Int) (es : List Eg) (x y : Rat) : List Rat := (wtL fs es x y).map fun r => r / sumR (wtL fs es x y)
def spDist (T : Top K mg) : Sp := fun vs H Q E => ∃ (p a b : Addr) (fs : List Int) (es : List Eg) (x y : Rat) (D X : Nat), vs = [.ref p, .ref a, .ref b] ∧ SpAt T H p fs es ∧ Fr K H a (fq x) ∧ Fr K H b (fq y) ∧ Sm x ∧ Sm y ∧ sm12 x ∧ sm12 y ∧ fs.length ≤ 8 ∧ (∀ st ∈ states fs.length, (costZ fs es st).natAbs ≤ 64) ∧ D ≠ 0 ∧ D < 2 ^ 1900 ∧ 256 * X < 2 ^ 1900 ∧
  (0 < x → 0 < y → fs.length ≤ 6 → ∀ r ∈ wtL fs es x y, Iz D X r ∧ 0 < r) ∧ Tg T H ∧
  (0 < x → 0 < y → fs.length ≤ 6 → ∀ t H' xs, Ext H H' → SqT K H' t xs → FrsV K H' xs (shL fs es x y) → Q (.ref t) H') ∧ (¬ (0 < x ∧ 0 < y) → ∀ H', Ext H H' → E (.ref T.f_InvalidWeight) none H') ∧ (0 < x → 0 < y → 6 < fs.length → ∀ H', Ext H H' → E (.ref T.f_TooLarge) none H')
theorem ok_distribution_of (T : Top K mg) (B : Tb T base) : FnOk P w K mg base (L2.CX P w) 6 T.f_distribution_of T.d_distribution_of ["spins", "x", "y"] (spDist T) := by
  refine T.F_distribution_of.okX sc_distribution_of (fun vs H Q E h => ?_) (fun A outer s H vs Q E hr h => ?_)
  · obtain ⟨p, a, b, fs, es, x, y, D, X, rfl, _⟩ := h
    rfl
  obtain ⟨p, a, b, fs, es, x, y, D, X, rfl, hp, ha, hb, sx, sy, bx, by', l8, hc, hD, hD2, hX, hw, G, q1, q2, q3⟩ := h
  refine ⟨_, (pss_cons (ps_expr (pe_call (ok_check_small T) (hr.mono (by decide)) (by rfl) T.g_check_small T.F_check_small.kp T.b_check_small .nil (passes_call (takes_of rfl rfl rfl rfl) (fun _ _ _ _ h => h)) (pa_cons (pv 0) (pa_cons (pv 1) (pa_cons (pv 2) pa_nil)))))
      (pss_cons (ps_set (i := 3) sc_distribution_of.nd rfl (by first | exact .inl rfl | exact .inr rfl) (pe_call (ok_weights_of T B) (hr.mono (by decide)) (by rfl) T.g_weights_of T.F_weights_of.kp T.b_weights_of .nil pass0 (pa_cons (pv 0) (pa_cons (pv 1) (pa_cons (pv 2) pa_nil)))))
      (pss_cons (ps_set (i := 4) sc_distribution_of.nd rfl (by first | exact .inl rfl | exact .inr rfl) (pe_tup (pa_cons pe_int (pa_cons pe_int pa_nil))))
      (pss_cons (ps_for (passes_of rfl) rfl (pi_list (pv 3)) (pg_name (i := 5) sc_distribution_of.nd rfl (by first | exact .inl rfl | exact .inr rfl)) (pss_one (ps_set (i := 4) sc_distribution_of.nd rfl (by first | exact .inl rfl | exact .inr rfl) (pe_call (ok_add T) (hr.mono (by decide)) (by rfl) T.g_add T.F_add.kp T.b_add .nil pass0 (pa_cons (pv 4) (pa_cons (pv 5) pa_nil))))))
      (pss_one (ps_ret (GXP.pe_tupleGx (own := [("weight", 5)]) (g := gName 5) (tt := tYes) (k := 2) (c := T.c_distribution_of) (P := T.P_distribution_of) (by rfl) T.m_tuple ⟨hr.mono (by decide), rfl, B.t_distribution_of, rfl, rfl, blkOk_by (own := [("weight", 5)]) (N := n_distribution_of) (sc := defScope s_distribution_of) (by decide +kernel), sc_distribution_of.nd, by decide +kernel, rfl, (pi_list (pv 3)), fun A s H C cl code bi fp hrA => (pg_name (i := 5) sc_distribution_of.nd rfl (by first | exact .inl rfl | exact .inr rfl)), fun A s H C cl code bi fp hrA => pts_nil, fun A s H C cl code bi fp hrA => (pe_call (ok_divide T) (hrA.mono (by decide)) (by rfl) T.g_divide T.F_divide.kp T.b_divide .nil pass0 (pa_cons (pv 5) (pa_cons (pv 4) pa_nil))), fun _ => rfl⟩))))))), ?_⟩
  refine ⟨_, rfl, _, rfl, _, rfl, p, a, b, fs, es, x, y, rfl, hp, ha, hb, sx, sy, fun px py l6 H1 s1 => ?_, fun h H1 s1 => q2 h H1 s1, fun px py l6 H1 s1 => q3 px py l6 H1 s1⟩
  dsimp only [gName]
  have nx : x ≠ 0 := fun e => by rw [e] at px; exact absurd px (by decide)
  have ny : y ≠ 0 := fun e => by rw [e] at py; exact absurd py (by decide)
  have hW := hw px py l6
  refine ⟨_, rfl, _, rfl, _, rfl, p, a, b, fs, es, x, y, rfl, hp.up s1, s1.tup ha, s1.tup hb, bx, by', nx, ny, l8, hc, G.ext s1, fun l H2 xs s2 nl hl hxs => ?_⟩
  dsimp only [gName]
  have hxs : FrsV K H2 xs (wtL fs es x y) := hxs
  have lw : (wtL fs es x y).length = 2 ^ fs.length := by unfold wtL; rw [List.length_map, length_states]
  have l64 : 2 ^ fs.length ≤ 256 := pow8 l8
  have lx := hxs.length
  have hTk : ∀ i, Sm (sumR ((wtL fs es x y).take i)) := fun i => by
    have h := sumR_iz (D := D) (X := X) ((wtL fs es x y).take i) fun r m => (hW r (List.mem_of_mem_take m)).1
    refine sm_izs h hD hD2 (Nat.lt_of_le_of_lt (Nat.mul_le_mul_right X (show _ ≤ 256 from ?_)) hX)
    rw [List.length_take]
    omega
  have hSw : ∀ r ∈ wtL fs es x y, Sm r := fun r m => by
    have h := (hW r m).1
    exact sm_izs h hD hD2 (Nat.lt_of_le_of_lt (show X ≤ 256 * X by omega) hX)
  refine ⟨sl2, fun t0 ht0 => ?_⟩
  have x0 := ext_upd (o := .tup [V.int 0, .int 1]) ht0
  have m0 : upd H2 t0 (.tup [V.int 0, .int 1]) t0 = some (.tup [V.int 0, .int 1]) := upd_same
  generalize upd H2 t0 (.tup [V.int 0, .int 1]) = H3 at *
  dsimp only [gName]
  have hl3 := x0.lst hl
  have hxs3 := frs_up x0 hxs
  refine ⟨_, rfl, l, rfl, ⟨_, SqL.of hl3⟩, for_list (xs := xs) (fun i σ HA => ∃ t w, σ = [some (.ref p), some (.ref a), some (.ref b), some (.ref l), some (.ref t), w] ∧ Ext H3 HA ∧ Fr K HA t (fq (sumR ((wtL fs es x y).take i)))) ⟨t0, _, rfl, Ext.refl _, SqT.of m0⟩ (fun i σ HA _ h => ?_) (fun i v σ HA hi hP => ?_) (fun σ HA hP => ?_)⟩
  · obtain ⟨_, _, _, sA, _⟩ := h
    exact SqL.of (sA.lst hl3)
  · obtain ⟨t, w, rfl, sA, ht⟩ := hP
    obtain ⟨r, hr2, a1, rfl, ha1⟩ := paired_at (frs_up sA hxs3) hi
    have hm := List.mem_of_getElem? hr2
    dsimp only [gName]
    refine ⟨_, rfl, _, rfl, t, a1, _, _, rfl, ht, ha1, okA_of (hTk i) (hSw r hm), fun p3 H6 s6 n6 hp6 => ?_⟩
    rw [SM.addF_fq] at hp6
    refine ⟨p3, _, rfl, sA.trans s6.ext, ?_⟩
    rw [take_snoc hr2, sumR_snoc]
    exact SqT.of hp6
  · obtain ⟨t, w, rfl, sA, ht⟩ := hP
    rw [lx, List.take_length] at ht
    have ht0' := hTk (wtL fs es x y).length
    rw [List.take_length] at ht0'
    have hpos : 0 < sumR (wtL fs es x y) := sumR_pos _ (fun e => by
      have := congrArg List.length e
      rw [lw] at this
      have h2 := Nat.pow_pos (n := fs.length) (show 0 < 2 by decide)
      simp at this) fun r m => (hW r m).2
    have hne : sumR (wtL fs es x y) ≠ 0 := fun e => by rw [e] at hpos; exact absurd hpos (by decide)
    dsimp only [gName]
    have hl4 := sA.lst hl3
    have sH := (s1.trans s2).trans (x0.trans sA)
    have hxs4 := frs_up sA hxs3
    refine ⟨_, rfl, l, rfl, ⟨_, SqL.of hl4⟩, (G.ext sH).t_distribution_of, fun H8 t8 => ?_⟩
    have e8 : Ext HA H8 := ext_tabbed (G.ext sH).t_distribution_of t8
    refine gx_list (xs := xs) (fun n zs HN => Ext H8 HN ∧ FrsV K HN zs (((wtL fs es x y).take n).map fun r => r / sumR (wtL fs es x y))) ⟨Ext.refl _, .nil⟩ (fun n zs HN _ h => SqL.of ((e8.trans h.1).lst hl4)) (fun n x0 zs HN hn hP2 => ?_) (fun zs HN hP2 => ?_)
    · obtain ⟨sN, hz⟩ := hP2
      have sN' := e8.trans sN
      obtain ⟨r, hr2, a1, rfl, ha1⟩ := paired_at (frs_up sN' hxs4) hn
      have hm := List.mem_of_getElem? hr2
      have lz := hz.length
      rw [List.length_map, List.length_take] at lz
      refine ⟨rfl, _, rfl, _, rfl, a1, t, _, _, rfl, ha1, sN'.tup ht, okD_of (hSw r hm) ht0' hne, fun p3 H6 s6 n6 hp6 => ?_⟩
      rw [SM.divF_fq _ hne] at hp6
      refine ⟨sl_lt (by omega), sN.trans s6.ext, ?_⟩
      rw [take_snoc hr2, List.map_append]
      exact paired_snoc (frs_up s6.ext hz) ⟨p3, rfl, SqT.of hp6⟩
    · obtain ⟨sN, hz⟩ := hP2
      rw [lx, List.take_length] at hz
      intro tt htt
      have x9 := ext_upd (o := .tup zs) htt
      exact q1 px py l6 tt _ zs (((sH.trans e8).trans sN).trans x9) (SqT.of upd_same) (frs_up x9 hz)
def PrV (K : PySem.W.Frag) (H : Hp) (v : V) (e : Nat × Rat) : Prop := ∃ a wv, v = .ref a ∧ SqT K H a [.int ((e.1 : Nat) : Int), wv] ∧ FrV K H wv e.2
def RowV (K : PySem.W.Frag) (H : Hp) (v : V) (row : List (Nat × Rat)) : Prop := ∃ a ys, v = .ref a ∧ SqT K H a ys ∧ Paired (PrV K H) ys row
theorem prv_up {H H' : Hp} (s : Ext H H') {v : V} {e : Nat × Rat} (h : PrV K H v e) : PrV K H' v e := by
  obtain ⟨a, wv, e1, g, b, k1, k2⟩ := h
  exact ⟨a, wv, e1, s.tup g, b, k1, s.tup k2⟩
theorem rows_up {H H' : Hp} (s : Ext H H') {xs : List V} {t : List (List (Nat × Rat))} (h : Paired (RowV K H) xs t) : Paired (RowV K H') xs t := paired_imp (fun _ _ ⟨a, ys, e, g, k⟩ => ⟨a, ys, e, s.tup g, paired_imp (fun _ _ z => prv_up s z) k⟩) h
theorem rows_upd {H : Hp} {D : Addr} {o : HO} {acc xs : List V} {t : List (List (Nat × Rat))} (hD : H D = some (.lst acc)) (h : Paired (RowV K H) xs t) : Paired (RowV K (upd H D o)) xs t := paired_imp (fun _ _ ⟨a, ys, e, g, k⟩ => ⟨a, ys, e, sqt_updL hD g, paired_imp (fun _ _ ⟨a, wv, e1, g, b, k1, k2⟩ => ⟨a, wv, e1, sqt_updL hD g, b, k1, sqt_updL hD k2⟩) k⟩) h
/-- the chance to be up -/
theorem rp_pos {r : Rat} (h : 0 < r) (x : Int) : 0 < rp r x := by
  unfold rp
  split
  · exact Rat.pow_pos h
  · exact Rat.pow_pos (Rat.inv_pos.mpr h)
theorem wt_pos {fs : List Int} {es : List Eg} {x y : Rat} (hx : 0 < x) (hy : 0 < y) (st : List Int) : 0 < wtR fs es x y st := Rat.mul_pos (rp_pos hx _) (rp_pos hy _)
theorem wt_bz {fs : List Int} {es : List Eg} {x y : Rat} (bx : Bz 4 x) (bY : Bz 4 y) (nx : x ≠ 0) (ny : y ≠ 0) {st : List Int} (hc : (costZ fs es st).natAbs ≤ 62) (hs : st.sum.natAbs ≤ 8) : Bz 300 (wtR fs es x y st) := ((bx.rp nx hc).mul (bY.rp ny hs)).le (by decide)
theorem co_map2 {α : Type} {f : α → Rat} {l : List α} {k : Nat} {z : α} (h : l[k]? = some z) : co (l.map f) k = f z := by
  unfold co
  rw [List.getD_eq_getElem?_getD, List.getElem?_map, h]
  rfl
/-! ### rows over one number -/
def lcmD (l : List Rat) : Nat := l.foldl (fun c r => Nat.lcm c r.den) 1
theorem lcmD_snoc (l : List Rat) (r : Rat) : lcmD (l ++ [r]) = Nat.lcm (lcmD l) r.den := by
  unfold lcmD
  rw [List.foldl_append]
  rfl
theorem lcm_go : ∀ (l : List Rat) (c : Nat), c ∣ l.foldl (fun c r => Nat.lcm c r.den) c ∧ (∀ r ∈ l, r.den ∣ l.foldl (fun c r => Nat.lcm c r.den) c) ∧ (∀ M, c ∣ M → (∀ r ∈ l, r.den ∣ M) → l.foldl (fun c r => Nat.lcm c r.den) c ∣ M)
  | [], c => ⟨Nat.dvd_refl _, fun r m => absurd m List.not_mem_nil, fun M h _ => h⟩
  | r :: l, c => by
    obtain ⟨h1, h2, h3⟩ := lcm_go l (Nat.lcm c r.den)
    refine ⟨Nat.dvd_trans (Nat.dvd_lcm_left _ _) h1, fun s m => ?_, fun M hc hl => h3 M (Nat.lcm_dvd hc (hl r List.mem_cons_self)) fun s m => hl s (List.mem_cons_of_mem _ m)⟩
    rcases List.mem_cons.mp m with e | m
    · rw [e]
      exact Nat.dvd_trans (Nat.dvd_lcm_right _ _) h1
    · exact h2 s m
theorem den_lcmD {l : List Rat} {r : Rat} (h : r ∈ l) : r.den ∣ lcmD l := (lcm_go l 1).2.1 r h
theorem lcmD_dvd {l : List Rat} {M : Nat} (h : ∀ r ∈ l, r.den ∣ M) : lcmD l ∣ M := (lcm_go l 1).2.2 M (Nat.one_dvd _) h
theorem lcmD_pos {l : List Rat} {M : Nat} (h : ∀ r ∈ l, r.den ∣ M) (hM : M ≠ 0) : 0 < lcmD l := Nat.pos_of_dvd_of_pos (lcmD_dvd h) (Nat.pos_of_ne_zero hM)
theorem mul_den (r : Rat) : r * ((r.den : Nat) : Rat) = ((r.num : Int) : Rat) := by
  have h1 := Rat.num_divInt_den r
  rw [Rat.divInt_eq_div, Rat.intCast_natCast] at h1
  have hd : ((r.den : Nat) : Rat) ≠ 0 := fun z => r.den_nz (Rat.natCast_inj.mp (z : ((r.den : Nat) : Rat) = ((0 : Nat) : Rat)))
  generalize ((r.num : Int) : Rat) = N at *
  generalize ((r.den : Nat) : Rat) = D at *
  rw [← h1, Rat.div_def, Rat.mul_assoc, Rat.mul_comm D⁻¹ D, Rat.mul_inv_cancel _ hd, Rat.mul_one]
/-- a numerator over c -/
def intN (c : Nat) (r : Rat) : Int := r.num * ((c / r.den : Nat) : Int)
theorem intN_val {c : Nat} {r : Rat} (h : r.den ∣ c) : (intN c r : Rat) = r * (c : Rat) := by
  obtain ⟨k, rfl⟩ := h
  have hd : 0 < r.den := Nat.pos_of_ne_zero r.den_nz
  unfold intN
  rw [Nat.mul_div_cancel_left k hd, Rat.intCast_mul, Rat.natCast_mul]
  have e : r * (r.den : Rat) = (r.num : Rat) := mul_den r
  rw [← Rat.mul_assoc, e]
  rfl
/-- a list or a tuple, walked by a statement -/
theorem for_seqW {J : It} {H0 : Hp} {xs : List V} {g : TG} {tb : TS} {D : Ends} {σ : L2.St} {H : Hp} (w : SeqW J H0 xs) (Pv : Nat → L2.St → Hp → Prop) (h0 : Pv 0 σ H) (hl : ∀ i σ H1, i ≤ xs.length → Pv i σ H1 → Ext H0 H1)
    (hs : ∀ i x σ H, xs[i]? = some x → Pv i σ H → g x σ H fun σ2 H2 => tb { D with nx := Pv (i + 1), ct := Pv (i + 1), bk := D.nx } σ2 H2) (hd : ∀ σ H, Pv xs.length σ H → D.nx σ H) :
    ∃ W : Nat → Nat → L2.St → Hp → Prop, (∃ m, W 0 m σ H) ∧ ∀ i m σ H, W i m σ H →
      ((J.stop i H ∧ D.nx σ H) ∨ (J.go i H ∧ ∃ N : L2.St → Hp → Prop, (∀ σ' H', N σ' H' → ∃ m', m' < m ∧ W (i + 1) m' σ' H') ∧ ∀ x H', J.yld i H x H' → g x σ H' fun σ2 H2 => tb { D with nx := N, ct := N, bk := D.nx } σ2 H2)) := by
  refine ⟨fun i m σ H => m = xs.length - i ∧ i ≤ xs.length ∧ Pv i σ H, ⟨xs.length, rfl, Nat.zero_le _, h0⟩, ?_⟩
  rintro i m σ H ⟨rfl, hi, p⟩
  have s := hl i σ H hi p
  by_cases hlt : i < xs.length
  · refine .inr ⟨w.go i H s hlt, Pv (i + 1), fun σ' H' p' => ⟨_, by omega, rfl, hlt, p'⟩, fun v H' y => ?_⟩
    obtain ⟨rfl, hx⟩ := w.yld i H v H' s y
    exact hs i v σ _ hx p
  · have e : i = xs.length := by omega
    subst e
    exact .inl ⟨w.stop H s, hd σ H p⟩
/-- pairs of an index and an int -/
def IpV (K : PySem.W.Frag) (H : Hp) (v : V) (e : Nat × Int) : Prop := ∃ a, v = .ref a ∧ SqT K H a [.int ((e.1 : Nat) : Int), .int e.2]
theorem ip_up {H H' : Hp} (s : Ext H H') {xs : List V} {l : List (Nat × Int)} (h : Paired (IpV K H) xs l) : Paired (IpV K H') xs l := paired_imp (fun _ _ ⟨a, e, g⟩ => ⟨a, e, s.tup g⟩) h
theorem ip_upd {H : Hp} {D : Addr} {o : HO} {acc xs : List V} {l : List (Nat × Int)} (hD : H D = some (.lst acc)) (h : Paired (IpV K H) xs l) : Paired (IpV K (upd H D o)) xs l := paired_imp (fun _ _ ⟨a, e, g⟩ => ⟨a, e, sqt_updL hD g⟩) h
def rowC (row : List (Nat × Rat)) : Nat := lcmD (row.map fun e => e.2)
def rowN (row : List (Nat × Rat)) : List (Nat × Int) := row.map fun e => (e.1, intN (rowC row) e.2)
/-- a row over its common denominator, in the heap -/
def OverV (K : PySem.W.Frag) (D : Addr) (H : Hp) (v : V) (row : List (Nat × Rat)) : Prop := ∃ p l ys, v = .ref p ∧ SqT K H p [.int ((rowC row : Nat) : Int), .ref l] ∧ H l = some (.lst ys) ∧ Paired (IpV K H) ys (rowN row) ∧ l ≠ D
theorem overs_up {D : Addr} {H H' : Hp} (s : Ext H H') {vs : List V} {tab : List (List (Nat × Rat))} (h : Paired (OverV K D H) vs tab) : Paired (OverV K D H') vs tab := paired_imp (fun _ _ ⟨p, l, ys, e, h1, h2, h3, h4⟩ => ⟨p, l, ys, e, s.tup h1, s.lst h2, ip_up s h3, h4⟩) h
theorem overs_upd {D : Addr} {H : Hp} {o : HO} {acc vs : List V} {tab : List (List (Nat × Rat))} (hD : H D = some (.lst acc)) (h : Paired (OverV K D H) vs tab) : Paired (OverV K D (upd H D o)) vs tab := paired_imp (fun _ _ ⟨p, l, ys, e, h1, h2, h3, h4⟩ => ⟨p, l, ys, e, sqt_updL hD h1, by rw [upd_ne h4]; exact h2, ip_upd hD h3, h4⟩) h
def spOver (K : PySem.W.Frag) : Sp := fun vs H Q _ => ∃ (a : Addr) (xs : List V) (row : List (Nat × Rat)) (M : Nat), vs = [.ref a] ∧ Sq K H a xs ∧ Paired (PrV K H) xs row ∧ (∀ e ∈ row, e.2.den ∣ M) ∧ M ≠ 0 ∧ M < 2 ^ 1900 ∧ (∀ e ∈ row, e.2.num.natAbs < 2 ^ 1900) ∧ row.length ≤ 1000 ∧
  ∀ p l ys H', Ext H H' → H l = none → SqT K H' p [.int ((rowC row : Nat) : Int), .ref l] → H' l = some (.lst ys) → Paired (IpV K H') ys (rowN row) → Q (.ref p) H'
theorem ok_over_one_number (T : Top K mg) : FnOk P w K mg base CX0 1 T.f_over_one_number T.d_over_one_number ["pairs"] (spOver K) := by
  refine T.F_over_one_number.ok sc_over_one_number (fun vs H Q E h => ?_) (fun cdv A outer s H vs Q E hr h => ?_)
  · obtain ⟨a, xs, row, M, rfl, _⟩ := h
    rfl
  obtain ⟨a, xs, row, M, rfl, ha, hx, hd, hM, hM2, hn, hl, q⟩ := h
  refine ⟨_, (pss_cons (ps_set (i := 1) sc_over_one_number.nd rfl (by first | exact .inl rfl | exact .inr rfl) pe_int)
      (pss_cons (ps_for PassesOwn.never rfl (pi_seqW (pv 0)) (pg_tup rfl (pgs_cons (pg_name (i := 2) sc_over_one_number.nd rfl (by first | exact .inl rfl | exact .inr rfl)) (pgs_cons (pg_name (i := 3) sc_over_one_number.nd rfl (by first | exact .inl rfl | exact .inr rfl)) pgs_nil))) (pss_one (ps_set (i := 1) sc_over_one_number.nd rfl (by first | exact .inl rfl | exact .inr rfl) (pe_callBfun cr_lcm (by rfl) T.g_lcm (pa_cons (pv 1) (pa_cons (pe_ix ix_tup (pv 3) pe_int (fun _ _ => rfl)) pa_nil))))))
      (pss_one (ps_ret (pe_tup (pa_cons (pv 1) (pa_cons (pe_lc (own := [("index", 4), ("chance", 3)]) (g := gTup K 2 (gCons (gName 4) (gCons (gName 3) gNil))) (tt := tYes) rfl sc_over_one_number.nd (pi_seqW (pv 0)) (blkOk_by (own := [("index", 4), ("chance", 3)]) (N := n_over_one_number) (sc := defScope s_over_one_number) (by decide +kernel)) (fun _ _ _ _ _ => (pg_tup rfl (pgs_cons (pg_name (i := 4) sc_over_one_number.nd rfl (by first | exact .inl rfl | exact .inr rfl)) (pgs_cons (pg_name (i := 3) sc_over_one_number.nd rfl (by first | exact .inl rfl | exact .inr rfl)) pgs_nil)))) (fun _ _ _ _ _ => pts_nil) (fun _ _ _ _ _ => (pe_tup (pa_cons (pv 4) (pa_cons (pe_op op_mulW (pe_ix (r := rIxT K) ix_tup (pv 3) pe_int (fun _ _ => rfl)) (pe_op op_fdivZ (pv 1) (pe_ix (r := rIxT K) ix_tup (pv 3) pe_int (fun _ _ => rfl)))) pa_nil))))) pa_nil))))))), ?_⟩
  dsimp only [gName]
  have lx := hx.length
  have hcM : ∀ i, lcmD ((row.take i).map fun e => e.2) ∣ M := fun i => lcmD_dvd fun r m => by
    obtain ⟨e, me, rfl⟩ := List.mem_map.mp m
    exact hd e (List.mem_of_mem_take me)
  have hcS : ∀ i, lcmD ((row.take i).map fun e => e.2) < 2 ^ 1900 := fun i => Nat.lt_of_le_of_lt (Nat.le_of_dvd (Nat.pos_of_ne_zero hM) (hcM i)) hM2
  refine ⟨_, rfl, a, xs, H, rfl, Ext.refl _, ha, fun J w => for_seqW w (fun i σ HA => ∃ y2 y3 y4, σ = [some (.ref a), some (.int ((lcmD ((row.take i).map fun e => e.2) : Nat) : Int)), y2, y3, y4] ∧ HA = H) ⟨_, _, _, rfl, rfl⟩ (fun i σ HA _ h => ?_) (fun i v σ HA hi hP => ?_) (fun σ HA hP => ?_)⟩
  · obtain ⟨_, _, _, _, rfl⟩ := h
    exact Ext.refl _
  · obtain ⟨y2, y3, y4, rfl, rfl⟩ := hP
    obtain ⟨⟨k, r⟩, hr2, a1, wv, rfl, ha1, c1, rfl, hc1⟩ := paired_at hx hi
    have hm := List.mem_of_getElem? hr2
    have hrd : r.den < 2 ^ 1900 := Nat.lt_of_le_of_lt (Nat.le_of_dvd (Nat.pos_of_ne_zero hM) (hd _ hm)) hM2
    refine ⟨a1, _, rfl, ha1, rfl, _, _, rfl, _, _, rfl, rfl, ?_⟩
    dsimp only [gName]
    refine ⟨_, rfl, _, rfl, c1, _, 1, _, rfl, rfl, hc1, atI_nat (j := 1) rfl, _, _, rfl, by rw [Int.natAbs_natCast]; exact hcS i, (show ((r.den : Nat) : Int).natAbs < 2 ^ 1900 by rw [Int.natAbs_natCast]; exact hrd), ?_⟩
    refine ⟨some (.int ((k : Nat) : Int)), some (.ref c1), y4, ?_, rfl⟩
    rw [take_snoc hr2, List.map_append, List.map_cons, List.map_nil, lcmD_snoc, Int.natAbs_natCast]
    rfl
  · obtain ⟨y2, y3, y4, rfl, rfl⟩ := hP
    rw [lx, List.take_length]
    have hc := hcS row.length
    have hcm := hcM row.length
    rw [List.take_length] at hc hcm
    dsimp only [gName]
    have hC : rowC row = lcmD (row.map fun e => e.2) := rfl
    rw [← hC] at hc hcm ⊢
    have ln : (rowN row).length = row.length := List.length_map _
    refine ⟨_, rfl, _, rfl, a, xs, HA, rfl, Ext.refl _, ha, fun J w D hD => w_seq w (fun i HN => Ext HA HN ∧ ∃ zs, HN D = some (.lst zs) ∧ Paired (IpV K HN) zs ((rowN row).take i)) ⟨ext_upd hD, [], upd_same, .nil⟩ (fun i HN _ h => h.1) (fun i v HN hi hP => ?_) (fun HN hP => ?_)⟩
    · obtain ⟨sN, zs, hz, hzs⟩ := hP
      obtain ⟨⟨k, r⟩, hr2, a1, wv, rfl, ha1, c1, rfl, hc1⟩ := paired_at hx hi
      have hm := List.mem_of_getElem? hr2
      have hil := (List.getElem?_eq_some_iff.mp hr2).1
      have hrd : r.den < 2 ^ 1900 := Nat.lt_of_le_of_lt (Nat.le_of_dvd (Nat.pos_of_ne_zero hM) (hd _ hm)) hM2
      have hr0 : ((r.den : Nat) : Int) ≠ 0 := by have := r.den_pos; omega
      have lz := hzs.length
      rw [List.length_take] at lz
      have hrn : (rowN row)[i]? = some (k, intN (rowC row) r) := by
        unfold rowN
        rw [List.getElem?_map, hr2]
        rfl
      have ha1 := sN.tup ha1
      have hc1 := sN.tup hc1
      refine ⟨a1, _, rfl, ha1, rfl, _, _, rfl, _, _, rfl, rfl, ?_⟩
      have mn : mid r.num := hn _ hm
      have md : mid ((rowC row / r.den : Nat) : Int) := by
        show Int.natAbs _ < 2 ^ 1900
        rw [Int.natAbs_natCast]
        exact Nat.lt_of_le_of_lt (Nat.div_le_self _ _) hc
      have efd : Int.fdiv ((rowC row : Nat) : Int) ((r.den : Nat) : Int) = ((rowC row / r.den : Nat) : Int) := (Int.ofNat_fdiv _ _).symm
      refine ⟨rfl, _, rfl, _, rfl, c1, _, 0, _, rfl, rfl, hc1, atI_nat (j := 0) rfl, _, rfl, _, rfl, c1, _, 1, _, rfl, rfl, hc1, atI_nat (j := 1) rfl, _, _, rfl, rfl, ⟨hr0, small_log ?_⟩, _, _, rfl, rfl, ?_, ?_⟩
      · show Int.natAbs ((r.den : Nat) : Int) < 2 ^ 4000
        rw [Int.natAbs_natCast]
        exact Nat.lt_of_lt_of_le hrd (Nat.pow_le_pow_right (by decide) (by decide))
      · show CMulW r.num (Int.fdiv ((rowC row : Nat) : Int) ((r.den : Nat) : Int))
        rw [efd]
        exact mid_mul mn md
      · show _ ≤ sizeLine ∧ _
        refine ⟨sl2, fun t ht => ?_⟩
        have x1 := ext_upd (o := .tup [V.int ((k : Nat) : Int), .int (r.num * Int.fdiv ((rowC row : Nat) : Int) ((r.den : Nat) : Int))]) ht
        have hz1 := x1.lst hz
        have hzs1 := ip_up x1 hzs
        refine ⟨zs, hz1, sl_lt (by omega), (sN.trans x1).own hD, zs ++ [.ref t], upd_same, ?_⟩
        rw [take_snoc hrn]
        refine paired_snoc (ip_upd hz1 hzs1) ⟨t, rfl, sqt_updL hz1 (SqT.of ?_)⟩
        show upd HN t (.tup [V.int ((k : Nat) : Int), .int (r.num * Int.fdiv ((rowC row : Nat) : Int) ((r.den : Nat) : Int))]) t = _
        rw [upd_same, efd]
        rfl
    · obtain ⟨sN, zs, hz, hzs⟩ := hP
      rw [lx, ← ln, List.take_length] at hzs
      refine ⟨sl2, fun t ht => ?_⟩
      have x1 := ext_upd (o := .tup [V.int ((rowC row : Nat) : Int), .ref D]) ht
      exact q _ D zs _ (sN.trans x1) hD (SqT.of upd_same) (x1.lst hz) (ip_up x1 hzs)
/-! ### the rows of a table over one number each -/
def spRowsI (K : PySem.W.Frag) : Sp := fun vs H Q _ => ∃ (a : Addr) (xs : List V) (tab : List (List (Nat × Rat))) (M : Nat), vs = [.ref a] ∧ SqT K H a xs ∧ Paired (RowV K H) xs tab ∧ (∀ row ∈ tab, row.length ≤ 1000 ∧ ∀ e ∈ row, e.2.den ∣ M ∧ e.2.num.natAbs < 2 ^ 1900) ∧ M ≠ 0 ∧ M < 2 ^ 1900 ∧ tab.length ≤ 1000 ∧
  ∀ l ys H', Ext H H' → H l = none → H' l = some (.lst ys) → Paired (OverV K l H') ys tab → Q (.ref l) H'
theorem ok_rows_of_integers (T : Top K mg) : FnOk P w K mg base CX0 2 T.f_rows_of_integers T.d_rows_of_integers ["table"] (spRowsI K) := by
  refine T.F_rows_of_integers.ok sc_rows_of_integers (fun vs H Q E h => ?_) (fun cdv A outer s H vs Q E hr h => ?_)
  · obtain ⟨a, xs, tab, M, rfl, _⟩ := h
    rfl
  obtain ⟨a, xs, tab, M, rfl, ha, hx, hrow, hM, hM2, hl, q⟩ := h
  refine ⟨_, (pss_one (ps_ret (pe_lc (own := [("row", 1)]) (g := gName 1) (tt := tYes) rfl sc_rows_of_integers.nd (pi_tup (pv 0)) (blkOk_by (own := [("row", 1)]) (N := n_rows_of_integers) (sc := defScope s_rows_of_integers) (by decide +kernel)) (fun _ _ _ _ _ => (pg_name (i := 1) sc_rows_of_integers.nd rfl (by first | exact .inl rfl | exact .inr rfl))) (fun _ _ _ _ _ => pts_nil) (fun _ _ _ _ _ => (pe_call (ok_over_one_number T) (hr.mono (by decide)) (by rfl) T.g_over_one_number T.F_over_one_number.kp T.b_over_one_number .nil pass0 (pa_cons (pv 1) pa_nil)))))), ?_⟩
  have lx := hx.length
  dsimp only [gName]
  refine ⟨_, rfl, a, rfl, ⟨_, ha⟩, fun D hD => w_tup (xs := xs) (fun i HN => Ext H HN ∧ ∃ zs, HN D = some (.lst zs) ∧ Paired (OverV K D HN) zs (tab.take i)) ⟨ext_upd hD, [], upd_same, .nil⟩ (fun i HN _ h => h.1.tup ha) (fun i v HN hi hP => ?_) (fun HN hP => ?_)⟩
  · obtain ⟨sN, zs, hz, hzs⟩ := hP
    obtain ⟨row, hr2, a1, ys, rfl, ha1, hys⟩ := paired_at (rows_up sN hx) hi
    have hm := List.mem_of_getElem? hr2
    obtain ⟨r1, r2⟩ := hrow row hm
    have lz := hzs.length
    rw [List.length_take] at lz
    refine ⟨rfl, _, rfl, a1, ys, row, M, rfl, .inr ha1, hys, fun e me => (r2 e me).1, hM, hM2, fun e me => (r2 e me).2, r1, fun p l zs' H' s' nl hp hl' hip => ?_⟩
    have hz' := s'.lst hz
    have nlD : l ≠ D := fun z => by
      rw [z, hz] at nl
      cases nl
    refine ⟨zs, hz', sl_lt (by omega), (sN.trans s').own hD, zs ++ [.ref p], upd_same, ?_⟩
    rw [take_snoc hr2]
    exact paired_snoc (overs_upd hz' (overs_up s' hzs)) ⟨p, l, zs', rfl, sqt_updL hz' hp, by rw [upd_ne nlD]; exact hl', ip_upd hz' hip, nlD⟩
  · obtain ⟨sN, zs, hz, hzs⟩ := hP
    rw [lx, List.take_length] at hzs
    exact q D zs HN sN hD hz hzs
/-! ### numbers of some kind in the heap, and their sums and products -/
def IsTp (u : HO) : Prop := (∃ xs, u = .tup xs) ∨ ∃ o xs, u = .frz o (.tup xs)
/-- tuples stay -/
def Keep (H H' : Hp) : Prop := ∀ b u, H b = some u → IsTp u → H' b = some u
theorem Keep.refl (H : Hp) : Keep H H := fun _ _ e _ => e
theorem Keep.trans {H H1 H2 : Hp} (a : Keep H H1) (b : Keep H1 H2) : Keep H H2 := fun c u e n => b c u (a c u e n) n
theorem _root_.EXT.Ext.kp {H H' : Hp} (s : Ext H H') : Keep H H' := fun b u e n => s.keep b u e fun ps z => by
  subst z
  rcases n with ⟨_, z⟩ | ⟨_, _, z⟩ <;> cases z
theorem keep_upd {H : Hp} {d : Addr} {u o : HO} (h : H d = some u) (n : ¬ IsTp u) : Keep H (upd H d o) := fun b x e nx => by
  rw [upd_ne (fun z => ?_)]
  · exact e
  · rw [z, h] at e
    cases e
    exact n nx
theorem keep_new {H : Hp} {d : Addr} {o : HO} (h : H d = none) : Keep H (upd H d o) := (ext_upd h).kp
theorem ntp_dk {kvs : List (Key × V)} : ¬ IsTp (.dK kvs) := fun h => by rcases h with ⟨_, z⟩ | ⟨_, _, z⟩ <;> cases z
theorem ntp_lst {xs : List V} : ¬ IsTp (.lst xs) := fun h => by rcases h with ⟨_, z⟩ | ⟨_, _, z⟩ <;> cases z
theorem ntp_frk {o : Obj} {kvs : List (Key × V)} : ¬ IsTp (.frz o (.dK kvs)) := fun h => by rcases h with ⟨_, z⟩ | ⟨_, _, z⟩ <;> cases z
theorem Keep.tup {H H' : Hp} (s : Keep H H') {a : Addr} {xs : List V} (h : SqT K H a xs) : SqT K H' a xs := by
  rcases h with (h | ⟨o, h⟩) | h
  · exact .inl (.inl (s _ _ h (.inl ⟨_, rfl⟩)))
  · exact .inl (.inr ⟨o, s _ _ h (.inr ⟨_, _, rfl⟩)⟩)
  · exact .inr h
/-- a lock is let go -/
theorem ext_unlock {H H' : Hp} {d : Addr} {u : HO} {o : Obj} (h : H d = some u) (n : ∀ ps, u ≠ .tbl ps) (s : Ext (upd H d (.frz o u)) H') : Ext H (upd H' d u) := by
  refine ⟨fun b x e nx => ?_, fun b ps e => ?_⟩
  · by_cases z : b = d
    · rw [z, h] at e
      cases e
      rw [z, upd_same]
    · rw [upd_ne z]
      exact s.keep b x (by rw [upd_ne z]; exact e) nx
  · have z : b ≠ d := fun z => by
      rw [z, h] at e
      cases e
      exact n _ rfl
    obtain ⟨qs, g1, g2⟩ := s.tabs b ps (by rw [upd_ne z]; exact e)
    exact ⟨qs, by rw [upd_ne z]; exact g1, g2⟩
/-- a kind of numbers: how they stand, how large they are behind some steps -/
structure Ar (K : PySem.W.Frag) (α : Type) where
  S : MT.Sr α
  Val : Hp → V → α → Prop
  keep : ∀ {H H' : Hp} {v : V} {x : α}, Keep H H' → Val H v x → Val H' v x
  Sz : Nat → Nat → α → Prop
  sz_le : ∀ {i X Y : Nat} {x : α}, X ≤ Y → Sz i X x → Sz i Y x
  sz_add : ∀ {i X Y : Nat} {x y : α}, Sz i X x → Sz i Y y → Sz i (X + Y) (S.add x y)
  sz_mul : ∀ {i X Y : Nat} {x y : α}, Sz i X x → Sz 1 Y y → Sz (i + 1) (X * Y) (S.mul x y)
  sz_zero : ∀ i, Sz i 0 S.zero
section
variable {α : Type} (A : Ar K α) (G : Hp → Prop)
def spA : Sp := fun vs H Q _ => ∃ (v1 v2 : V) (x y : α) (i X Y : Nat), vs = [v1, v2] ∧ A.Val H v1 x ∧ A.Val H v2 y ∧ A.Sz i X x ∧ A.Sz i Y y ∧ i ≤ 20 ∧ X + Y ≤ 2 ^ 1000 ∧ G H ∧ ∀ v H', Ext H H' → A.Val H' v (A.S.add x y) → Q v H'
def spM : Sp := fun vs H Q _ => ∃ (v1 v2 : V) (x y : α) (i X Y : Nat), vs = [v1, v2] ∧ A.Val H v1 x ∧ A.Val H v2 y ∧ A.Sz i X x ∧ A.Sz 1 Y y ∧ i ≤ 20 ∧ X ≤ 2 ^ 1000 ∧ Y ≤ 2 ^ 1000 ∧ G H ∧ ∀ v H', Ext H H' → A.Val H' v (A.S.mul x y) → Q v H'
/-- an entry of a dict -/
def KvA (H : Hp) (kv : Key × V) (e : Nat × α) : Prop := kv.1 = Sum.inl ((e.1 : Nat) : Int) ∧ A.Val H kv.2 e.2
def KvsA (H : Hp) (kvs : List (Key × V)) (l : List (Nat × α)) : Prop := Paired (KvA A H) kvs l
variable {A G}
theorem KvsA.kp {H H' : Hp} (s : Keep H H') {kvs : List (Key × V)} {l : List (Nat × α)} (h : KvsA A H kvs l) : KvsA A H' kvs l := paired_imp (fun _ _ ⟨a, b⟩ => ⟨a, A.keep s b⟩) h
theorem inl_inj {a b : Nat} (h : (Sum.inl ((a : Nat) : Int) : Key) = Sum.inl ((b : Nat) : Int)) : a = b := by
  have := Sum.inl.inj h
  omega
theorem kvs_get {H : Hp} {zv : V} (hz : A.Val H zv A.S.zero) (m : Nat) : ∀ {kvs : List (Key × V)} {l : List (Nat × α)}, KvsA A H kvs l → A.Val H ((valV kvs (Sum.inl ((m : Nat) : Int))).getD zv) (MT.getA A.S l m)
  | _, _, .nil => hz
  | _, _, .cons (a := kv) (b := e) ⟨h1, h2⟩ t => by
    obtain ⟨k, v⟩ := kv
    have h1 : k = Sum.inl ((e.1 : Nat) : Int) := h1
    subst h1
    rw [MT.get_cons]
    by_cases z : e.1 = m
    · rw [if_pos z, valV_pos (by rw [z])]
      exact h2
    · rw [if_neg z, valV_neg (fun q => z (inl_inj q))]
      exact kvs_get hz m t
theorem kvs_val {H : Hp} {m : Nat} : ∀ {kvs : List (Key × V)} {l : List (Nat × α)}, KvsA A H kvs l → m ∈ MT.keysA l → ∃ v, valV kvs (Sum.inl ((m : Nat) : Int)) = some v ∧ A.Val H v (MT.getA A.S l m)
  | _, _, .nil, h => by cases h
  | _, _, .cons (a := kv) (b := e) (l₁ := kvs) (l₂ := l) ⟨h1, h2⟩ t, h => by
    obtain ⟨k, v⟩ := kv
    have h1 : k = Sum.inl ((e.1 : Nat) : Int) := h1
    subst h1
    rw [MT.get_cons]
    by_cases z : e.1 = m
    · rw [if_pos z, valV_pos (by rw [z])]
      exact ⟨_, rfl, h2⟩
    · rw [if_neg z, valV_neg (fun q => z (inl_inj q))]
      refine kvs_val t ?_
      rcases List.mem_cons.mp (show m ∈ e.1 :: MT.keysA l from h) with q | q
      · exact absurd q.symm z
      · exact q
theorem any_kvs {H : Hp} (m : Nat) : ∀ {kvs : List (Key × V)} {l : List (Nat × α)}, KvsA A H kvs l → (kvs.any fun kv => decide (kv.1 = Sum.inl ((m : Nat) : Int))) = l.any fun p => decide (p.1 = m)
  | _, _, .nil => rfl
  | _, _, .cons (a := kv) (b := e) ⟨h1, h2⟩ t => by
    rw [List.any_cons, List.any_cons, any_kvs m t]
    congr 1
    refine decide_eq_decide.mpr ?_
    have h1 : kv.1 = Sum.inl ((e.1 : Nat) : Int) := h1
    rw [h1]
    exact ⟨fun z => inl_inj z, fun z => by rw [z]⟩
theorem map_kvs {H : Hp} {m : Nat} {v : V} {x : α} (hv : A.Val H v x) : ∀ {kvs : List (Key × V)} {l : List (Nat × α)}, KvsA A H kvs l → KvsA A H (kvs.map fun kv => if kv.1 = Sum.inl ((m : Nat) : Int) then (kv.1, v) else kv) (l.map fun p => if p.1 = m then (p.1, x) else p)
  | _, _, .nil => .nil
  | _, _, .cons (a := kv) (b := e) ⟨h1, h2⟩ t => by
    refine .cons ?_ (map_kvs hv t)
    have h1 : kv.1 = Sum.inl ((e.1 : Nat) : Int) := h1
    dsimp only
    by_cases z : e.1 = m
    · rw [if_pos z, if_pos (by rw [h1, z])]
      exact ⟨h1, hv⟩
    · rw [if_neg z, if_neg (fun q => z (inl_inj (h1.symm.trans q)))]
      exact ⟨h1, h2⟩
theorem kvs_put {H : Hp} {m : Nat} {v : V} {x : α} (hv : A.Val H v x) {kvs : List (Key × V)} {l : List (Nat × α)} (h : KvsA A H kvs l) : KvsA A H (putK kvs (Sum.inl ((m : Nat) : Int)) v) (MT.putA l m x) := by
  unfold putK MT.putA
  rw [any_kvs m h]
  by_cases z : (l.any fun p => decide (p.1 = m)) = true
  · rw [if_pos z, if_pos z]
    have e : (kvs.map fun kv => if kv.1 = Sum.inl ((m : Nat) : Int) then (kv.1, v) else kv) = kvs.map fun kv => if kv.1 = Sum.inl ((m : Nat) : Int) then (Sum.inl ((m : Nat) : Int), v) else kv := List.map_congr_left fun kv _ => by
      by_cases q : kv.1 = Sum.inl ((m : Nat) : Int)
      · rw [if_pos q, if_pos q, q]
      · rw [if_neg q, if_neg q]
    have g := map_kvs (m := m) hv h
    first
      | exact g
      | (rw [e] at g; exact g)
  · rw [if_neg z, if_neg z]
    exact paired_snoc h ⟨rfl, hv⟩
end
/-! ### what lies behind a row, by integers -/
def intS : MT.Sr Int where
  add := (· + ·)
  mul := (· * ·)
  zero := 0
  one := 1
  add_comm := Int.add_comm
  add_assoc := Int.add_assoc
  add_zero := Int.add_zero
  mul_assoc := Int.mul_assoc
  mul_comm := Int.mul_comm
  mul_add := Int.mul_add
  mul_zero := Int.mul_zero
  mul_one := Int.mul_one
def intA (K : PySem.W.Frag) : Ar K Int where
  S := intS
  Val := fun _ v x => v = .int x
  keep := fun _ h => h
  Sz := fun _ _ _ => True
  sz_le := fun _ _ => trivial
  sz_add := fun _ _ => trivial
  sz_mul := fun _ _ => trivial
  sz_zero := fun _ => trivial
def addI (l : List (Nat × Int)) (es : List (Nat × Int)) : List (Nat × Int) := es.foldl (fun l e => MT.addA intS l e.1 e.2) l
theorem addI_app (l a b : List (Nat × Int)) : addI l (a ++ b) = addI (addI l a) b := List.foldl_append
theorem put_get (l : List (Nat × Int)) (m : Nat) (x : Int) (k : Nat) : MT.getA intS (MT.putA l m x) k = if k = m then x else MT.getA intS l k := by
  unfold MT.putA
  by_cases h : (l.any fun p => decide (p.1 = m)) = true
  · rw [if_pos h]
    have hx : ∃ p ∈ l, p.1 = m := by
      obtain ⟨p, hp, e⟩ := List.any_eq_true.mp h
      exact ⟨p, hp, of_decide_eq_true e⟩
    clear h
    induction l with
    | nil =>
      obtain ⟨p, hp, _⟩ := hx
      cases hp
    | cons p t ih =>
      rw [List.map_cons, MT.get_cons, MT.get_cons]
      by_cases e : p.1 = m
      · rw [if_pos e]
        by_cases z : k = m
        · rw [if_pos z, if_pos (show p.1 = k from e.trans z.symm)]
        · rw [if_neg z, if_neg (show ¬ p.1 = k from fun w => z (w.symm.trans e))]
          by_cases ht : ∃ q ∈ t, q.1 = m
          · rw [ih ht, if_neg z, if_neg (show ¬ p.1 = k from fun w => z (w.symm.trans e))]
          · have : (t.map fun q => if q.1 = m then (q.1, x) else q) = t := by
              refine (List.map_congr_left fun q mq => ?_).trans (List.map_id t)
              rw [if_neg fun w => ht ⟨q, mq, w⟩]
              rfl
            rw [this, if_neg (show ¬ p.1 = k from fun w => z (w.symm.trans e))]
      · rw [if_neg e]
        have ht : ∃ q ∈ t, q.1 = m := by
          obtain ⟨q, hq, eq⟩ := hx
          rcases List.mem_cons.mp hq with w | w
          · exact absurd (w ▸ eq) e
          · exact ⟨q, w, eq⟩
        by_cases z : p.1 = k
        · rw [if_pos z, if_pos z, if_neg (fun w => e (z.trans w))]
        · rw [if_neg z, if_neg z, ih ht]
  · rw [if_neg h]
    have hm : ∀ p ∈ l, p.1 ≠ m := fun p hp e => h (List.any_eq_true.mpr ⟨p, hp, decide_eq_true e⟩)
    clear h
    induction l with
    | nil =>
      rw [List.nil_append, MT.get_cons]
      by_cases z : k = m
      · rw [if_pos z, if_pos z.symm]
      · rw [if_neg z, if_neg (fun w => z w.symm)]
    | cons p t ih =>
      rw [List.cons_append, MT.get_cons, MT.get_cons]
      by_cases z : p.1 = k
      · rw [if_pos z, if_neg (fun w => hm p List.mem_cons_self (z.trans w)), if_pos z]
      · rw [if_neg z, if_neg z, ih fun q mq => hm q (List.mem_cons_of_mem _ mq)]
def colI (es : List (Nat × Int)) (k : Nat) : Int := ((es.filter fun e => decide (e.1 = k)).map fun e => e.2).sum
theorem colI_cons (e : Nat × Int) (es : List (Nat × Int)) (k : Nat) : colI (e :: es) k = (if e.1 = k then e.2 else 0) + colI es k := by
  unfold colI
  by_cases h : e.1 = k
  · rw [List.filter_cons_of_pos (by exact decide_eq_true h), if_pos h, List.map_cons, List.sum_cons]
  · rw [List.filter_cons_of_neg (by rw [decide_eq_false h]; decide), if_neg h, Int.zero_add]
theorem colI_app (a b : List (Nat × Int)) (k : Nat) : colI (a ++ b) k = colI a k + colI b k := by
  unfold colI
  rw [List.filter_append, List.map_append, List.sum_append]
theorem addI_get (es : List (Nat × Int)) (k : Nat) : ∀ l, MT.getA intS (addI l es) k = MT.getA intS l k + colI es k := by
  induction es with
  | nil => exact fun l => (Int.add_zero _).symm
  | cons e es ih =>
    intro l
    show MT.getA intS (addI (MT.addA intS l e.1 e.2) es) k = _
    rw [ih, colI_cons]
    unfold MT.addA
    rw [put_get]
    by_cases h : k = e.1
    · rw [if_pos h, if_pos h.symm, h]
      show MT.getA intS l e.1 + e.2 + _ = _
      rw [Int.add_assoc]
    · rw [if_neg h, if_neg (fun w => h w.symm), Int.zero_add]
theorem addI_keys (es : List (Nat × Int)) : ∀ l, (MT.keysA l).Nodup → (MT.keysA (addI l es)).Nodup ∧ ∀ k, k ∈ MT.keysA (addI l es) ↔ k ∈ MT.keysA l ∨ ∃ e ∈ es, e.1 = k := by
  induction es with
  | nil => exact fun l h => ⟨h, fun k => ⟨.inl, fun w => w.resolve_right fun ⟨_, m, _⟩ => absurd m List.not_mem_nil⟩⟩
  | cons e es ih =>
    intro l h
    have hn : (MT.keysA (MT.addA intS l e.1 e.2)).Nodup := MT.nodup_put h _ _
    obtain ⟨h1, h2⟩ := ih _ hn
    refine ⟨h1, fun k => (h2 k).trans ?_⟩
    have hk : k ∈ MT.keysA (MT.addA intS l e.1 e.2) ↔ k ∈ MT.keysA l ∨ k = e.1 := by
      unfold MT.addA
      rw [MT.keys_put]
      split
      · rename_i hm
        exact ⟨.inl, fun w => w.elim id fun z => z ▸ hm⟩
      · rw [List.mem_append, List.mem_singleton]
    rw [hk]
    constructor
    · rintro ((w | w) | ⟨f, m, w⟩)
      · exact .inl w
      · exact .inr ⟨e, List.mem_cons_self, w.symm⟩
      · exact .inr ⟨f, List.mem_cons_of_mem _ m, w⟩
    · rintro (w | ⟨f, m, w⟩)
      · exact .inl (.inl w)
      · rcases List.mem_cons.mp m with z | m
        · exact .inl (.inr (by rw [← w, z]))
        · exact .inr ⟨f, m, w⟩
def rowAt (tab : List (List (Nat × Rat))) (k : Nat) : List (Nat × Rat) := tab.getD k []
def div1 (tab : List (List (Nat × Rat))) (row : List (Nat × Rat)) : List (Nat × Rat) := row.map fun e => (e.1, e.2 / ((rowC (rowAt tab e.1) : Nat) : Rat))
def prodI (tab : List (List (Nat × Rat))) (p : Nat × Int) : List (Nat × Int) := (rowN (rowAt tab p.1)).map fun f => (f.1, p.2 * f.2)
def prodsI (tab : List (List (Nat × Rat))) (parts : List (Nat × Int)) : List (Nat × Int) := parts.flatMap (prodI tab)
def colR (row : List (Nat × Rat)) (k : Nat) : Rat := sumR ((row.filter fun f => decide (f.1 = k)).map fun f => f.2)
def behF (tab : List (List (Nat × Rat))) (row : List (Nat × Rat)) (k : Nat) : Rat := sumR (row.map fun e => e.2 * colR (rowAt tab e.1) k)
theorem lcmD_ne (l : List Rat) : lcmD l ≠ 0 := by
  have go : ∀ (l : List Rat) (c : Nat), c ≠ 0 → l.foldl (fun c r => Nat.lcm c r.den) c ≠ 0 := fun l => by
    induction l with
    | nil => exact fun c h => h
    | cons r l ih => exact fun c h => ih _ (Nat.lcm_ne_zero h r.den_nz)
  exact go l 1 (by decide)
theorem colI_row (row : List (Nat × Rat)) (c : Nat) (z : Int) (k : Nat) (h : ∀ e ∈ row, e.2.den ∣ c) : ((colI ((row.map fun e => (e.1, intN c e.2)).map fun f => (f.1, z * f.2)) k : Int) : Rat) = (z : Rat) * (colR row k * (c : Rat)) := by
  induction row with
  | nil =>
    show ((0 : Int) : Rat) = (z : Rat) * (0 * (c : Rat))
    rw [Rat.zero_mul, Rat.mul_zero]
    rfl
  | cons e row ih =>
    have ih := ih fun f m => h f (List.mem_cons_of_mem _ m)
    rw [List.map_cons, List.map_cons, colI_cons, Rat.intCast_add, ih]
    have hv := intN_val (h e List.mem_cons_self)
    show (((if e.1 = k then z * intN c e.2 else 0 : Int)) : Rat) + _ = _
    unfold colR
    by_cases w : e.1 = k
    · rw [if_pos w, List.filter_cons_of_pos (by exact decide_eq_true w), List.map_cons, sumR, Rat.intCast_mul, hv]
      generalize sumR _ = S
      generalize (c : Rat) = C
      grind
    · rw [if_neg w, List.filter_cons_of_neg (by rw [decide_eq_false w]; decide)]
      show ((0 : Int) : Rat) + _ = _
      rw [show ((0 : Int) : Rat) = 0 from rfl, Rat.zero_add]
theorem colI_behind (tab : List (List (Nat × Rat))) (k : Nat) (C : Nat) : ∀ row : List (Nat × Rat), (∀ e ∈ div1 tab row, e.2.den ∣ C) → ((colI (prodsI tab ((div1 tab row).map fun e => (e.1, intN C e.2))) k : Int) : Rat) = behF tab row k * (C : Rat)
  | [], _ => by
    show ((0 : Int) : Rat) = 0 * _
    rw [Rat.zero_mul]
    rfl
  | e :: row, h => by
    have ih := colI_behind tab k C row fun f m => h f (List.mem_cons_of_mem _ m)
    have h1 := h _ (show (e.1, e.2 / ((rowC (rowAt tab e.1) : Nat) : Rat)) ∈ div1 tab (e :: row) from List.mem_cons_self)
    have hv := intN_val h1
    have e1 : prodsI tab ((div1 tab (e :: row)).map fun e => (e.1, intN C e.2)) = prodI tab (e.1, intN C (e.2 / ((rowC (rowAt tab e.1) : Nat) : Rat))) ++ prodsI tab ((div1 tab row).map fun e => (e.1, intN C e.2)) := rfl
    rw [e1, colI_app, Rat.intCast_add, ih]
    have h2 := colI_row (rowAt tab e.1) (rowC (rowAt tab e.1)) (intN C (e.2 / ((rowC (rowAt tab e.1) : Nat) : Rat))) k fun f m => den_lcmD (List.mem_map.mpr ⟨f, m, rfl⟩)
    have e2 : prodI tab (e.1, intN C (e.2 / ((rowC (rowAt tab e.1) : Nat) : Rat))) = ((rowAt tab e.1).map fun f => (f.1, intN (rowC (rowAt tab e.1)) f.2)).map fun f => (f.1, intN C (e.2 / ((rowC (rowAt tab e.1) : Nat) : Rat)) * f.2) := rfl
    rw [e2, h2, hv]
    have hc : ((rowC (rowAt tab e.1) : Nat) : Rat) ≠ 0 := fun z => lcmD_ne _ (Rat.natCast_inj.mp (z : ((rowC (rowAt tab e.1) : Nat) : Rat) = ((0 : Nat) : Rat)))
    unfold behF
    rw [List.map_cons, sumR]
    generalize ((rowC (rowAt tab e.1) : Nat) : Rat) = c at *
    generalize colR (rowAt tab e.1) k = R at *
    generalize sumR _ = S at *
    generalize (C : Rat) = D at *
    have hc2 : c⁻¹ * c = 1 := by rw [Rat.mul_comm]; exact Rat.mul_inv_cancel _ hc
    rw [Rat.div_def]
    grind
/-! ### data that may be laid -/
def Gd (n : Nat) (d : PyData) : Prop := d.canLay0 = true ∧ d.depth ≤ n
theorem gd_int (i : Int) : Gd 3 (.int i) := ⟨by simp [PyData.canLay0], by simp [PyData.depth]⟩
theorem gd_all {n : Nat} : ∀ {ds : List PyData}, (∀ x ∈ ds, Gd n x) → PyData.canLayAll0 ds = true ∧ PyData.depthAll ds ≤ n
  | [], _ => ⟨by simp [PyData.canLayAll0], by simp [PyData.depthAll]⟩
  | d :: ds, h => by
    obtain ⟨h1, h2⟩ := h d List.mem_cons_self
    obtain ⟨h3, h4⟩ := gd_all fun x m => h x (List.mem_cons_of_mem _ m)
    simp only [PyData.canLayAll0, PyData.depthAll, h1, h3, Bool.and_self, true_and]
    omega
theorem gd_tup {n : Nat} {ds : List PyData} (h : ∀ x ∈ ds, Gd n x) : Gd (n + 1) (.tuple ds) := by
  obtain ⟨h1, h2⟩ := gd_all h
  refine ⟨by simp only [PyData.canLay0, h1], ?_⟩
  simp only [PyData.depth]
  omega
theorem gd_lst {n : Nat} {ds : List PyData} (h : ∀ x ∈ ds, Gd n x) : Gd (n + 1) (.list ds) := by
  obtain ⟨h1, h2⟩ := gd_all h
  refine ⟨by simp only [PyData.canLay0, h1], ?_⟩
  simp only [PyData.depth]
  omega
theorem Gd.up {n m : Nat} {d : PyData} (h : Gd n d) (k : n ≤ m) : Gd m d := ⟨h.1, Nat.le_trans h.2 k⟩
theorem Gd.sh {n : Nat} {d : PyData} (h : Gd n d) (k : n ≤ 64 := by decide) : SeqAt.shaped d = true := by
  unfold SeqAt.shaped
  rw [h.1, Bool.true_and]
  exact decide_eq_true (Nat.le_trans h.2 k)
theorem eqv_self {n : Nat} {d : PyData} (h : Gd n d) : PyData.eqv d d = true := SeqAt.eqv_refl d h.1
def frD (r : Rat) : PyData := .tuple [.int (fq r).1, .int (fq r).2]
theorem gd_frD (r : Rat) : Gd 4 (frD r) := gd_tup fun x m => by
  simp only [List.mem_cons, List.not_mem_nil, or_false] at m
  rcases m with rfl | rfl <;> exact gd_int _
theorem fr_dp {H : Hp} {v : V} {r : Rat} (h : FrV K H v r) : Dp K H v (frD r) := by
  obtain ⟨a, rfl, g⟩ := h
  exact .tup g (.cons (.int _) (.cons (.int _) .nil))
theorem fq_inj {r s : Rat} (h : fq r = fq s) : r = s := by
  have h1 : r.num = s.num := (Prod.mk.inj h).1
  have h2 : r.den = s.den := Int.ofNat.inj (Prod.mk.inj h).2
  exact Rat.ext h1 h2
theorem eqv_fr (r s : Rat) : PyData.eqv (frD r) (frD s) = decide (r = s) := by
  by_cases h : r = s
  · subst h
    rw [eqv_self (gd_frD r), decide_eq_true rfl]
  · rw [decide_eq_false h]
    unfold frD
    have : ¬ ((fq r).1 = (fq s).1 ∧ (fq r).2 = (fq s).2) := fun z => h (fq_inj (Prod.ext z.1 z.2))
    simp only [PyData.eqv, PyData.eqvAll]
    simp
    omega
theorem ne_zero_test {H : Hp} {v : V} {r : Rat} {t : Addr} {Q : VK} (h : FrV K H v r) (ht : H t = some (.tup [.int 0, .int 1])) (q : Q (.bl (decide (r ≠ 0))) H) : rNeD K v (.ref t) H Q := by
  refine ⟨frD r, frD 0, fr_dp h, .tup (SqT.of ht) (.cons (.int _) (.cons (.int _) .nil)), (gd_frD _).sh, (gd_frD _).sh, ?_⟩
  rw [eqv_fr]
  have : (!decide (r = 0)) = decide (r ≠ 0) := by by_cases h : r = 0 <;> simp [h]
  rw [this]
  exact q
/-! ### rows of a table from a dict -/
/-- the places below N where f is not 0, in order -/
def rowR (N : Nat) (f : Nat → Rat) : List (Nat × Rat) := ((List.range N).filter fun k => decide (f k ≠ 0)).map fun k => (k, f k)
theorem sorted_two : ∀ {xs ys : List Nat}, xs.Pairwise (· < ·) → ys.Pairwise (· < ·) → (∀ k, k ∈ xs ↔ k ∈ ys) → xs = ys
  | [], [], _, _, _ => rfl
  | [], y :: ys, _, _, h => absurd ((h y).mpr List.mem_cons_self) List.not_mem_nil
  | x :: xs, [], _, _, h => absurd ((h x).mp List.mem_cons_self) List.not_mem_nil
  | x :: xs, y :: ys, hx, hy, h => by
    obtain ⟨x1, x2⟩ := List.pairwise_cons.mp hx
    obtain ⟨y1, y2⟩ := List.pairwise_cons.mp hy
    have e : x = y := by
      rcases List.mem_cons.mp ((h x).mp List.mem_cons_self) with e | m
      · exact e
      · rcases List.mem_cons.mp ((h y).mpr List.mem_cons_self) with e | m'
        · exact e.symm
        · have := y1 x m
          have := x1 y m'
          omega
    subst e
    congr 1
    refine sorted_two x2 y2 fun k => ⟨fun m => ?_, fun m => ?_⟩
    · rcases List.mem_cons.mp ((h k).mp (List.mem_cons_of_mem _ m)) with e | m'
      · have := x1 k m
        omega
      · exact m'
    · rcases List.mem_cons.mp ((h k).mpr (List.mem_cons_of_mem _ m)) with e | m'
      · have := y1 k m
        omega
      · exact m'
theorem rowR_of {N : Nat} {f : Nat → Rat} {ks : List Nat} (hs : ks.Pairwise (· ≤ ·)) (hn : ks.Nodup) (hN : ∀ k ∈ ks, k < N) (h0 : ∀ k, k ∉ ks → f k = 0) : (ks.filter fun k => decide (f k ≠ 0)).map (fun k => (k, f k)) = rowR N f := by
  unfold rowR
  congr 1
  refine sorted_two ?_ (List.pairwise_lt_range.filter _) fun k => ?_
  · have : ks.Pairwise (· < ·) := (hs.and hn).imp fun h => Nat.lt_of_le_of_ne h.1 h.2
    exact this.filter _
  · rw [List.mem_filter, List.mem_filter, List.mem_range]
    refine ⟨fun ⟨a, b⟩ => ⟨hN k a, b⟩, fun ⟨a, b⟩ => ⟨Decidable.byContradiction fun z => of_decide_eq_true b (h0 k z), b⟩⟩
theorem rowR_congr {N : Nat} {f g : Nat → Rat} (h : ∀ k < N, f k = g k) : rowR N f = rowR N g := by
  unfold rowR
  rw [List.filter_congr fun k m => by rw [h k (List.mem_range.mp m)]]
  refine List.map_congr_left fun k m => ?_
  rw [h k (List.mem_range.mp (List.mem_filter.mp m).1)]
/-- a dict from ints to fractions -/
structure DFr (K : PySem.W.Frag) (H : Hp) (d : Addr) (ks : List Nat) (f : Nat → Rat) : Prop where
  nd : ks.Nodup
  ex : ∃ kvs : List (Key × V), H d = some (.dK kvs) ∧ Paired (fun (kv : Key × V) k => kv.1 = Sum.inl ((k : Nat) : Int) ∧ FrV K H kv.2 (f k)) kvs ks
theorem dfr_up {H H' : Hp} (s : Ext H H') {d : Addr} {ks : List Nat} {f : Nat → Rat} (h : DFr K H d ks f) : DFr K H' d ks f := by
  obtain ⟨nd, kvs, g, p⟩ := h
  exact ⟨nd, kvs, s.keep _ _ g (fun _ z => by cases z), paired_imp (fun _ _ z => ⟨z.1, by
    obtain ⟨a, e, k⟩ := z.2
    exact ⟨a, e, s.tup k⟩⟩) p⟩
theorem lookK_of {H : Hp} {f : Nat → Rat} : ∀ {kvs : List (Key × V)} {ks : List Nat}, Paired (fun (kv : Key × V) k => kv.1 = Sum.inl ((k : Nat) : Int) ∧ FrV K H kv.2 (f k)) kvs ks → ∀ k ∈ ks, ∃ v, valV kvs (Sum.inl ((k : Nat) : Int)) = some v ∧ FrV K H v (f k)
  | _, _, .nil, k, m => absurd m List.not_mem_nil
  | kv :: kvs, j :: ks, .cons ⟨e, h⟩ p, k, m => by
    by_cases z : j = k
    · exact ⟨kv.2, valV_pos (by rw [e, z]), z ▸ h⟩
    · have m' : k ∈ ks := (List.mem_cons.mp m).resolve_left (fun y => z y.symm)
      obtain ⟨v, h1, h2⟩ := lookK_of p k m'
      exact ⟨v, by rw [valV_neg (fun y => z (by rw [e] at y; exact Int.ofNat.inj (Sum.inl.inj y)))]; exact h1, h2⟩
theorem keysK_of {H : Hp} {f : Nat → Rat} : ∀ {kvs : List (Key × V)} {ks : List Nat}, Paired (fun (kv : Key × V) k => kv.1 = Sum.inl ((k : Nat) : Int) ∧ FrV K H kv.2 (f k)) kvs ks → kvs.map (·.1) = (ks.map fun k => ((k : Nat) : Int)).map Sum.inl
  | _, _, .nil => rfl
  | _, _, .cons ⟨e, _⟩ p => by rw [List.map_cons, List.map_cons, List.map_cons, keysK_of p, e]
theorem nats_of : ∀ {ys : List Int}, (∀ y ∈ ys, 0 ≤ y) → ∃ ks : List Nat, ys = ks.map fun k => ((k : Nat) : Int)
  | [], _ => ⟨[], rfl⟩
  | y :: ys, h => by
    obtain ⟨ks, e⟩ := nats_of (ys := ys) fun z m => h z (List.mem_cons_of_mem _ m)
    have := h y List.mem_cons_self
    exact ⟨y.toNat :: ks, by rw [List.map_cons, ← e, Int.toNat_of_nonneg this]⟩
theorem prvs_upd {H : Hp} {D : Addr} {o : HO} {acc : List V} {xs : List V} {es : List (Nat × Rat)} (hD : H D = some (.lst acc)) (h : Paired (PrV K H) xs es) : Paired (PrV K (upd H D o)) xs es := paired_imp (fun _ _ ⟨a, wv, e1, g, b, k1, k2⟩ => ⟨a, wv, e1, sqt_updL hD g, b, k1, sqt_updL hD k2⟩) h
/-! ### _row_behind -/
theorem num_le_den {r : Rat} (h0 : 0 < r) (h1 : r ≤ 1) : r.num.natAbs ≤ r.den := by
  have e := mul_den r
  have hd : (0 : Rat) ≤ ((r.den : Nat) : Rat) := Rat.natCast_nonneg
  have hn : (0 : Int) ≤ r.num := Rat.num_nonneg.mpr (Rat.le_of_lt h0)
  have : ((r.num : Int) : Rat) ≤ ((r.den : Nat) : Rat) := by
    rw [← e]
    have := Rat.mul_le_mul_of_nonneg_right h1 hd
    rwa [Rat.one_mul] at this
  have h2 : r.num ≤ ((r.den : Nat) : Int) := Rat.intCast_le_intCast.mp this
  omega
theorem den_div {r : Rat} {c : Nat} (hc : c ≠ 0) : (r / (c : Rat)).den ∣ r.den * c := by
  have hd : ((r.den : Nat) : Rat) ≠ 0 := fun z => r.den_nz (Rat.natCast_inj.mp (z : ((r.den : Nat) : Rat) = ((0 : Nat) : Rat)))
  have hc2 : (c : Rat) ≠ 0 := fun z => hc (Rat.natCast_inj.mp (z : (c : Rat) = ((0 : Nat) : Rat)))
  have e : r / (c : Rat) = Rat.divInt r.num ((r.den * c : Nat) : Int) := by
    rw [Rat.divInt_eq_div, ← mul_den r, Rat.intCast_natCast, Rat.natCast_mul]
    generalize ((r.den : Nat) : Rat) = d at *
    generalize (c : Rat) = C at *
    grind
  rw [e]
  have hne : r.den * c ≠ 0 := Nat.mul_ne_zero r.den_nz hc
  rw [Rat.den_divInt, if_neg (by omega)]
  have hg : Int.gcd ((r.den * c : Nat) : Int) r.num ∣ (((r.den * c : Nat) : Int)).natAbs := Nat.gcd_dvd_left _ _
  exact Nat.div_dvd_of_dvd hg
theorem rowAt_at {tab : List (List (Nat × Rat))} {k : Nat} {rw : List (Nat × Rat)} (h : tab[k]? = some rw) : rowAt tab k = rw := by
  unfold rowAt
  rw [List.getD_eq_getElem?_getD, h]
  rfl
theorem rowC_dvd {row : List (Nat × Rat)} {M : Nat} (h : ∀ e ∈ row, e.2.den ∣ M) : rowC row ∣ M := lcmD_dvd fun r m => by
  obtain ⟨e, me, rfl⟩ := List.mem_map.mp m
  exact h e me
theorem sm_part {r : Rat} {M : Nat} (h : r.den ∣ M) (hM : M ≠ 0) (hM2 : M < 2 ^ 1900) (h0 : 0 < r) (h1 : r ≤ 1) : Sm r := by
  have hd : r.den < 2 ^ 1900 := Nat.lt_of_le_of_lt (Nat.le_of_dvd (Nat.pos_of_ne_zero hM) h) hM2
  refine ⟨Nat.lt_of_le_of_lt (num_le_den h0 h1) hd, ?_⟩
  show ((r.den : Nat) : Int).natAbs < 2 ^ 1900
  rw [Int.natAbs_natCast]
  exact hd
theorem colR_zero {row : List (Nat × Rat)} {k : Nat} (h : ∀ f ∈ row, f.1 ≠ k) : colR row k = 0 := by
  unfold colR
  have : (row.filter fun f => decide (f.1 = k)) = [] := List.filter_eq_nil_iff.mpr fun f m w => h f m (of_decide_eq_true w)
  rw [this]
  rfl
theorem colR_pos {row : List (Nat × Rat)} {k : Nat} (hp : ∀ f ∈ row, 0 < f.2) (h : ∃ f ∈ row, f.1 = k) : 0 < colR row k := by
  unfold colR
  obtain ⟨f, mf, e⟩ := h
  refine sumR_pos _ (fun z => ?_) fun r m => ?_
  · have : f.2 ∈ (row.filter fun f => decide (f.1 = k)).map fun f => f.2 := List.mem_map.mpr ⟨f, List.mem_filter.mpr ⟨mf, decide_eq_true e⟩, rfl⟩
    rw [z] at this
    cases this
  · obtain ⟨g, mg, rfl⟩ := List.mem_map.mp m
    exact hp g (List.mem_filter.mp mg).1
theorem colR_nonneg {row : List (Nat × Rat)} {k : Nat} (hp : ∀ f ∈ row, 0 < f.2) : 0 ≤ colR row k := by
  by_cases h : ∃ f ∈ row, f.1 = k
  · exact Rat.le_of_lt (colR_pos hp h)
  · rw [colR_zero fun f m e => h ⟨f, m, e⟩]
    exact Rat.le_refl
theorem behF_zero {tab : List (List (Nat × Rat))} {k : Nat} : ∀ {row : List (Nat × Rat)}, (∀ e ∈ row, ∀ f ∈ rowAt tab e.1, f.1 ≠ k) → behF tab row k = 0
  | [], _ => rfl
  | e :: row, h => by
    have ih := behF_zero (tab := tab) (k := k) (row := row) fun g m => h g (List.mem_cons_of_mem _ m)
    unfold behF at ih ⊢
    rw [List.map_cons, sumR, ih, colR_zero (h e List.mem_cons_self), Rat.mul_zero, Rat.add_zero]
theorem behF_nonneg {tab : List (List (Nat × Rat))} {k : Nat} : ∀ {row : List (Nat × Rat)}, (∀ e ∈ row, 0 < e.2 ∧ ∀ f ∈ rowAt tab e.1, 0 < f.2) → 0 ≤ behF tab row k
  | [], _ => Rat.le_refl
  | e :: row, h => by
    have ih := behF_nonneg (tab := tab) (k := k) (row := row) fun g m => h g (List.mem_cons_of_mem _ m)
    obtain ⟨h1, h2⟩ := h e List.mem_cons_self
    have h3 := Rat.mul_nonneg (Rat.le_of_lt h1) (colR_nonneg (k := k) h2)
    unfold behF at ih ⊢
    rw [List.map_cons, sumR]
    exact Rat.add_nonneg h3 ih
theorem behF_pos {tab : List (List (Nat × Rat))} {k : Nat} : ∀ {row : List (Nat × Rat)}, (∀ e ∈ row, 0 < e.2 ∧ ∀ f ∈ rowAt tab e.1, 0 < f.2) → (∃ e ∈ row, ∃ f ∈ rowAt tab e.1, f.1 = k) → 0 < behF tab row k
  | [], _, h => by
    obtain ⟨e, m, _⟩ := h
    cases m
  | e :: row, h, hx => by
    have ih0 := behF_nonneg (tab := tab) (k := k) (row := row) fun g m => h g (List.mem_cons_of_mem _ m)
    obtain ⟨h1, h2⟩ := h e List.mem_cons_self
    have h3 := Rat.mul_nonneg (Rat.le_of_lt h1) (colR_nonneg (k := k) h2)
    obtain ⟨g, mg, f, mf, ef⟩ := hx
    unfold behF at ih0 ⊢
    rw [List.map_cons, sumR]
    rcases List.mem_cons.mp mg with w | w
    · rw [w] at mf
      have h4 := Rat.mul_pos h1 (colR_pos h2 ⟨f, mf, ef⟩)
      generalize e.2 * colR (rowAt tab e.1) k = A at *
      generalize sumR _ = B at *
      grind
    · have h5 := behF_pos (tab := tab) (k := k) (row := row) (fun g m => h g (List.mem_cons_of_mem _ m)) ⟨g, w, f, mf, ef⟩
      unfold behF at h5
      generalize e.2 * colR (rowAt tab e.1) k = A at *
      generalize sumR _ = B at *
      grind
theorem keysI_of {H : Hp} : ∀ {kvs : List (Key × V)} {l : List (Nat × Int)}, KvsA (intA K) H kvs l → kvs.map (·.1) = ((MT.keysA l).map fun k => ((k : Nat) : Int)).map Sum.inl
  | _, _, .nil => rfl
  | _, _, .cons (a := kv) (b := e) (l₁ := kvs) (l₂ := l) ⟨h1, _⟩ t => by
    have ih := keysI_of t
    show kv.1 :: kvs.map (·.1) = Sum.inl ((e.1 : Nat) : Int) :: ((MT.keysA l).map fun k => ((k : Nat) : Int)).map Sum.inl
    rw [ih, h1]
theorem nodup_lt {l : List Nat} {N : Nat} (h : l.Nodup) (hN : ∀ k ∈ l, k < N) : l.length ≤ N := by
  have p : ((List.range N).filter fun k => decide (k ∈ l)).Perm l := by
    refine (List.perm_ext_iff_of_nodup (List.nodup_range.filter _) h).mpr fun k => ?_
    rw [List.mem_filter]
    exact ⟨fun w => of_decide_eq_true w.2, fun w => ⟨List.mem_range.mpr (hN k w), decide_eq_true w⟩⟩
  rw [← p.length_eq]
  refine Nat.le_trans (List.length_filter_le _ _) ?_
  rw [List.length_range]
  exact Nat.le_refl _
theorem intN_le {c : Nat} {r : Rat} (h : r.den ∣ c) (h0 : 0 < r) (h1 : r ≤ 1) : (intN c r).natAbs ≤ c := by
  have hv := intN_val h
  have hc : (0 : Rat) ≤ (c : Rat) := Rat.natCast_nonneg
  have e1 : ((intN c r : Int) : Rat) ≤ ((c : Int) : Rat) := by
    rw [hv]
    have := Rat.mul_le_mul_of_nonneg_right h1 hc
    rw [Rat.one_mul] at this
    exact this
  have e2 : ((0 : Int) : Rat) ≤ ((intN c r : Int) : Rat) := by
    rw [hv]
    exact Rat.mul_nonneg (Rat.le_of_lt h0) hc
  have h3 := Rat.intCast_le_intCast.mp e1
  have h4 := Rat.intCast_le_intCast.mp e2
  omega
theorem prvs_up {H H' : Hp} (s : Ext H H') {xs : List V} {es : List (Nat × Rat)} (h : Paired (PrV K H) xs es) : Paired (PrV K H') xs es := paired_imp (fun _ _ h => prv_up s h) h
/-- a row whose object is known -/
def RowF (K : PySem.W.Frag) (H : Hp) (v : V) (row : List (Nat × Rat)) : Prop := ∃ (a : Addr) (o : Obj) (ys : List V), v = .ref a ∧ H a = some (.frz o (.tup ys)) ∧ DTT.PlO o ∧ Paired (PrV K H) ys row
theorem RowF.rv {H : Hp} {v : V} {row : List (Nat × Rat)} (h : RowF K H v row) : RowV K H v row := by
  obtain ⟨a, o, ys, e, ha, _, hp⟩ := h
  exact ⟨a, ys, e, .inl (.inr ⟨o, ha⟩), hp⟩
def spBehind (T : Top K mg) : Sp := fun vs H Q _ => ∃ (a l D : Addr) (xs ys : List V) (row : List (Nat × Rat)) (tab : List (List (Nat × Rat))) (M1 M2 N : Nat), vs = [.ref a, .ref l] ∧ Sq K H a xs ∧ Paired (PrV K H) xs row ∧ H l = some (.lst ys) ∧ Paired (OverV K D H) ys tab ∧
  (∀ e ∈ row, e.2.den ∣ M1 ∧ 0 < e.2 ∧ e.2 ≤ 1 ∧ e.1 < tab.length) ∧ (∀ rw ∈ tab, rw.length ≤ 300 ∧ ∀ f ∈ rw, f.2.den ∣ M2 ∧ 0 < f.2 ∧ f.2 ≤ 1 ∧ f.1 < N) ∧ M1 ≠ 0 ∧ M2 ≠ 0 ∧ M1 * M2 < 2 ^ 1900 ∧ row.length ≤ 300 ∧ tab.length ≤ 300 ∧ N ≤ 63 ∧ Tg T H ∧
  ∀ v H', Ext H H' → RowF K H' v (rowR N (behF tab row)) → Q v H'
theorem ok_row_behind (T : Top K mg) (B : Tb T base) : FnOk P w K mg base CX0 3 T.f_row_behind T.d_row_behind ["pairs", "rows"] (spBehind T) := by
  refine T.F_row_behind.ok sc_row_behind (fun vs H Q E h => ?_) (fun A outer s H vs Q E hr h => ?_)
  · obtain ⟨a, l, D, xs, ys, row, tab, M1, M2, N, rfl, _⟩ := h
    rfl
  obtain ⟨a, l, D, xs, ys, row, tab, M1, M2, N, rfl, ha, hx, hl, hy, hrow, htab, hM1, hM2, hMM, lrow, ltab, hN, G, q⟩ := h
  refine ⟨_, (pss_cons (ps_asg (pe_call (ok_over_one_number T) (hr.mono (by decide)) (by rfl) T.g_over_one_number T.F_over_one_number.kp T.b_over_one_number .nil pass0 (pa_cons (pe_lc (own := [("index", 4), ("chance", 5)]) (g := gTup K 2 (gCons (gName 4) (gCons (gName 5) gNil))) (tt := tYes) rfl sc_row_behind.nd (pi_seqW (pv 0)) (blkOk_by (own := [("index", 4), ("chance", 5)]) (N := n_row_behind) (sc := defScope s_row_behind) (by decide +kernel)) (fun _ _ _ _ _ => (pg_tup rfl (pgs_cons (pg_name (i := 4) sc_row_behind.nd rfl (by first | exact .inl rfl | exact .inr rfl)) (pgs_cons (pg_name (i := 5) sc_row_behind.nd rfl (by first | exact .inl rfl | exact .inr rfl)) pgs_nil)))) (fun _ _ _ _ _ => pts_nil) (fun _ _ _ _ _ => (pe_tup (pa_cons (pv 4) (pa_cons (pe_call (ok_divide T) (hr.mono (by decide)) (by rfl) T.g_divide T.F_divide.kp T.b_divide .nil pass0 (pa_cons (pv 5) (pa_cons (pe_tup (pa_cons (pe_ix (r := rIxT K) ix_tup (pe_ix (r := rIxL K) ix_list (pv 1) (pv 4) (fun _ _ => rfl)) pe_int (fun _ _ => rfl)) (pa_cons pe_int pa_nil))) pa_nil))) pa_nil))))) pa_nil)) (pg_tup rfl (pgs_cons (pg_name (i := 2) sc_row_behind.nd rfl (by first | exact .inl rfl | exact .inr rfl)) (pgs_cons (pg_name (i := 3) sc_row_behind.nd rfl (by first | exact .inl rfl | exact .inr rfl)) pgs_nil))))
      (pss_cons (ps_set (i := 6) sc_row_behind.nd rfl (by first | exact .inl rfl | exact .inr rfl) pe_dnewK)
      (pss_cons (ps_for PassesOwn.never rfl (pi_list (pv 3)) (pg_tup rfl (pgs_cons (pg_name (i := 7) sc_row_behind.nd rfl (by first | exact .inl rfl | exact .inr rfl)) (pgs_cons (pg_name (i := 8) sc_row_behind.nd rfl (by first | exact .inl rfl | exact .inr rfl)) pgs_nil))) (pss_one (ps_for PassesOwn.never rfl (pi_list (pe_ix ix_tup (pe_ix ix_list (pv 1) (pv 7) (fun _ _ => rfl)) pe_int (fun _ _ => rfl))) (pg_tup rfl (pgs_cons (pg_name (i := 4) sc_row_behind.nd rfl (by first | exact .inl rfl | exact .inr rfl)) (pgs_cons (pg_name (i := 9) sc_row_behind.nd rfl (by first | exact .inl rfl | exact .inr rfl)) pgs_nil))) (pss_one (ps_dput (hu_of hr) (pv 6) (pv 4) (pe_op op_add (pe_dget2 (hu_of hr) (pv 6) (pv 4) pe_int ⟨rfl, rfl, rfl, rfl⟩) (pe_op op_mulW (pv 8) (pv 9))) rfl)))))
      (pss_one (ps_ret (DTT.pe_tupleGxF (own := [("index", 4)]) (g := gName 4) (tt := tYes) (k := 1) (c := T.c_row_behind) (P := T.P_row_behind) (by rfl) T.m_tuple ⟨hr.mono (by decide), rfl, B.t_row_behind, rfl, rfl, blkOk_by (own := [("index", 4)]) (N := n_row_behind) (sc := defScope s_row_behind) (by decide +kernel), sc_row_behind.nd, by decide +kernel, rfl, (pi_list (pe_callB (call_sortedDI rfl) (by rfl) T.m_sorted (by decide +kernel) (pa_cons (pv 6) pa_nil))), fun A s H C cl code bi fp hrA => (pg_name (i := 4) sc_row_behind.nd rfl (by first | exact .inl rfl | exact .inr rfl)), fun A s H C cl code bi fp hrA => pts_nil, fun A s H C cl code bi fp hrA => (pe_tup (pa_cons (pv 4) (pa_cons (pe_call (ok_fraction T) (hrA.mono (by decide)) (by rfl) T.g_fraction T.F_fraction.kp T.b_fraction .nil pass0 (pa_cons (pe_dget (hu_of hrA) (pv 6) (pv 4) (fun _ _ => rfl)) (pa_cons (pv 2) pa_nil))) pa_nil))), fun _ => rfl⟩)))))), ?_⟩
  have lx := hx.length
  have ly := hy.length
  dsimp only [gName]
  have ld : (div1 tab row).length = row.length := List.length_map _
  have hC2 : ∀ k < tab.length, rowC (rowAt tab k) ∣ M2 := fun k hk => by
    have e := List.getElem?_eq_getElem hk
    rw [rowAt_at e]
    exact rowC_dvd fun f m => ((htab _ (List.mem_of_getElem? e)).2 f m).1
  have hC0 : ∀ k, rowC (rowAt tab k) ≠ 0 := fun k => lcmD_ne _
  have hMs : M1 < 2 ^ 1900 ∧ M2 < 2 ^ 1900 := by
    have h1 := Nat.le_mul_of_pos_right M1 (Nat.pos_of_ne_zero hM2)
    have h2 := Nat.le_mul_of_pos_left M2 (Nat.pos_of_ne_zero hM1)
    exact ⟨Nat.lt_of_le_of_lt h1 hMM, Nat.lt_of_le_of_lt h2 hMM⟩
  have hdv : ∀ e ∈ div1 tab row, e.2.den ∣ M1 * M2 ∧ 0 < e.2 ∧ e.2 ≤ 1 ∧ e.1 < tab.length := fun e m => by
    obtain ⟨f, mf, rfl⟩ := List.mem_map.mp m
    obtain ⟨h1, h2, h3, h4⟩ := hrow f mf
    have hc1 : (1 : Rat) ≤ ((rowC (rowAt tab f.1) : Nat) : Rat) := Rat.intCast_le_intCast.mpr (show (1 : Int) ≤ ((rowC (rowAt tab f.1) : Nat) : Int) by have := hC0 f.1; omega)
    refine ⟨Nat.dvd_trans (den_div (hC0 f.1)) (Nat.mul_dvd_mul h1 (hC2 _ h4)), ?_, ?_, h4⟩
    · show 0 < f.2 / _
      rw [Rat.div_def]
      exact Rat.mul_pos h2 (Rat.inv_pos.mpr (Std.lt_of_lt_of_le (by decide : (0 : Rat) < 1) hc1))
    · show f.2 / _ ≤ 1
      have hcp := Std.lt_of_lt_of_le (by decide : (0 : Rat) < 1) hc1
      have hle : f.2 ≤ ((rowC (rowAt tab f.1) : Nat) : Rat) := Rat.le_trans h3 hc1
      have h5 := Rat.mul_le_mul_of_nonneg_right hle (Rat.le_of_lt (Rat.inv_pos.mpr hcp))
      rw [Rat.mul_inv_cancel _ (fun z => by rw [z] at hcp; exact absurd hcp (by decide))] at h5
      rw [Rat.div_def]
      exact h5
  refine ⟨_, rfl, a, xs, H, rfl, Ext.refl _, ha, fun J w L hL => w_seq w (fun i HN => Ext H HN ∧ ∃ zs, HN L = some (.lst zs) ∧ Paired (PrV K HN) zs ((div1 tab row).take i)) ⟨ext_upd hL, [], upd_same, .nil⟩ (fun i HN _ h => h.1) (fun i v HN hi hP => ?_) (fun HN hP => ?_)⟩
  · obtain ⟨sN, zs, hz, hzs⟩ := hP
    obtain ⟨⟨k, r⟩, hr2, a1, wv, rfl, ha1, c1, rfl, hc1⟩ := paired_at hx hi
    have hm := List.mem_of_getElem? hr2
    obtain ⟨d1, p0, p1, klt⟩ := hrow _ hm
    have klt : k < tab.length := klt
    have hyk := List.getElem?_eq_getElem (show k < ys.length by omega)
    obtain ⟨rw0, hrw, p, l', zs', ev, hp, hl', hip, nlD⟩ := paired_at hy hyk
    have erw := rowAt_at hrw
    have lz := hzs.length
    rw [List.length_take] at lz
    have hil := (List.getElem?_eq_some_iff.mp hr2).1
    refine ⟨a1, _, rfl, sN.tup ha1, rfl, _, _, rfl, _, _, rfl, rfl, ?_⟩
    refine ⟨rfl, _, rfl, _, rfl, _, rfl, _, rfl, l, ys, ((k : Nat) : Int), .ref p, rfl, rfl, SqL.of (sN.lst hl), atI_nat (ev ▸ hyk), p, _, 0, _, rfl, rfl, sN.tup hp, atI_nat (j := 0) rfl, sl2, fun t1 ht1 => ?_⟩
    have x1 := ext_upd (o := .tup [V.int ((rowC rw0 : Nat) : Int), .int 1]) ht1
    have f1 : Fr K (upd HN t1 (.tup [V.int ((rowC rw0 : Nat) : Int), .int 1])) t1 (fq ((rowC rw0 : Nat) : Rat)) := SqT.of upd_same
    have hz1 := x1.lst hz
    have hzs1 := prvs_up x1 hzs
    have hc1' := (sN.trans x1).tup hc1
    generalize upd HN t1 (.tup [V.int ((rowC rw0 : Nat) : Int), .int 1]) = H4 at *
    have hcd : rowC rw0 ∣ M2 := erw ▸ hC2 k klt
    have hcl : rowC rw0 < 2 ^ 1900 := Nat.lt_of_le_of_lt (Nat.le_of_dvd (Nat.pos_of_ne_zero hM2) hcd) hMs.2
    have hne : ((rowC rw0 : Nat) : Rat) ≠ 0 := fun z => lcmD_ne _ (Rat.natCast_inj.mp (z : ((rowC rw0 : Nat) : Rat) = ((0 : Nat) : Rat)))
    have sc : Sm ((rowC rw0 : Nat) : Rat) := ⟨by rw [SM.fq_nat, Int.natAbs_natCast]; exact hcl, by rw [SM.fq_nat]; exact Nat.lt_of_lt_of_le (by decide : 1 < 2 ^ 1) (Nat.pow_le_pow_right (by decide) (by decide))⟩
    have sr : Sm r := sm_part d1 hM1 hMs.1 p0 p1
    refine ⟨c1, t1, fq r, fq ((rowC rw0 : Nat) : Rat), rfl, hc1', f1, okD_of sr sc hne, fun p3 H6 s6 n6 hp6 => ⟨sl2, fun t2 ht2 => ?_⟩⟩
    rw [SM.divF_fq _ hne] at hp6
    have x2 := ext_upd (o := .tup [V.int ((k : Nat) : Int), .ref p3]) ht2
    have s46 := s6.ext.trans x2
    have hz2 := s46.lst hz1
    have hzs2 := prvs_up s46 hzs1
    have e2 : (div1 tab row)[i]? = some (k, r / ((rowC rw0 : Nat) : Rat)) := by
      unfold div1
      rw [List.getElem?_map, hr2]
      show some (k, r / ((rowC (rowAt tab k) : Nat) : Rat)) = _
      rw [erw]
    refine ⟨zs, hz2, sl_lt (by omega), ((sN.trans x1).trans s46).own hL, zs ++ [.ref t2], upd_same, ?_⟩
    rw [take_snoc e2]
    refine paired_snoc (prvs_upd hz2 hzs2) ⟨t2, .ref p3, rfl, sqt_updL hz2 (SqT.of upd_same), p3, rfl, sqt_updL hz2 (SqT.of (x2.at hp6))⟩
  · obtain ⟨sN, zs, hz, hzs⟩ := hP
    rw [lx, ← ld, List.take_length] at hzs
    have hMM0 : M1 * M2 ≠ 0 := Nat.mul_ne_zero hM1 hM2
    refine ⟨L, zs, div1 tab row, M1 * M2, rfl, .inl (SqL.of hz), hzs, fun e m => (hdv e m).1, hMM0, hMM, fun e m => ?_, by omega, fun p lq zq H3 s3 nl hp hlq hip => ?_⟩
    · obtain ⟨h1, h2, h3, _⟩ := hdv e m
      exact Nat.lt_of_le_of_lt (Nat.le_trans (num_le_den h2 h3) (Nat.le_of_dvd (Nat.pos_of_ne_zero hMM0) h1)) hMM
    refine ⟨p, _, rfl, hp, rfl, _, _, rfl, _, _, rfl, rfl, ?_⟩
    have s03 := sN.trans s3
    generalize hR' : div1 tab row = R' at *
    dsimp only [gName]
    refine fun d hd => ?_
    have xd := ext_upd (o := .dK []) hd
    have kd : upd H3 d (.dK []) d = some (.dK []) := upd_same
    have hlq4 := xd.lst hlq
    have hip4 := ip_up xd hip
    have nd0 := s03.free hd
    have s04 := s03.trans xd
    generalize upd H3 d (.dK []) = H4 at *
    have lzq := hip.length
    have hkp : ∀ i, ∀ e ∈ prodsI tab ((rowN R').take i), e.1 < N := fun i e me => by
      obtain ⟨pp, mp, me⟩ := List.mem_flatMap.mp me
      obtain ⟨rr, mr, rfl⟩ := List.mem_map.mp (List.mem_of_mem_take mp)
      obtain ⟨g0, mg0, rfl⟩ := List.mem_map.mp me
      obtain ⟨g1', mg1, rfl⟩ := List.mem_map.mp mg0
      have hk := (hdv rr mr).2.2.2
      have e0 := List.getElem?_eq_getElem hk
      have e1 : rowAt tab rr.1 = tab[rr.1] := rowAt_at e0
      rw [e1] at mg1
      exact ((htab _ (List.mem_of_getElem? e0)).2 g1' mg1).2.2.2
    have lR : (rowN R').length = R'.length := List.length_map _
    refine ⟨_, rfl, lq, rfl, ⟨_, SqL.of hlq4⟩, for_list (xs := zq) (fun i σ HA => ∃ y4 y5 y7 y8 y9 kvs, σ = [some (.ref a), some (.ref l), some (.int ((rowC R' : Nat) : Int)), some (.ref lq), y4, y5, some (.ref d), y7, y8, y9] ∧ (Ext H HA ∧ Keep H4 HA ∧ HA lq = some (.lst zq)) ∧ HA d = some (.dK kvs) ∧ KvsA (intA K) HA kvs (addI [] (prodsI tab ((rowN R').take i)))) ⟨_, _, _, _, _, [], rfl, ⟨s04, Keep.refl _, hlq4⟩, kd, .nil⟩ (fun i σ HA _ h => ?_) (fun i v σ HA hi hP => ?_) (fun σ HA hP => ?_)⟩
    · obtain ⟨_, _, _, _, _, _, _, ⟨_, _, h⟩, _⟩ := h
      exact SqL.of h
    · obtain ⟨y4, y5, y7, y8, y9, kvs, rfl, ⟨sA, kA, hlA⟩, hdA, hkv⟩ := hP
      obtain ⟨⟨k, z⟩, hpi, a2, rfl, ha2⟩ := paired_at hip4 hi
      have ha2 := kA.tup ha2
      obtain ⟨⟨k', r'⟩, hRi, ekz⟩ : ∃ e, R'[i]? = some e ∧ (e.1, intN (rowC R') e.2) = (k, z) := by
        unfold rowN at hpi
        rw [List.getElem?_map] at hpi
        exact Option.map_eq_some_iff.mp hpi
      have ek : k' = k := congrArg Prod.fst ekz
      have ez : intN (rowC R') r' = z := congrArg Prod.snd ekz
      subst ek
      have hmR := List.mem_of_getElem? hRi
      obtain ⟨g1, g2, g3, g4⟩ := hdv _ hmR
      have klt : k' < tab.length := g4
      have hCd : rowC R' ∣ M1 * M2 := rowC_dvd fun e m => (hdv e m).1
      have hCl : rowC R' < 2 ^ 1900 := Nat.lt_of_le_of_lt (Nat.le_of_dvd (Nat.pos_of_ne_zero hMM0) hCd) hMM
      have mz : mid z := by
        rw [← ez]
        exact Nat.lt_of_le_of_lt (intN_le (den_lcmD (List.mem_map.mpr ⟨_, hmR, rfl⟩)) g2 g3) hCl
      have hyk := List.getElem?_eq_getElem (show k' < ys.length by omega)
      obtain ⟨rw0, hrw, p2, l', zs', ev, hp2, hl', hip', nlD⟩ := paired_at hy hyk
      have erw := rowAt_at hrw
      obtain ⟨hr1, hr2⟩ := htab _ (List.mem_of_getElem? hrw)
      have hcd : rowC rw0 ∣ M2 := erw ▸ hC2 k' klt
      have hcl : rowC rw0 < 2 ^ 1900 := Nat.lt_of_le_of_lt (Nat.le_of_dvd (Nat.pos_of_ne_zero hM2) hcd) hMs.2
      have lzs := hip'.length
      have lrw : (rowN rw0).length = rw0.length := List.length_map _
      have epr : prodI tab (k', z) = (rowN rw0).map fun f => (f.1, z * f.2) := by
        unfold prodI
        rw [erw]
      refine ⟨a2, _, rfl, ha2, rfl, _, _, rfl, _, _, rfl, rfl, ?_⟩
      dsimp only [gName]
      refine ⟨_, rfl, _, rfl, l, ys, ((k' : Nat) : Int), .ref p2, rfl, rfl, SqL.of (sA.lst hl), atI_nat (ev ▸ hyk), p2, _, 1, _, rfl, rfl, sA.tup hp2, atI_nat (j := 1) rfl, l', rfl, ⟨_, SqL.of (sA.lst hl')⟩, for_list (xs := zs') (fun j σ HB => ∃ y4 y5 y9 kvs2, σ = [some (.ref a), some (.ref l), some (.int ((rowC R' : Nat) : Int)), some (.ref lq), y4, y5, some (.ref d), some (.int ((k' : Nat) : Int)), some (.int z), y9] ∧ (Ext H HB ∧ Keep H4 HB ∧ HB lq = some (.lst zq)) ∧ HB d = some (.dK kvs2) ∧ KvsA (intA K) HB kvs2 (addI (addI [] (prodsI tab ((rowN R').take i))) ((prodI tab (k', z)).take j))) ⟨_, _, _, kvs, rfl, ⟨sA, kA, hlA⟩, hdA, hkv⟩ (fun j σ HB _ h => ?_) (fun j v σ HB hj hP => ?_) (fun σ HB hP => ?_)⟩
      · obtain ⟨_, _, _, _, _, ⟨h, _, _⟩, _⟩ := h
        exact SqL.of (h.lst hl')
      · obtain ⟨y4, y5, y9, kvs2, rfl, ⟨sB, kB, hlB⟩, hdB, hkv2⟩ := hP
        obtain ⟨⟨k2, f⟩, hfj, a3, rfl, ha3⟩ := paired_at hip' hj
        have ha3 := sB.tup ha3
        have hmf := List.mem_of_getElem? hfj
        obtain ⟨g, hmg, egf⟩ := List.mem_map.mp hmf
        have ef : intN (rowC rw0) g.2 = f := congrArg Prod.snd egf
        obtain ⟨q1, q2, q3, q4⟩ := hr2 g hmg
        have mf : mid f := by
          rw [← ef]
          exact Nat.lt_of_le_of_lt (intN_le (den_lcmD (List.mem_map.mpr ⟨_, hmg, rfl⟩)) q2 q3) hcl
        have hpj : (prodI tab (k', z))[j]? = some (k2, z * f) := by
          rw [epr, List.getElem?_map, hfj]
          rfl
        have hget := kvs_get (A := intA K) (zv := V.int 0) rfl k2 hkv2
        refine ⟨a3, _, rfl, ha3, rfl, _, _, rfl, _, _, rfl, rfl, ?_⟩
        dsimp only [gName]
        refine ⟨_, rfl, d, rfl, .inl ⟨_, .inl hdB⟩, _, rfl, _, DGet.k (k := Sum.inl ((k2 : Nat) : Int)) hdB, _, rfl, _, rfl, _, _, rfl, rfl, mid_mul mz mf, _, _, hget, rfl, ?_⟩
        have hkb : ∀ e ∈ (prodI tab (k', z)), e.1 < N := fun e m => by
          rw [epr] at m
          obtain ⟨g0, mg0, rfl⟩ := List.mem_map.mp m
          obtain ⟨g1', mg1, rfl⟩ := List.mem_map.mp mg0
          exact (hr2 g1' mg1).2.2.2
        have hlen : kvs2.length ≤ N := by
          have h1 := hkv2.length
          rw [← addI_app] at h1
          obtain ⟨n1, n2⟩ := addI_keys (prodsI tab ((rowN R').take i) ++ (prodI tab (k', z)).take j) [] (by simp [MT.keysA])
          have h2 := nodup_lt n1 (N := N) fun k m => by
            rcases (n2 k).mp m with w | ⟨e, me, rfl⟩
            · exact absurd w (by simp [MT.keysA])
            · rcases List.mem_append.mp me with me | me
              · exact hkp i e me
              · exact hkb e (List.mem_of_mem_take me)
          have h3 : (MT.keysA (addI [] (prodsI tab ((rowN R').take i) ++ (prodI tab (k', z)).take j))).length = (addI [] (prodsI tab ((rowN R').take i) ++ (prodI tab (k', z)).take j)).length := List.length_map _
          omega
        refine ⟨_, rfl, _, rfl, d, _, rfl, DPut.k (k := Sum.inl ((k2 : Nat) : Int)) hdB (sl_lt (by omega)), ?_⟩
        refine ⟨_, _, _, _, rfl, ⟨sB.own nd0, kB.trans (keep_upd hdB ntp_dk), ?_⟩, upd_same, ?_⟩
        · rw [upd_ne (fun w => by rw [w, hdB] at hlB; cases hlB)]
          exact hlB
        · rw [take_snoc hpj, addI_app (addI [] (prodsI tab ((rowN R').take i)))]
          exact (kvs_put (A := intA K) (m := k2) (x := MT.getA intS (addI (addI [] (prodsI tab ((rowN R').take i))) ((prodI tab (k', z)).take j)) k2 + z * f) rfl hkv2).kp (keep_upd hdB ntp_dk)
      · obtain ⟨y4, y5, y9, kvs2, rfl, ⟨sB, kB, hlB⟩, hdB, hkv2⟩ := hP
        have e1 : zs'.length = (prodI tab (k', z)).length := by
          rw [epr, List.length_map, lzs]
        rw [e1, List.take_length] at hkv2
        refine ⟨_, _, _, _, _, kvs2, rfl, ⟨sB, kB, hlB⟩, hdB, ?_⟩
        rw [take_snoc hpi]
        have e2 : prodsI tab ((rowN R').take i ++ [(k', z)]) = prodsI tab ((rowN R').take i) ++ prodI tab (k', z) := by
          unfold prodsI
          rw [List.flatMap_append]
          simp
        rw [e2, addI_app]
        exact hkv2
    · obtain ⟨y4, y5, y7, y8, y9, kvs, rfl, ⟨sA, kA, hlA⟩, hdA, hkv⟩ := hP
      rw [lzq, List.take_length] at hkv
      have e0 : prodsI tab (rowN R') = prodsI tab ((rowN R').take (rowN R').length) := by rw [List.take_length]
      obtain ⟨n1, n2⟩ := addI_keys (prodsI tab (rowN R')) [] (by simp [MT.keysA])
      have hkN : ∀ k ∈ MT.keysA (addI [] (prodsI tab (rowN R'))), k < N := fun k m => by
        rcases (n2 k).mp m with w | ⟨e, me, rfl⟩
        · exact absurd w (by simp [MT.keysA])
        · rw [e0] at me
          exact hkp _ e me
      have hkl := nodup_lt n1 hkN
      have hkr : ∀ k, k ∈ MT.keysA (addI [] (prodsI tab (rowN R'))) ↔ ∃ e ∈ row, ∃ f ∈ rowAt tab e.1, f.1 = k := fun k => by
        rw [n2]
        constructor
        · rintro (w | ⟨e, me, rfl⟩)
          · exact absurd w (by simp [MT.keysA])
          · obtain ⟨pp, mp, me⟩ := List.mem_flatMap.mp me
            obtain ⟨rr, mr, rfl⟩ := List.mem_map.mp mp
            rw [← hR'] at mr
            obtain ⟨e', me', rfl⟩ := List.mem_map.mp mr
            obtain ⟨g0, mg0, rfl⟩ := List.mem_map.mp me
            obtain ⟨g1', mg1, rfl⟩ := List.mem_map.mp mg0
            exact ⟨e', me', g1', mg1, rfl⟩
        · rintro ⟨e, me, f, mf, rfl⟩
          refine .inr ⟨(f.1, intN (rowC R') (e.2 / ((rowC (rowAt tab e.1) : Nat) : Rat)) * intN (rowC (rowAt tab e.1)) f.2), ?_, rfl⟩
          refine List.mem_flatMap.mpr ⟨(e.1, intN (rowC R') (e.2 / ((rowC (rowAt tab e.1) : Nat) : Rat))), List.mem_map.mpr ⟨(e.1, e.2 / ((rowC (rowAt tab e.1) : Nat) : Rat)), by rw [← hR']; exact List.mem_map.mpr ⟨e, me, rfl⟩, rfl⟩, ?_⟩
          exact List.mem_map.mpr ⟨(f.1, intN (rowC (rowAt tab e.1)) f.2), List.mem_map.mpr ⟨f, mf, rfl⟩, rfl⟩
      have hpp : ∀ e ∈ row, 0 < e.2 ∧ ∀ f ∈ rowAt tab e.1, 0 < f.2 := fun e me => by
        obtain ⟨_, h2, _, h4⟩ := hrow e me
        have e0 := List.getElem?_eq_getElem h4
        have e1 : rowAt tab e.1 = tab[e.1] := rowAt_at e0
        refine ⟨h2, fun f mf => ?_⟩
        rw [e1] at mf
        exact ((htab _ (List.mem_of_getElem? e0)).2 f mf).2.1
      have hval : ∀ k, ((MT.getA intS (addI [] (prodsI tab (rowN R'))) k : Int) : Rat) = behF tab row k * ((rowC R' : Nat) : Rat) := fun k => by
        rw [addI_get]
        have h := colI_behind tab k (rowC R') row fun e m => by
          rw [hR'] at m
          exact den_lcmD (List.mem_map.mpr ⟨e, m, rfl⟩)
        rw [hR'] at h
        show (((0 : Int) + colI (prodsI tab (rowN R')) k : Int) : Rat) = _
        rw [Int.zero_add]
        exact h
      generalize hL : addI [] (prodsI tab (rowN R')) = LL at *
      dsimp only [gName]
      have hkeys : (MT.keysA LL).length = LL.length := List.length_map _
      refine ⟨_, rfl, d, kvs, (MT.keysA LL).map (fun k => ((k : Nat) : Int)), rfl, .inl hdA, keysI_of hkv, by rw [List.length_map]; omega, fun ys2 l2 hperm hsrt hl2 => ?_⟩
      obtain ⟨ks', rfl⟩ := nats_of (ys := ys2) fun y m => by
        obtain ⟨k, _, e⟩ := List.mem_map.mp (hperm.mem_iff.mp m)
        omega
      have hperm' : ks'.Perm (MT.keysA LL) := by
        have := hperm.map Int.toNat
        rw [List.map_map, List.map_map] at this
        simpa [Function.comp_def] using this
      have hs' : ks'.Pairwise (· ≤ ·) := by
        rw [List.pairwise_map] at hsrt
        exact hsrt.imp fun h => Int.ofNat_le.mp h
      have hn' : ks'.Nodup := hperm'.nodup_iff.mpr n1
      have erow := rowR_of (N := N) (f := behF tab row) hs' hn' (fun k m => hkN k (hperm'.mem_iff.mp m)) (fun k m => behF_zero fun e me f mf ef => m (hperm'.mem_iff.mpr ((hkr k).mpr ⟨e, me, f, mf, ef⟩)))
      have efil : (ks'.filter fun k => decide (behF tab row k ≠ 0)) = ks' := List.filter_eq_self.mpr fun k m => decide_eq_true fun z => by
        have h := behF_pos (k := k) hpp ((hkr k).mp (hperm'.mem_iff.mp m))
        rw [z] at h
        exact absurd h (by decide)
      rw [efil] at erow
      have x9 := ext_upd (o := .lst ((ks'.map fun k => ((k : Nat) : Int)).map V.int)) hl2
      have k9 : upd HA l2 (.lst ((ks'.map fun k => ((k : Nat) : Int)).map V.int)) l2 = some (.lst ((ks'.map fun k => ((k : Nat) : Int)).map V.int)) := upd_same
      have hd9 := x9.keep _ _ hdA (fun _ z => by cases z)
      have hkv9 := hkv.kp x9.kp
      have sA9 := sA.trans x9
      generalize upd HA l2 (.lst ((ks'.map fun k => ((k : Nat) : Int)).map V.int)) = H9 at *
      refine ⟨l2, rfl, ⟨_, SqL.of k9⟩, (G.ext sA9).t_row_behind, fun H8 t8 => ?_⟩
      have e8 : Ext H9 H8 := ext_tabbed (G.ext sA9).t_row_behind t8
      refine gx_list (xs := (ks'.map fun k => ((k : Nat) : Int)).map V.int) (fun n zs HN => Ext H8 HN ∧ Paired (PrV K HN) zs ((ks'.take n).map fun k => (k, behF tab row k))) ⟨Ext.refl _, .nil⟩ (fun n zs HN _ h => SqL.of ((e8.trans h.1).lst k9)) (fun n x0 zs HN hn hP2 => ?_) (fun zs HN hP2 => ?_)
      · obtain ⟨sN, hz⟩ := hP2
        obtain ⟨k, hk, rfl⟩ : ∃ k : Nat, ks'[n]? = some k ∧ x0 = V.int ((k : Nat) : Int) := by
          rw [List.getElem?_map, List.getElem?_map] at hn
          obtain ⟨o, g1, g2⟩ := Option.map_eq_some_iff.mp hn
          obtain ⟨k, g3, rfl⟩ := Option.map_eq_some_iff.mp g1
          exact ⟨k, g3, g2.symm⟩
        have hkm := hperm'.mem_iff.mp (List.mem_of_getElem? hk)
        have lz := hz.length
        rw [List.length_map, List.length_take] at lz
        have hnl := (List.getElem?_eq_some_iff.mp hk).1
        have hkl2 : ks'.length ≤ N := by rw [hperm'.length_eq]; exact hkl
        have s8N := e8.trans sN
        have hdN := s8N.keep _ _ hd9 (fun _ z => by cases z)
        have hkvN := hkv9.kp s8N.kp
        obtain ⟨vv, ev, hvv⟩ := kvs_val hkvN hkm
        have hvv : vv = V.int (MT.getA intS LL k) := hvv
        subst hvv
        have hg : DGet HN d (V.int ((k : Nat) : Int)) (some (V.int (MT.getA intS LL k))) := by
          rw [← ev]
          exact DGet.k (k := Sum.inl ((k : Nat) : Int)) hdN
        have hCd : rowC R' ∣ M1 * M2 := rowC_dvd fun e m => (hdv e m).1
        have hCl : rowC R' < 2 ^ 1900 := Nat.lt_of_le_of_lt (Nat.le_of_dvd (Nat.pos_of_ne_zero hMM0) hCd) hMM
        have hC0' : ((rowC R' : Nat) : Int) ≠ 0 := by have := lcmD_ne (R'.map fun e => e.2); show ((lcmD _ : Nat) : Int) ≠ 0; omega
        refine ⟨rfl, _, rfl, _, rfl, _, rfl, d, _, rfl, hg, _, rfl, MT.getA intS LL k, ((rowC R' : Nat) : Int), rfl, hC0', ?_, fun p3 H6 s6 n6 hp6 => ⟨sl2, fun t2 ht2 => ?_⟩⟩
        · show Int.natAbs _ < 2 ^ 4000
          rw [Int.natAbs_natCast]
          exact Nat.lt_of_lt_of_le hCl (Nat.pow_le_pow_right (by decide) (by decide))
        have eF : K04.F (MT.getA intS LL k) ((rowC R' : Nat) : Int) = fq (behF tab row k) := by
          rw [SM.F_fq _ hC0']
          congr 1
          rw [Rat.divInt_eq_div, hval k, Rat.intCast_natCast]
          have hcr : ((rowC R' : Nat) : Rat) ≠ 0 := fun z => lcmD_ne _ (Rat.natCast_inj.mp (z : ((rowC R' : Nat) : Rat) = ((0 : Nat) : Rat)))
          rw [Rat.div_def, Rat.mul_assoc, Rat.mul_inv_cancel _ hcr, Rat.mul_one]
        rw [eF] at hp6
        have x7 := ext_upd (o := .tup [V.int ((k : Nat) : Int), .ref p3]) ht2
        have s67 := s6.ext.trans x7
        refine ⟨sl_lt (by omega), sN.trans s67, ?_⟩
        rw [take_snoc hk, List.map_append]
        exact paired_snoc (prvs_up s67 hz) ⟨t2, .ref p3, rfl, SqT.of upd_same, p3, rfl, SqT.of (x7.at hp6)⟩
      · obtain ⟨sN, hz⟩ := hP2
        rw [List.length_map, List.length_map, List.take_length, erow] at hz
        intro t3 o3 ht3 hpl
        have x10 := ext_upd (o := .frz o3 (.tup zs)) ht3
        exact q _ _ (((sA9.trans e8).trans sN).trans x10) ⟨t3, o3, zs, rfl, upd_same, hpl, prvs_up x10 hz⟩
/-! ### two moves, one after the other -/
/-- rows of chances in (0, 1] whose denominators divide M, to places below N -/
def TabOk (M N : Nat) (tab : List (List (Nat × Rat))) : Prop := ∀ rw ∈ tab, rw.length ≤ 300 ∧ ∀ f ∈ rw, f.2.den ∣ M ∧ 0 < f.2 ∧ f.2 ≤ 1 ∧ f.1 < N
def spFollow (T : Top K mg) : Sp := fun vs H Q _ => ∃ (a b : Addr) (xs ys : List V) (t1 t2 : List (List (Nat × Rat))) (M1 M2 N : Nat), vs = [.ref a, .ref b] ∧ SqT K H a xs ∧ Paired (RowV K H) xs t1 ∧ SqT K H b ys ∧ Paired (RowV K H) ys t2 ∧
  TabOk M1 t2.length t1 ∧ TabOk M2 N t2 ∧ M1 ≠ 0 ∧ M2 ≠ 0 ∧ M1 * M2 < 2 ^ 1900 ∧ t1.length ≤ 300 ∧ t2.length ≤ 300 ∧ N ≤ 63 ∧ Tg T H ∧
  ∀ t zs H', Ext H H' → SqT K H' t zs → Paired (RowV K H') zs (t1.map fun row => rowR N (behF t2 row)) → Q (.ref t) H'
theorem ok_followed (T : Top K mg) (B : Tb T base) : FnOk P w K mg base CX0 5 T.f_followed T.d_followed ["first", "second"] (spFollow T) := by
  refine T.F_followed.ok sc_followed (fun vs H Q E h => ?_) (fun A outer s H vs Q E hr h => ?_)
  · obtain ⟨a, b, xs, ys, t1, t2, M1, M2, N, rfl, _⟩ := h
    rfl
  obtain ⟨a, b, xs, ys, t1, t2, M1, M2, N, rfl, ha, hx, hb, hy, ht1, ht2, hM1, hM2, hMM, l1, l2, hN, G, q⟩ := h
  refine ⟨_, (pss_cons (ps_set (i := 2) sc_followed.nd rfl (by first | exact .inl rfl | exact .inr rfl) (pe_call (ok_rows_of_integers T) (hr.mono (by decide)) (by rfl) T.g_rows_of_integers T.F_rows_of_integers.kp T.b_rows_of_integers .nil pass0 (pa_cons (pv 1) pa_nil)))
      (pss_one (ps_ret (GXP.pe_tupleGx (own := [("row", 3)]) (g := gName 3) (tt := tYes) (k := 3) (c := T.c_followed) (P := T.P_followed) (by rfl) T.m_tuple ⟨hr.mono (by decide), rfl, B.t_followed, rfl, rfl, blkOk_by (own := [("row", 3)]) (N := n_followed) (sc := defScope s_followed) (by decide +kernel), sc_followed.nd, by decide +kernel, rfl, (pi_tup (pv 0)), fun A s H C cl code bi fp hrA => (pg_name (i := 3) sc_followed.nd rfl (by first | exact .inl rfl | exact .inr rfl)), fun A s H C cl code bi fp hrA => pts_nil, fun A s H C cl code bi fp hrA => (pe_call (ok_row_behind T B) (hrA.mono (by decide)) (by rfl) T.g_row_behind T.F_row_behind.kp T.b_row_behind .nil pass0 (pa_cons (pv 3) (pa_cons (pv 2) pa_nil))), fun _ => rfl⟩)))), ?_⟩
  have hMs : M2 < 2 ^ 1900 := Nat.lt_of_le_of_lt (Nat.le_mul_of_pos_left M2 (Nat.pos_of_ne_zero hM1)) hMM
  have lx := hx.length
  refine ⟨_, rfl, b, ys, t2, M2, rfl, hb, hy, fun row m => ⟨by have := (ht2 row m).1; omega, fun e me => ?_⟩, hM2, hMs, by omega, fun l zs0 H1 s1 nl hl hov => ?_⟩
  · obtain ⟨h1, h2, h3, _⟩ := (ht2 row m).2 e me
    exact ⟨h1, Nat.lt_of_le_of_lt (Nat.le_trans (num_le_den h2 h3) (Nat.le_of_dvd (Nat.pos_of_ne_zero hM2) h1)) hMs⟩
  dsimp only [gName]
  have ha1 := s1.tup ha
  refine ⟨_, rfl, a, rfl, ⟨_, ha1⟩, (G.ext s1).t_followed, fun H8 t8 => ?_⟩
  have e8 : Ext H1 H8 := ext_tabbed (G.ext s1).t_followed t8
  refine gx_tup (xs := xs) (fun n zs HN => Ext H8 HN ∧ Paired (RowV K HN) zs ((t1.take n).map fun row => rowR N (behF t2 row))) ⟨Ext.refl _, .nil⟩ (fun n zs HN _ h => (e8.trans h.1).tup ha1) (fun n x0 zs HN hn hP2 => ?_) (fun zs HN hP2 => ?_)
  · obtain ⟨sN, hz⟩ := hP2
    have s8N := e8.trans sN
    obtain ⟨row, hr2, a1, ys1, rfl, ha1', hys1⟩ := paired_at (rows_up (s1.trans s8N) hx) hn
    have hm := List.mem_of_getElem? hr2
    obtain ⟨r1, r2⟩ := ht1 row hm
    have lz := hz.length
    rw [List.length_map, List.length_take] at lz
    refine ⟨rfl, _, rfl, _, rfl, a1, l, l, ys1, zs0, row, t2, M1, M2, N, rfl, .inr ha1', hys1, s8N.lst hl, overs_up s8N hov, r2, ht2, hM1, hM2, hMM, r1, l2, hN, G.ext (s1.trans s8N), fun v H6 s6 hv => ?_⟩
    refine ⟨sl_lt (by omega), sN.trans s6, ?_⟩
    rw [take_snoc hr2, List.map_append]
    exact paired_snoc (rows_up s6 hz) hv.rv
  · obtain ⟨sN, hz⟩ := hP2
    rw [lx, List.take_length] at hz
    intro t3 ht3
    have x10 := ext_upd (o := .tup zs) ht3
    exact q t3 zs _ (((s1.trans e8).trans sN).trans x10) (SqT.of upd_same) (rows_up x10 hz)
open K04
def spRowOf (T : Top K mg) : Sp := fun vs H Q _ => ∃ (d : Addr) (ks : List Nat) (f : Nat → Rat) (N : Nat), vs = [.ref d] ∧ DFr K H d ks f ∧ ks.length < 64 ∧ (∀ k ∈ ks, k < N) ∧ (∀ k, k ∉ ks → f k = 0) ∧ Tg T H ∧
  ∀ v H', Ext H H' → RowV K H' v (rowR N f) → Q v H'
theorem ok_law_add (T : Top K mg) : FnOk P w K mg base CX0 3 T.f_law_add T.d_law_add ["p", "q"] (spOp2 K okA addF) := by
  refine T.F_law_add.ok sc_law_add (fun vs H Q E h => ?_) (fun cdv A outer s H vs Q E hr h => ?_)
  · obtain ⟨a, b, p, q, rfl, _⟩ := h
    rfl
  · obtain ⟨a, b, p, q, rfl, hp, hq, ⟨m1, m2, m3, m4, n1, n2⟩, k⟩ := h
    refine ⟨_, (pss_one (ps_ret (pe_call (ok_law_frac T) (hr.mono (by decide)) (by rfl) T.g_law_frac T.F_law_frac.kp T.b_law_frac .nil pass0 (pa_cons (pe_op op_add (pe_op op_mulW (pe_ix ix_tup (pv 0) pe_int (fun _ _ => rfl)) (pe_ix ix_tup (pv 1) pe_int (fun _ _ => rfl))) (pe_op op_mulW (pe_ix ix_tup (pv 1) pe_int (fun _ _ => rfl)) (pe_ix ix_tup (pv 0) pe_int (fun _ _ => rfl)))) (pa_cons (pe_op op_mulW (pe_ix ix_tup (pv 0) pe_int (fun _ _ => rfl)) (pe_ix ix_tup (pv 1) pe_int (fun _ _ => rfl))) pa_nil))))), ?_⟩
    refine ⟨_, rfl, a, _, _, _, rfl, rfl, hp, atI_nat (j := 0) rfl, _, rfl, b, _, _, _, rfl, rfl, hq, atI_nat (j := 1) rfl, _, _, rfl, rfl, mid_mul m1 m4, ?_⟩
    refine ⟨_, rfl, b, _, _, _, rfl, rfl, hq, atI_nat (j := 0) rfl, _, rfl, a, _, _, _, rfl, rfl, hp, atI_nat (j := 1) rfl, _, _, rfl, rfl, mid_mul m3 m2, ?_⟩
    refine ⟨_, _, rfl, rfl, ?_⟩
    refine ⟨_, rfl, a, _, _, _, rfl, rfl, hp, atI_nat (j := 1) rfl, _, rfl, b, _, _, _, rfl, rfl, hq, atI_nat (j := 1) rfl, _, _, rfl, rfl, mid_mul m2 m4, ?_⟩
    exact ⟨_, _, rfl, Int.mul_ne_zero n1 n2, mid_small m2 m4, k⟩
theorem ok_law_row_of (T : Top K mg) : FnOk P w K mg base CX0 2 T.f_law_row_of T.d_law_row_of ["chances"] (spRowOf T) := by
  refine T.F_law_row_of.ok sc_law_row_of (fun vs H Q E h => ?_) (fun cdv A outer s H vs Q E hr h => ?_)
  · obtain ⟨d, ks, f, N, rfl, _⟩ := h
    rfl
  obtain ⟨d, ks, f, N, rfl, ⟨nd, kvs, hd, hp⟩, hk, hN, h0, G, q⟩ := h
  refine ⟨_, (pss_one (ps_ret (pe_callTy call_tuple_of (by rfl) T.m_tuple (by decide +kernel) (pa_cons (pe_lc (own := [("index", 1)]) (g := gName 1) rfl sc_law_row_of.nd (pi_list (pe_callB (call_sortedDI rfl) (by rfl) T.m_sorted (by decide +kernel) (pa_cons (pv 0) pa_nil))) (blkOk_by (own := [("index", 1)]) (N := n_law_row_of) (sc := defScope s_law_row_of) (by decide +kernel)) (fun _ _ _ _ _ => (pg_name (i := 1) sc_law_row_of.nd rfl (by first | exact .inl rfl | exact .inr rfl))) (fun _ _ _ _ _ => pts_one (pt_cmpR (r := rNeD K) (op_neD hr.units) (pe_dget (hu_of hr) (pv 0) (pv 1) (fun _ _ => rfl)) (pe_tup (pa_cons pe_int (pa_cons pe_int pa_nil))) (nomark _))) (fun _ _ _ _ _ => (pe_tup (pa_cons (pv 1) (pa_cons (pe_dget (hu_of hr) (pv 0) (pv 1) (fun _ _ => rfl)) pa_nil))))) pa_nil)))), ?_⟩
  have hks := keysK_of hp
  refine ⟨_, rfl, d, kvs, _, rfl, .inl hd, hks, by rw [List.length_map]; exact hk, fun ys l hperm hsrt hl => ?_⟩
  obtain ⟨ks', rfl⟩ := nats_of (ys := ys) fun y m => by
    obtain ⟨k, _, e⟩ := List.mem_map.mp (hperm.mem_iff.mp m)
    omega
  have hperm' : ks'.Perm ks := by
    have := hperm.map Int.toNat
    rw [List.map_map, List.map_map] at this
    simpa [Function.comp_def] using this
  have hs' : ks'.Pairwise (· ≤ ·) := by
    rw [List.pairwise_map] at hsrt
    exact hsrt.imp fun h => Int.ofNat_le.mp h
  have hn' : ks'.Nodup := hperm'.nodup_iff.mpr nd
  have erow := rowR_of (N := N) (f := f) hs' hn' (fun k m => hN k (hperm'.mem_iff.mp m)) (fun k m => h0 k fun y => m (hperm'.mem_iff.mpr y))
  have e0 : Ext H (upd H l (.lst ((ks'.map fun k => ((k : Nat) : Int)).map V.int))) := ext_upd hl
  have hl2 : upd H l (.lst ((ks'.map fun k => ((k : Nat) : Int)).map V.int)) l = some (.lst ((ks'.map fun k => ((k : Nat) : Int)).map V.int)) := upd_same
  generalize upd H l (.lst ((ks'.map fun k => ((k : Nat) : Int)).map V.int)) = H2 at *
  refine ⟨l, rfl, ⟨_, SqL.of hl2⟩, fun D hD => lc_list (xs := (ks'.map fun k => ((k : Nat) : Int)).map V.int) (fun i H3 => Ext H2 H3 ∧ ∃ ys, H3 D = some (.lst ys) ∧ Paired (PrV K H3) ys (((ks'.take i).filter fun k => decide (f k ≠ 0)).map fun k => (k, f k))) ⟨ext_upd hD, [], upd_same, .nil⟩ (fun i H3 _ h => SqL.of (h.1.lst hl2)) (fun i x H3 hi hP => ?_) (fun H3 hP => ?_)⟩
  · obtain ⟨s3, ys, hys, hy⟩ := hP
    rw [List.getElem?_map, List.getElem?_map] at hi
    cases hbi : ks'[i]? with
    | none => rw [hbi] at hi; cases hi
    | some k =>
      rw [hbi] at hi
      cases hi
      have e3 : Ext H H3 := e0.trans s3
      obtain ⟨v, hv, a, rfl, ha⟩ := lookK_of hp k (hperm'.mem_iff.mp (List.mem_of_getElem? hbi))
      have hd3 : H3 d = some (.dK kvs) := e3.keep _ _ hd (fun _ z => by cases z)
      have hg : DGet H3 d (.int ((k : Nat) : Int)) (some (.ref a)) := by
        have := DGet.k (k := Sum.inl ((k : Nat) : Int)) hd3
        rw [hv] at this
        exact this
      have tk : ks'.take (i + 1) = ks'.take i ++ [k] := by rw [List.take_add_one, hbi]; rfl
      refine ⟨rfl, ?_⟩
      refine ⟨_, rfl, _, rfl, d, _, rfl, hg, sl2, fun t1 h1 => ?_⟩
      have x1 := ext_upd (o := .tup [.int 0, .int 1]) h1
      have t3 := e3.trans x1
      have hv1 := t3.tup ha
      have hy1 : Paired (PrV K (upd H3 t1 (.tup [.int 0, .int 1]))) ys _ := paired_imp (fun _ _ z => prv_up x1 z) hy
      have hys1 := x1.lst hys
      refine ne_zero_test (t := t1) ⟨a, rfl, hv1⟩ upd_same ⟨_, rfl, iteB (fun z => ?_) (fun z => ?_)⟩
      · have z : f k ≠ 0 := of_decide_eq_true z
        have hg1 := x1.keep _ _ hd3 (fun _ z => by cases z)
        refine ⟨_, rfl, _, rfl, _, rfl, d, .ref a, rfl, ?_, sl2, fun t2 h2 => ?_⟩
        · have := DGet.k (k := Sum.inl ((k : Nat) : Int)) hg1
          rw [hv] at this
          exact this
        · have x2 := ext_upd (o := .tup [.int ((k : Nat) : Int), .ref a]) h2
          have ly := hy.length
          rw [List.length_map] at ly
          have lf : ((ks'.take i).filter fun k => decide (f k ≠ 0)).length ≤ (ks'.take i).length := List.length_filter_le _ _
          have lt : (ks'.take i).length ≤ ks'.length := by rw [List.length_take]; omega
          have lp := hperm'.length_eq
          have hys2 := x2.lst hys1
          refine ⟨_, hys2, sl_lt (by omega), ((s3.trans x1).trans x2).own hD, _, upd_same, ?_⟩
          rw [tk, List.filter_append, List.filter_cons_of_pos (by simpa using z), List.filter_nil, List.map_append]
          exact prvs_upd hys2 (paired_snoc (paired_imp (fun _ _ z => prv_up x2 z) hy1) ⟨t2, .ref a, rfl, SqT.of upd_same, a, rfl, x2.tup hv1⟩)
      · have z : ¬ f k ≠ 0 := of_decide_eq_false z
        refine ⟨s3.trans x1, ys, hys1, ?_⟩
        rw [tk, List.filter_append, List.filter_cons_of_neg (by simpa using z), List.filter_nil, List.append_nil]
        exact hy1
  · obtain ⟨s3, ys, hys, hy⟩ := hP
    rw [List.length_map, List.length_map, List.take_length, erow] at hy
    exact ⟨D, ys, rfl, .inl ⟨SqL.of hys, fun p hp2 => q _ _ ((e0.trans s3).trans (ext_upd hp2)) ⟨p, ys, rfl, SqT.of upd_same, paired_imp (fun _ _ z => prv_up (ext_upd hp2) z) hy⟩⟩⟩
def spLWts (T : Top K mg) : Sp := fun vs H Q _ => ∃ (fa ea a b : Addr) (fs : List Int) (xs : List V) (es : List Eg) (x y : Rat), vs = [.ref fa, .ref ea, .ref a, .ref b] ∧ SqL K H fa (fs.map V.int) ∧ SqL K H ea xs ∧ Paired (EdgeAt K H) xs es ∧ goodF fs ∧ goodE fs.length es ∧ Fr K H a (fq x) ∧ Fr K H b (fq y) ∧ sm12 x ∧ sm12 y ∧ x ≠ 0 ∧ y ≠ 0 ∧ fs.length ≤ 8 ∧ (∀ st ∈ states fs.length, (costZ fs es st).natAbs ≤ 64) ∧
  ∀ l H' xs, Ext H H' → H l = none → H' l = some (.lst xs) → FrsV K H' xs ((states fs.length).map (wtR fs es x y)) → Q (.ref l) H'
theorem ok_law_weights (T : Top K mg) : FnOk P w K mg base CX0 5 T.f_law_weights T.d_law_weights ["fields", "edges", "x", "y"] (spLWts T) := by
  refine T.F_law_weights.ok sc_law_weights (fun vs H Q E h => ?_) (fun cdv A outer s H vs Q E hr h => ?_)
  · obtain ⟨fa, ea, a, b, fs, xs, es, x, y, rfl, _⟩ := h
    rfl
  obtain ⟨fa, ea, a, b, fs, xs, es, x, y, rfl, hf, he, hes, gf, ge, ha, hb, sx, sy, nx, ny, l8, hc, q⟩ := h
  refine ⟨_, (pss_cons (ps_set (i := 4) sc_law_weights.nd rfl (by first | exact .inl rfl | exact .inr rfl) (pe_lst pa_nil))
      (pss_cons (ps_for PassesOwn.never rfl (pi_list (pe_call (ok_law_states T) (hr.mono (by decide)) (by rfl) T.g_law_states T.F_law_states.kp T.b_law_states .nil pass0 (pa_cons (pe_callB call_len_seq (by rfl) T.m_len (by decide +kernel) (pa_cons (pv 0) pa_nil)) pa_nil))) (pg_name (i := 5) sc_law_weights.nd rfl (by first | exact .inl rfl | exact .inr rfl)) (pss_one (ps_expr (pe_bm PySem.F.plainAttrs_list PySem.F.slot_list_append PySem.F.type_list_append mt_append (pv 4) (pa_cons (pe_call (ok_law_mul T) (hr.mono (by decide)) (by rfl) T.g_law_mul T.F_law_mul.kp T.b_law_mul .nil pass0 (pa_cons (pe_call (ok_law_rp T) (hr.mono (by decide)) (by rfl) T.g_law_pow T.F_law_pow.kp T.b_law_pow .nil pass0 (pa_cons (pv 2) (pa_cons (pe_call (ok_law_cost T) (hr.mono (by decide)) (by rfl) T.g_law_cost T.F_law_cost.kp T.b_law_cost .nil pass0 (pa_cons (pv 0) (pa_cons (pv 1) (pa_cons (pv 5) pa_nil)))) pa_nil))) (pa_cons (pe_call (ok_law_rp T) (hr.mono (by decide)) (by rfl) T.g_law_pow T.F_law_pow.kp T.b_law_pow .nil pass0 (pa_cons (pv 3) (pa_cons (pe_callB (cr_sumT rfl) (by rfl) T.m_sum (by decide +kernel) (pa_cons (pv 5) pa_nil)) pa_nil))) pa_nil))) pa_nil)))))
      (pss_one (ps_ret (pv 4))))), ?_⟩
  refine ⟨by rw [sizeLine_eq]; simp, fun D hD => ?_⟩
  have x0 := ext_upd (o := .lst []) hD
  have y0 : upd H D (.lst []) D = some (.lst []) := upd_same
  dsimp only [gName]
  generalize upd H D (.lst []) = H0 at *
  refine ⟨_, rfl, fa, _, rfl, .inl (x0.seq hf), fs.length, by rw [List.length_map]; rfl, l8, fun l H1 ys s1 nl hl hst => ?_⟩
  have s01 := x0.trans s1
  refine ⟨l, rfl, ⟨_, SqL.of hl⟩, for_list (xs := ys) (fun i σ H2 => (∃ z, σ = [some (.ref fa), some (.ref ea), some (.ref a), some (.ref b), some (.ref D), z]) ∧ Ext H H2 ∧ H2 l = some (.lst ys) ∧ Paired (StAt K H2) ys (states fs.length) ∧ ∃ zs, H2 D = some (.lst zs) ∧ FrsV K H2 zs (((states fs.length).take i).map (wtR fs es x y))) ⟨⟨none, rfl⟩, s01, hl, hst, [], s1.lst y0, .nil⟩ (fun i σ H2 _ h => SqL.of h.2.2.1) (fun i v σ H2 hi hP => ?_) (fun σ H2 hP => ?_)⟩
  · obtain ⟨⟨z, rfl⟩, s02, hl2, hst2, zs, hzs, hp2⟩ := hP
    obtain ⟨st, hsi, a1, rfl, ha1⟩ := paired_at hst2 hi
    have nlD : l ≠ D := fun z => by
      rw [z, y0] at nl
      cases nl
    have hm := List.mem_of_getElem? hsi
    obtain ⟨ln, hbt⟩ := states_ok _ st hm
    have lst := hp2.length
    have ls := length_states fs.length
    have l256 : 2 ^ fs.length ≤ 256 := pow8 l8
    rw [List.length_map, List.length_take] at lst
    have sb := sum_bound (c := 1) (l := st) fun z hz => by
      rcases hbt z hz with e | e <;> rw [e] <;> decide
    have hs64 : st.sum.natAbs ≤ 64 := by omega
    dsimp only [gName]
    refine ⟨_, rfl, .inl ⟨rfl, _, SqL.of hzs⟩, _, rfl, _, rfl, _, rfl, _, rfl, fa, ea, a1, fs, xs, es, st, rfl, s02.seq hf, s02.seq he, s02.edges hes, ha1, ln, hbt, gf, ge, ?_⟩
    refine ⟨a, x, _, rfl, sx, hc st hm, fun _ => nx, s02.tup ha, fun p1 H4 s4 hp1 => ?_⟩
    refine ⟨_, rfl, _, rfl, a1, st, rfl, s4.ext.tup ha1, b, y, _, rfl, sy, hs64, fun _ => ny, (s02.trans s4.ext).tup hb, fun p2 H5 s5 hp2' => ?_⟩
    refine ⟨p1, p2, _, _, rfl, s5.fr hp1, hp2', okA_of (sm_rp sx nx (hc st hm)) (sm_rp sy ny hs64), fun p3 H6 s6 n6 hp6 => ?_⟩
    rw [SM.mulF_fq] at hp6
    have t6 := (s4.ext.trans s5.ext).trans s6.ext
    have hzs6 := t6.lst hzs
    refine ⟨D, zs, .ref p3, rfl, rfl, hzs6, sl_lt (by omega), ⟨_, rfl⟩, (s02.trans t6).own hD, by rw [upd_ne nlD]; exact t6.lst hl2, sts_lst hzs6 (t6.sts hst2), zs ++ [.ref p3], upd_same, ?_⟩
    rw [take_snoc hsi, List.map_append]
    exact frs_upd hzs6 (paired_snoc (frs_up t6 hp2) ⟨p3, rfl, SqT.of hp6⟩)
  · obtain ⟨⟨z, rfl⟩, s02, _, _, zs, hzs, hp2⟩ := hP
    rw [hst.length, List.take_length] at hp2
    exact ⟨_, rfl, q D H2 zs s02 hD hzs hp2⟩
theorem F_tab0 : ((List.range 9).all fun n => (List.range 9).all fun d => n == 0 || d == 0 || (decide ((F ((n : Nat) : Int) ((d : Nat) : Int)).1.natAbs < 2 ^ 4) && decide ((F ((n : Nat) : Int) ((d : Nat) : Int)).2.natAbs < 2 ^ 4) && decide (0 < (F ((n : Nat) : Int) ((d : Nat) : Int)).1) && (decide (d < n) || decide ((F ((n : Nat) : Int) ((d : Nat) : Int)).1 ≤ (F ((n : Nat) : Int) ((d : Nat) : Int)).2)))) = true := by decide +kernel
theorem F_tab (n : Nat) (hn : n < 9) (d : Nat) (hd : d < 9) (n0 : n ≠ 0) (d0 : d ≠ 0) : (F ((n : Nat) : Int) ((d : Nat) : Int)).1.natAbs < 2 ^ 4 ∧ (F ((n : Nat) : Int) ((d : Nat) : Int)).2.natAbs < 2 ^ 4 ∧ 0 < (F ((n : Nat) : Int) ((d : Nat) : Int)).1 ∧ (n ≤ d → (F ((n : Nat) : Int) ((d : Nat) : Int)).1 ≤ (F ((n : Nat) : Int) ((d : Nat) : Int)).2) := by
  have h := List.all_eq_true.mp (List.all_eq_true.mp F_tab0 n (List.mem_range.mpr hn)) d (List.mem_range.mpr hd)
  simp only [Bool.or_eq_true, Bool.and_eq_true, beq_iff_eq, decide_eq_true_eq] at h
  rcases h with (h | h) | ⟨⟨⟨h1, h2⟩, h3⟩, h4⟩
  · exact absurd h n0
  · exact absurd h d0
  · exact ⟨h1, h2, h3, fun z => h4.resolve_left (by omega)⟩
theorem fq_small {n d : Int} (hn0 : 0 < n) (hn : n ≤ 8) (hd0 : 0 < d) (hd : d ≤ 8) : ∃ r : Rat, F n d = fq r ∧ Bz 4 r ∧ 0 < r ∧ (n ≤ d → r ≤ 1) := by
  obtain ⟨n, rfl⟩ := Int.eq_ofNat_of_zero_le (Int.le_of_lt hn0)
  obtain ⟨d, rfl⟩ := Int.eq_ofNat_of_zero_le (Int.le_of_lt hd0)
  obtain ⟨h1, h2, h3, h4⟩ := F_tab n (by omega) d (by omega) (by omega) (by omega)
  have e : F ((n : Nat) : Int) ((d : Nat) : Int) = fq (Rat.divInt ((n : Nat) : Int) ((d : Nat) : Int)) := SM.F_fq _ (by omega)
  rw [e] at h1 h2 h3 h4
  refine ⟨_, e, ⟨h1, h2⟩, ?_, fun h => ?_⟩
  · rw [Rat.lt_iff]
    show 0 * _ < _ * ((1 : Nat) : Int)
    have h3 : 0 < (Rat.divInt ((n : Nat) : Int) ((d : Nat) : Int)).num := h3
    omega
  rw [Rat.le_iff]
  have := h4 (by omega)
  have h5 : (fq (Rat.divInt ((n : Nat) : Int) ((d : Nat) : Int))).1 = (Rat.divInt ((n : Nat) : Int) ((d : Nat) : Int)).num := rfl
  have h6 : (fq (Rat.divInt ((n : Nat) : Int) ((d : Nat) : Int))).2 = ((Rat.divInt ((n : Nat) : Int) ((d : Nat) : Int)).den : Int) := rfl
  rw [h5, h6] at this
  show _ * ((1 : Nat) : Int) ≤ 1 * _
  omega
def spLFr (K : PySem.W.Frag) : Sp := fun vs H Q _ => ∃ (c : Int) (u : Bool), vs = [.int c, .bl u] ∧ 0 ≤ c ∧
  ∀ l H' a b x y, Ext H H' → H' l = some (.tup [.ref a, .ref b]) → Fr K H' a (fq x) → Fr K H' b (fq y) → Bz 4 x → Bz 4 y → 0 < x → 0 < y → (u = true → x ≤ 1) → Q (.ref l) H'
theorem ok_law_fractions (T : Top K mg) : FnOk P w K mg base CX0 3 T.f_law_fractions T.d_law_fractions ["cell", "unit"] (spLFr K) := by
  refine T.F_law_fractions.ok sc_law_fractions (fun vs H Q E h => ?_) (fun cdv A outer s H vs Q E hr h => ?_)
  · obtain ⟨c, u, rfl, _⟩ := h
    rfl
  obtain ⟨c, u, rfl, c0, q⟩ := h
  refine ⟨_, (pss_cons (ps_set (i := 2) sc_law_fractions.nd rfl (by first | exact .inl rfl | exact .inr rfl) (pe_op op_add pe_int (pe_op op_mod (pv 0) pe_int)))
      (pss_cons (ps_set (i := 3) sc_law_fractions.nd rfl (by first | exact .inl rfl | exact .inr rfl) (pe_call (ok_law_frac T) (hr.mono (by decide)) (by rfl) T.g_law_frac T.F_law_frac.kp T.b_law_frac .nil pass0 (pa_cons (pe_ifExp (pt_val (pv 1)) (pe_op op_add pe_int (pe_op op_mod (pe_op op_fdivZ (pv 0) pe_int) (pv 2))) (pe_op op_add pe_int (pe_op op_mod (pe_op op_fdivZ (pv 0) pe_int) pe_int))) (pa_cons (pv 2) pa_nil))))
      (pss_one (ps_ret (pe_tup (pa_cons (pv 3) (pa_cons (pe_call (ok_law_frac T) (hr.mono (by decide)) (by rfl) T.g_law_frac T.F_law_frac.kp T.b_law_frac .nil pass0 (pa_cons (pe_op op_add pe_int (pe_op op_mod (pe_op op_fdivZ (pv 0) pe_int) pe_int)) (pa_cons (pe_op op_add pe_int (pe_op op_mod (pe_op op_fdivZ (pv 0) pe_int) pe_int)) pa_nil))) pa_nil))))))), ?_⟩
  refine ⟨_, rfl, _, _, rfl, rfl, (by decide : (0 : Int) < 4), _, _, rfl, rfl, ?_⟩
  dsimp only [gName]
  have b0 : 0 < 1 + c % 4 := by omega
  have b1 : 1 + c % 4 ≤ 4 := by omega
  have ed : ∀ k : Int, 0 < k → c.fdiv k = c / k := fun k hk => Int.fdiv_eq_ediv_of_nonneg _ (Int.le_of_lt hk)
  obtain ⟨nm, hnm⟩ : ∃ nm : Int, nm = if u = true then 1 + c.fdiv 4 % (1 + c % 4) else 1 + c.fdiv 4 % 6 := ⟨_, rfl⟩
  have n0 : 0 < nm ∧ nm ≤ 6 ∧ (u = true → nm ≤ 1 + c % 4) := by
    rw [hnm, ed 4 (by decide)]
    generalize c / 4 = e
    have z1 := Int.emod_nonneg e (show 1 + c % 4 ≠ 0 by omega)
    have z2 := Int.emod_lt_of_pos e b0
    split
    · exact ⟨by omega, by omega, fun _ => by omega⟩
    · rename_i h
      exact ⟨by omega, by omega, fun z => absurd z h⟩
  obtain ⟨x, ex, bx, px, ox⟩ := fq_small n0.1 (by omega) b0 (by omega)
  obtain ⟨y, ey, bY, py, _⟩ := fq_small (n := 1 + c.fdiv 32 % 4) (d := 1 + c.fdiv 128 % 3) (by omega) (by omega) (by omega) (by omega)
  have fin : ∀ pa H1, Same H H1 → Fr K H1 pa (fq x) → tRet (tTup (tCons (tVar 3) (tCons (tCall spFrac [] E0 (tCons (tOp (rI0 fun i j => V.int (i + j)) (tC (V.int 1)) (tOp (rI (fun x j => 0 < j) fun i j => V.int (i % j)) (tOp (rI CDivZ fun i j => V.int (i.fdiv j)) (tVar 0) (tC (V.int 32))) (tC (V.int 4)))) (tCons (tOp (rI0 fun i j => V.int (i + j)) (tC (V.int 1)) (tOp (rI (fun x j => 0 < j) fun i j => V.int (i % j)) (tOp (rI CDivZ fun i j => V.int (i.fdiv j)) (tVar 0) (tC (V.int 128))) (tC (V.int 3)))) tNil))) tNil))) { nx := fun x H' => Q V.non H', rt := Q } [some (.int c), some (.bl u), some (.int (1 + c % 4)), some (.ref pa)] H1 := fun pa H1 s1 hpa => by
    refine ⟨_, rfl, _, rfl, _, _, rfl, rfl, ⟨by decide, by decide⟩, _, _, rfl, rfl, (by decide : (0 : Int) < 4), _, _, rfl, rfl, ?_⟩
    refine ⟨_, rfl, _, _, rfl, rfl, ⟨by decide, by decide⟩, _, _, rfl, rfl, (by decide : (0 : Int) < 3), _, _, rfl, rfl, _, _, rfl, by omega, Nat.lt_of_lt_of_le (show (1 + c.fdiv 128 % 3).natAbs < 2 ^ 3 by omega) (Nat.pow_le_pow_right (by decide) (by decide)), fun pb H2 s2 nb hpb => ⟨sl2, fun t ht => ?_⟩⟩
    rw [ey] at hpb
    have x3 := ext_upd (o := .tup [.ref pa, .ref pb]) ht
    exact q t _ pa pb x y ((s1.ext.trans s2.ext).trans x3) upd_same (x3.tup (s2.fr hpa)) (x3.tup (SqT.of hpb)) bx bY px py (fun h => ox (n0.2.2 h))
  have sm : small (1 + c % 4) := Nat.lt_of_lt_of_le (show (1 + c % 4).natAbs < 2 ^ 3 by omega) (Nat.pow_le_pow_right (by decide) (by decide))
  cases u with
  | true =>
    refine ⟨_, rfl, _, rfl, iteT ?_⟩
    refine ⟨_, rfl, _, _, rfl, rfl, ⟨by decide, by decide⟩, _, rfl, _, _, rfl, rfl, b0, _, _, rfl, rfl, _, rfl, _, _, rfl, by omega, sm, fun pa H1 s1 na hpa => ?_⟩
    rw [if_pos rfl] at hnm
    rw [← hnm, ex] at hpa
    exact fin pa H1 s1 (SqT.of hpa)
  | false =>
    refine ⟨_, rfl, _, rfl, iteF ?_⟩
    refine ⟨_, rfl, _, _, rfl, rfl, ⟨by decide, by decide⟩, _, _, rfl, rfl, (by decide : (0 : Int) < 6), _, _, rfl, rfl, _, rfl, _, _, rfl, by omega, sm, fun pa H1 s1 na hpa => ?_⟩
    rw [if_neg (by decide)] at hnm
    rw [← hnm, ex] at hpa
    exact fin pa H1 s1 (SqT.of hpa)
/-! ### rows -/
def sumL (l : List Rat) : Rat := l.foldl (· + ·) 0
theorem sumL_snoc (l : List Rat) (r : Rat) : sumL (l ++ [r]) = sumL l + r := by
  unfold sumL
  rw [List.foldl_append]
  rfl
structure RowOk (N : Nat) (row : List (Nat × Rat)) : Prop where
  asc : row.Pairwise fun a b => a.1 < b.1
  lt : ∀ e ∈ row, e.1 < N
  pos : ∀ e ∈ row, 0 < e.2
  sm : ∀ e ∈ row, Sm e.2
  part : ∀ i, Sm (sumL ((row.take i).map (·.2)))
  one : sumL (row.map (·.2)) = 1
def prD (e : Nat × Rat) : PyData := .tuple [.int ((e.1 : Nat) : Int), frD e.2]
def rowD (row : List (Nat × Rat)) : PyData := .tuple (row.map prD)
def tabD (rows : List (List (Nat × Rat))) : PyData := .tuple (rows.map rowD)
theorem gd_tab (rows : List (List (Nat × Rat))) : Gd 7 (tabD rows) := gd_tup fun x m => by
  obtain ⟨row, _, rfl⟩ := List.mem_map.mp m
  refine gd_tup fun x m => ?_
  obtain ⟨e, _, rfl⟩ := List.mem_map.mp m
  refine gd_tup fun x m => ?_
  simp only [List.mem_cons, List.not_mem_nil, or_false] at m
  rcases m with rfl | rfl
  · exact (gd_int _).up (by decide)
  · exact gd_frD _
theorem row_dp {H : Hp} {v : V} {row : List (Nat × Rat)} (h : RowV K H v row) : Dp K H v (rowD row) := by
  obtain ⟨a, ys, rfl, g, p⟩ := h
  exact .tup g (dpAll_of (fun v e ⟨a, wv, e1, g, k⟩ => e1 ▸ .tup g (.cons (.int _) (.cons (fr_dp k) .nil))) p)
theorem tab_dp {H : Hp} {l : Addr} {xs : List V} {rows : List (List (Nat × Rat))} (hl : SqT K H l xs) (h : Paired (RowV K H) xs rows) : Dp K H (.ref l) (tabD rows) := .tup hl (dpAll_of (R := RowV K H) (fun _ _ => row_dp) h)
theorem tab_tup {rows : List (List (Nat × Rat))} (h : rows.length ≤ 300) (h2 : ∀ row ∈ rows, row.length ≤ 300) : tupD 5 (tabD rows) := by
  refine ⟨by rw [List.length_map]; omega, fun x m => ?_⟩
  obtain ⟨row, hm, rfl⟩ := List.mem_map.mp m
  refine ⟨by rw [List.length_map]; have := h2 row hm; omega, fun y n => ?_⟩
  obtain ⟨e, _, rfl⟩ := List.mem_map.mp n
  refine ⟨by simp, fun z o => ?_⟩
  simp only [List.mem_cons, List.not_mem_nil, or_false] at o
  rcases o with rfl | rfl
  · trivial
  · refine ⟨by simp, fun y n => ?_⟩
    simp only [List.mem_cons, List.not_mem_nil, or_false] at n
    rcases n with rfl | rfl <;> trivial
def spAre (K : PySem.W.Frag) : Sp := fun vs H Q _ => ∃ (l : Addr) (xs : List V) (rows : List (List (Nat × Rat))) (N : Nat), vs = [.ref l, .int ((N : Nat) : Int)] ∧ SqT K H l xs ∧ Paired (RowV K H) xs rows ∧ rows.length = N ∧ N ≤ 300 ∧ (∀ row ∈ rows, RowOk N row ∧ row.length ≤ 300) ∧ ∀ H', Ext H H' → Q (.bl true) H'
theorem ok_law_are_rows (T : Top K mg) : FnOk P w K mg base CX0 7 T.f_law_are_rows T.d_law_are_rows ["table", "count"] (spAre K) := by
  refine T.F_law_are_rows.ok sc_law_are_rows (fun vs H Q E h => ?_) (fun cdv A outer s H vs Q E hr h => ?_)
  · obtain ⟨l, xs, rows, N, rfl, _⟩ := h
    rfl
  obtain ⟨l, xs, rows, N, rfl, hl, hp, hN, h3, hok, q⟩ := h
  have lx := hp.length
  refine ⟨_, (pss_cons (ps_if (PW.pt (pw_or (pt_not (pt_val (pe_callB call_isi (by rfl) T.m_isinstance (by decide +kernel) (pa_cons (pv 0) (pa_cons (pe_bltn (v := .ty "tuple") (by rfl) T.m_tuple boot_tuple rfl) pa_nil))))) (pw_or (pt_cmpR op_ne (pe_callB call_len_seq (by rfl) T.m_len (by decide +kernel) (pa_cons (pv 0) pa_nil)) (pv 1) (nomark _)) (pw_or1 (pt_not (pt_val (pe_call (ok_law_tuples T 5) (hr.mono (by decide)) (by rfl) T.g_law_tuples T.F_law_tuples.kp T.b_law_tuples .nil pass0 (pa_cons (pv 0) pa_nil)))))))) (pss_one (ps_ret pe_bl)) pss_nil)
      (pss_cons (ps_for PassesOwn.never rfl (pi_tup (pv 0)) (pg_name (i := 2) sc_law_are_rows.nd rfl (by first | exact .inl rfl | exact .inr rfl)) (pss_cons (ps_set (i := 3) sc_law_are_rows.nd rfl (by first | exact .inl rfl | exact .inr rfl) (pe_tup (pa_cons pe_int (pa_cons pe_int pa_nil))))
      (pss_cons (ps_set (i := 4) sc_law_are_rows.nd rfl (by first | exact .inl rfl | exact .inr rfl) (pe_un un_neg pe_int))
      (pss_cons (ps_for PassesOwn.never rfl (pi_tup (pv 2)) (pg_tup rfl (pgs_cons (pg_name (i := 5) sc_law_are_rows.nd rfl (by first | exact .inl rfl | exact .inr rfl)) (pgs_cons (pg_name (i := 6) sc_law_are_rows.nd rfl (by first | exact .inl rfl | exact .inr rfl)) pgs_nil))) (pss_cons (ps_if (PW.pt (pw_or (pt_cmpR op_le (pv 5) (pv 4) (nomark _)) (pw_or (pt_cmpR op_ge (pv 5) (pv 1) (nomark _)) (pw_or (pt_cmpR op_lt (pe_ix ix_tup (pv 6) pe_int (fun _ _ => rfl)) pe_int (nomark _)) (pw_or1 (pt_cmpR (op_neD hr.units) (pe_call (ok_law_frac T) (hr.mono (by decide)) (by rfl) T.g_law_frac T.F_law_frac.kp T.b_law_frac .nil pass0 (pa_cons (pe_ix ix_tup (pv 6) pe_int (fun _ _ => rfl)) (pa_cons (pe_ix ix_tup (pv 6) pe_int (fun _ _ => rfl)) pa_nil))) (pv 6) (nomark _))))))) (pss_one (ps_ret pe_bl)) pss_nil)
      (pss_cons (ps_set (i := 4) sc_law_are_rows.nd rfl (by first | exact .inl rfl | exact .inr rfl) (pv 5))
      (pss_one (ps_set (i := 3) sc_law_are_rows.nd rfl (by first | exact .inl rfl | exact .inr rfl) (pe_call (ok_law_add T) (hr.mono (by decide)) (by rfl) T.g_law_add T.F_law_add.kp T.b_law_add .nil pass0 (pa_cons (pv 3) (pa_cons (pv 6) pa_nil))))))))
      (pss_one (ps_if (pt_cmpR (op_neD hr.units) (pv 3) (pe_tup (pa_cons pe_int (pa_cons pe_int pa_nil))) (nomark _)) (pss_one (ps_ret pe_bl)) pss_nil))))))
      (pss_one (ps_ret pe_bl)))), ?_⟩
  have h9 : ∀ row ∈ rows, row.length ≤ 300 := fun row m => (hok row m).2
  refine ⟨_, rfl, _, _, _, _, _, rfl, .ty _, sqt_ty hl, kit_ty (r := true) (by decide +kernel), _, rfl, iteF ⟨_, rfl, l, xs, rfl, .inr hl, _, rfl, rfl, _, rfl, iteB (fun z => ?_) (fun z => ?_)⟩⟩
  · rw [lx, hN] at z
    simp at z
  refine ⟨_, rfl, _, tabD rows, rfl, tab_dp hl hp, tab_tup (by omega) h9, fun H1 s1 => ⟨_, rfl, iteF ?_⟩⟩
  have s1 := s1.ext
  refine ⟨_, rfl, l, rfl, ⟨_, s1.tup hl⟩, for_tup (xs := xs) (fun i σ H2 => (∃ y2 y3 y4 y5 y6, σ = [some (.ref l), some (.int ((N : Nat) : Int)), y2, y3, y4, y5, y6]) ∧ Ext H1 H2) ⟨⟨none, none, none, none, none, rfl⟩, Ext.refl _⟩ (fun i σ H2 _ h => (s1.trans h.2).tup hl) (fun i v σ H2 hi hP => ?_) (fun σ H2 hP => ?_)⟩
  · obtain ⟨⟨y2, y3, y4, y5, y6, rfl⟩, s2⟩ := hP
    obtain ⟨row, hri, a, ys, rfl, ha, hy⟩ := paired_at hp hi
    obtain ⟨ok, l300⟩ := hok row (List.mem_of_getElem? hri)
    have ha2 := (s1.trans s2).tup ha
    have hy2 := paired_imp (fun _ _ z => prv_up (s1.trans s2) z) hy
    dsimp only [gName]
    refine ⟨sl2, fun t0 h0 => ⟨1, rfl, ?_⟩⟩
    have x0 := ext_upd (o := .tup [.int 0, .int 1]) h0
    have k0 : SqT K (upd H2 t0 (.tup [.int 0, .int 1])) t0 [.int 0, .int 1] := SqT.of upd_same
    dsimp only [gName]
    generalize upd H2 t0 (.tup [.int 0, .int 1]) = H3 at *
    have ly := hy2.length
    refine ⟨_, rfl, a, rfl, ⟨_, x0.tup ha2⟩, for_tup (xs := ys) (fun j σ H4 => (∃ tot bef z5 z6, σ = [some (.ref l), some (.int ((N : Nat) : Int)), some (.ref a), some (.ref tot), some (.int bef), z5, z6] ∧ Fr K H4 tot (fq (sumL ((row.take j).map (·.2)))) ∧ ∀ e ∈ row.drop j, bef < ((e.1 : Nat) : Int)) ∧ Ext H3 H4) ⟨⟨t0, -1, _, _, rfl, k0, fun e _ => by omega⟩, Ext.refl _⟩ (fun j σ H4 _ h => (x0.trans h.2).tup ha2) (fun j v σ H4 hj hP => ?_) (fun σ H4 hP => ?_)⟩
    · obtain ⟨⟨tot, bef, z5, z6, rfl, htot, hbef⟩, s4⟩ := hP
      obtain ⟨e, hej, a1, wv, rfl, hg, b1, rfl, hb1⟩ := paired_at (paired_imp (fun _ _ z => prv_up (x0.trans s4) z) hy2) hj
      have hm := List.mem_of_getElem? hej
      have hjl := (List.getElem?_eq_some_iff.mp hej).1
      have edr : row.drop j = e :: row.drop (j + 1) := by
        rw [List.drop_eq_getElem_cons hjl]
        congr 1
        exact Option.some.inj ((List.getElem?_eq_getElem hjl).symm.trans hej)
      have hbe : bef < ((e.1 : Nat) : Int) := hbef e (by rw [edr]; exact List.mem_cons_self)
      have hlt := ok.lt e hm
      have hpos := ok.pos e hm
      have hsm := ok.sm e hm
      have hn1 : 1 ≤ (fq e.2).1 := by
        have := (Rat.lt_iff 0 e.2).mp hpos
        have e1 : (0 : Rat).num = 0 := rfl
        have e2 : (0 : Rat).den = 1 := rfl
        rw [e1, e2] at this
        show 1 ≤ e.2.num
        omega
      refine ⟨a1, _, rfl, hg, rfl, _, _, rfl, _, _, rfl, rfl, ?_⟩
      dsimp only [gName]
      refine ⟨_, rfl, _, rfl, _, _, rfl, rfl, _, rfl, iteB (fun z => absurd (of_decide_eq_true z) (by omega)) (fun _ => ?_)⟩
      refine ⟨_, rfl, _, rfl, _, _, rfl, rfl, _, rfl, iteB (fun z => absurd (of_decide_eq_true z) (by omega)) (fun _ => ?_)⟩
      refine ⟨_, rfl, b1, _, _, _, rfl, rfl, hb1, atI_nat (j := 0) rfl, _, _, rfl, rfl, _, rfl, iteB (fun z => absurd (of_decide_eq_true z) (by omega)) (fun _ => ?_)⟩
      refine ⟨_, rfl, b1, _, _, _, rfl, rfl, hb1, atI_nat (j := 0) rfl, _, rfl, b1, _, _, _, rfl, rfl, hb1, atI_nat (j := 1) rfl, _, _, rfl, SM.den_ne _, Nat.lt_of_lt_of_le hsm.2 (Nat.pow_le_pow_right (by decide) (by decide)), fun c5 H5 s5 n5 hc5 => ?_⟩
      have eF : F (fq e.2).1 (fq e.2).2 = fq e.2 := SM.F_red _
      rw [eF] at hc5
      refine ⟨_, rfl, frD e.2, frD e.2, fr_dp ⟨c5, rfl, SqT.of hc5⟩, fr_dp ⟨b1, rfl, s5.fr hb1⟩, (gd_frD _).sh, (gd_frD _).sh, ?_⟩
      rw [eqv_fr]
      refine ⟨_, rfl, iteB (fun z => absurd z (by simp)) (fun _ => ?_)⟩
      have s45 := s4.trans s5.ext
      refine ⟨_, rfl, _, rfl, _, rfl, tot, b1, _, _, rfl, s5.fr htot, s5.fr hb1, okA_of (ok.part j) hsm, fun p6 H6 s6 n6 hp6 => ?_⟩
      rw [SM.addF_fq] at hp6
      refine ⟨⟨p6, _, _, _, rfl, ?_, fun e' m' => ?_⟩, s45.trans s6.ext⟩
      · rw [take_snoc hej, List.map_append, List.map_singleton, sumL_snoc]
        exact SqT.of hp6
      · have := ok.asc
        rw [← List.take_append_drop j row, edr] at this
        have := (List.pairwise_cons.mp (List.pairwise_append.mp this).2.1).1 e' m'
        omega
    · obtain ⟨⟨tot, bef, z5, z6, rfl, htot, hbef⟩, s4⟩ := hP
      rw [ly, List.take_length, ok.one] at htot
      refine ⟨_, rfl, sl2, fun t7 h7 => ?_⟩
      have x7 := ext_upd (o := .tup [.int 1, .int 1]) h7
      refine ⟨frD 1, frD 1, fr_dp ⟨tot, rfl, x7.tup htot⟩, fr_dp ⟨t7, rfl, SqT.of upd_same⟩, (gd_frD _).sh, (gd_frD _).sh, ?_⟩
      rw [eqv_fr]
      exact ⟨_, rfl, iteB (fun z => absurd z (by simp)) (fun _ => ⟨⟨_, _, _, _, _, rfl⟩, s2.trans (x0.trans (s4.trans x7))⟩)⟩
  · obtain ⟨⟨y2, y3, y4, y5, y6, rfl⟩, s2⟩ := hP
    exact q _ (s1.trans s2)
/-! ### the law's shares -/
def spLSh (K : PySem.W.Frag) : Sp := fun vs H Q _ => ∃ (l : Addr) (xs : List V) (ws : List Rat) (D X : Nat), vs = [.ref l] ∧ H l = some (.lst xs) ∧ FrsV K H xs ws ∧ (∀ r ∈ ws, Iz D X r ∧ 0 < r) ∧ ws ≠ [] ∧ ws.length ≤ 256 ∧ D ≠ 0 ∧ D < 2 ^ 1900 ∧ 256 * X < 2 ^ 1900 ∧
  ∀ t H' zs, Ext H H' → SqT K H' t zs → FrsV K H' zs (ws.map fun r => r / sumR ws) → Q (.ref t) H'
theorem ok_law_shares (T : Top K mg) : FnOk P w K mg base CX0 4 T.f_law_shares T.d_law_shares ["weights"] (spLSh K) := by
  refine T.F_law_shares.ok sc_law_shares (fun vs H Q E h => ?_) (fun cdv A outer s H vs Q E hr h => ?_)
  · obtain ⟨l, xs, ws, D, X, rfl, _⟩ := h
    rfl
  obtain ⟨l, xs, ws, D, X, rfl, hl, hxs, hW, hne, l256, hD, hD2, hX, q⟩ := h
  refine ⟨_, (pss_cons (ps_set (i := 1) sc_law_shares.nd rfl (by first | exact .inl rfl | exact .inr rfl) (pe_tup (pa_cons pe_int (pa_cons pe_int pa_nil))))
      (pss_cons (ps_for PassesOwn.never rfl (pi_list (pv 0)) (pg_name (i := 2) sc_law_shares.nd rfl (by first | exact .inl rfl | exact .inr rfl)) (pss_one (ps_set (i := 1) sc_law_shares.nd rfl (by first | exact .inl rfl | exact .inr rfl) (pe_call (ok_law_add T) (hr.mono (by decide)) (by rfl) T.g_law_add T.F_law_add.kp T.b_law_add .nil pass0 (pa_cons (pv 1) (pa_cons (pv 2) pa_nil))))))
      (pss_one (ps_ret (pe_callTy call_tuple_of (by rfl) T.m_tuple (by decide +kernel) (pa_cons (pe_lc (own := [("weight", 2)]) (g := gName 2) (tt := tYes) rfl sc_law_shares.nd (pi_list (pv 0)) (blkOk_by (own := [("weight", 2)]) (N := n_law_shares) (sc := defScope s_law_shares) (by decide +kernel)) (fun _ _ _ _ _ => (pg_name (i := 2) sc_law_shares.nd rfl (by first | exact .inl rfl | exact .inr rfl))) (fun _ _ _ _ _ => pts_nil) (fun _ _ _ _ _ => (pe_call (ok_law_mul T) (hr.mono (by decide)) (by rfl) T.g_law_mul T.F_law_mul.kp T.b_law_mul .nil pass0 (pa_cons (pv 2) (pa_cons (pe_call (ok_law_frac T) (hr.mono (by decide)) (by rfl) T.g_law_frac T.F_law_frac.kp T.b_law_frac .nil pass0 (pa_cons (pe_ix (r := rIxT K) ix_tup (pv 1) pe_int (fun _ _ => rfl)) (pa_cons (pe_ix (r := rIxT K) ix_tup (pv 1) pe_int (fun _ _ => rfl)) pa_nil))) pa_nil))))) pa_nil)))))), ?_⟩
  have lx := hxs.length
  have hTk : ∀ i, Sm (sumR (ws.take i)) := fun i => by
    have h := sumR_iz (D := D) (X := X) (ws.take i) fun r m => (hW r (List.mem_of_mem_take m)).1
    refine sm_izs h hD hD2 (Nat.lt_of_le_of_lt (Nat.mul_le_mul_right X (show _ ≤ 256 from ?_)) hX)
    rw [List.length_take]
    omega
  have hSw : ∀ r ∈ ws, Sm r := fun r m => sm_izs (hW r m).1 hD hD2 (Nat.lt_of_le_of_lt (show X ≤ 256 * X by omega) hX)
  refine ⟨sl2, fun t0 ht0 => ?_⟩
  have x0 := ext_upd (o := .tup [V.int 0, .int 1]) ht0
  have m0 : upd H t0 (.tup [V.int 0, .int 1]) t0 = some (.tup [V.int 0, .int 1]) := upd_same
  generalize upd H t0 (.tup [V.int 0, .int 1]) = H3 at *
  dsimp only [gName]
  have hl3 := x0.lst hl
  have hxs3 := frs_up x0 hxs
  refine ⟨_, rfl, l, rfl, ⟨_, SqL.of hl3⟩, for_list (xs := xs) (fun i σ HA => ∃ t w, σ = [some (.ref l), some (.ref t), w] ∧ Ext H3 HA ∧ Fr K HA t (fq (sumR (ws.take i)))) ⟨t0, _, rfl, Ext.refl _, SqT.of m0⟩ (fun i σ HA _ h => ?_) (fun i v σ HA hi hP => ?_) (fun σ HA hP => ?_)⟩
  · obtain ⟨_, _, _, sA, _⟩ := h
    exact SqL.of (sA.lst hl3)
  · obtain ⟨t, w, rfl, sA, ht⟩ := hP
    obtain ⟨r, hr2, a1, rfl, ha1⟩ := paired_at (frs_up sA hxs3) hi
    have hm := List.mem_of_getElem? hr2
    dsimp only [gName]
    refine ⟨_, rfl, _, rfl, t, a1, _, _, rfl, ht, ha1, okA_of (hTk i) (hSw r hm), fun p3 H6 s6 n6 hp6 => ?_⟩
    rw [SM.addF_fq] at hp6
    refine ⟨p3, _, rfl, sA.trans s6.ext, ?_⟩
    rw [take_snoc hr2, sumR_snoc]
    exact SqT.of hp6
  · obtain ⟨t, w, rfl, sA, ht⟩ := hP
    rw [lx, List.take_length] at ht
    have sT := hTk ws.length
    rw [List.take_length] at sT
    have hpos : 0 < sumR ws := sumR_pos _ hne fun r m => (hW r m).2
    have hSne : sumR ws ≠ 0 := fun e => by rw [e] at hpos; exact absurd hpos (by decide)
    generalize hS : sumR ws = S at *
    have hnum : S.num ≠ 0 := SM.num_ne hSne
    have eF : K04.F ((S.den : Nat) : Int) S.num = fq S⁻¹ := by
      rw [SM.F_fq _ hnum, inv_divInt]
    have sI : Sm S⁻¹ := by
      unfold SM.Sm
      rw [← eF]
      exact ⟨Nat.lt_of_le_of_lt (K04.F_le1 _ hnum) sT.2, Nat.lt_of_le_of_lt (K04.F_le2 _ hnum) sT.1⟩
    dsimp only [gName]
    have hl4 := sA.lst hl3
    have hxs4 := frs_up sA hxs3
    refine ⟨_, rfl, l, rfl, ⟨_, SqL.of hl4⟩, fun D hD => w_list (xs := xs) (fun n HN => Ext HA HN ∧ ∃ zs, HN D = some (.lst zs) ∧ FrsV K HN zs ((ws.take n).map fun r => r / S)) ⟨ext_upd hD, [], upd_same, .nil⟩ (fun n HN _ h => SqL.of (h.1.lst hl4)) (fun n x0' HN hn hP2 => ?_) (fun HN hP2 => ?_)⟩
    · obtain ⟨sN, zs, hz, hzs⟩ := hP2
      obtain ⟨r, hr2, a1, rfl, ha1⟩ := paired_at (frs_up sN hxs4) hn
      have hm := List.mem_of_getElem? hr2
      have lz := hzs.length
      rw [List.length_map, List.length_take] at lz
      have htN := sN.tup ht
      refine ⟨rfl, _, rfl, _, rfl, t, _, 1, _, rfl, rfl, htN, atI_nat (j := 1) rfl, _, rfl, t, _, 0, _, rfl, rfl, htN, atI_nat (j := 0) rfl, ((S.den : Nat) : Int), S.num, rfl, hnum, ?_, fun p2 H5 s5 n5 hp5 => ?_⟩
      · exact Nat.lt_of_lt_of_le sT.1 (Nat.pow_le_pow_right (by decide) (by decide))
      rw [eF] at hp5
      refine ⟨a1, p2, fq r, fq S⁻¹, rfl, s5.ext.tup ha1, SqT.of hp5, okA_of (hSw r hm) sI, fun p3 H6 s6 n6 hp6 => ?_⟩
      rw [SM.mulF_fq] at hp6
      have s56 := s5.ext.trans s6.ext
      have hz6 := s56.lst hz
      refine ⟨zs, hz6, sl_lt (by omega), (sN.trans s56).own hD, zs ++ [.ref p3], upd_same, ?_⟩
      rw [take_snoc hr2, List.map_append]
      refine frs_upd hz6 (paired_snoc (frs_up s56 hzs) ⟨p3, rfl, SqT.of ?_⟩)
      have er : r / S = r * S⁻¹ := Rat.div_def r S
      show H6 p3 = some (.tup [V.int (fq (r / S)).1, V.int (fq (r / S)).2])
      rw [hp6, er]
    · obtain ⟨sN, zs, hz, hzs⟩ := hP2
      rw [lx, List.take_length] at hzs
      refine ⟨D, zs, rfl, .inl ⟨SqL.of hz, fun p5 hp5 => ?_⟩⟩
      have x5 := ext_upd (o := .tup zs) hp5
      exact q p5 _ zs (((x0.trans sA).trans sN).trans x5) (SqT.of upd_same) (frs_up x5 hzs)
/-! ### the law's own: what lies behind shares -/
theorem colR_app (a b : List (Nat × Rat)) (k : Nat) : colR (a ++ b) k = colR a k + colR b k := by
  unfold colR
  rw [List.filter_append, List.map_append, sumR_app]
theorem colR_one (j : Nat) (v : Rat) (k : Nat) : colR [(j, v)] k = if j = k then v else 0 := by
  unfold colR
  by_cases h : j = k
  · rw [if_pos h, List.filter_cons_of_pos (by exact decide_eq_true h)]
    show v + 0 = v
    exact Rat.add_zero v
  · rw [if_neg h, List.filter_cons_of_neg (by rw [decide_eq_false h]; decide)]
    rfl
theorem colR_mul (c : Rat) (k : Nat) : ∀ row : List (Nat × Rat), colR (row.map fun f => (f.1, c * f.2)) k = c * colR row k
  | [] => (Rat.mul_zero c).symm
  | f :: row => by
    have e1 : colR (f :: row) k = colR [f] k + colR row k := colR_app [f] row k
    have e2 : colR ((f :: row).map fun f => (f.1, c * f.2)) k = colR [(f.1, c * f.2)] k + colR (row.map fun f => (f.1, c * f.2)) k := colR_app [(f.1, c * f.2)] (row.map fun f : Nat × Rat => (f.1, c * f.2)) k
    rw [e1, e2, colR_mul c k row, colR_one]
    have e3 : colR [f] k = if f.1 = k then f.2 else 0 := colR_one f.1 f.2 k
    rw [e3]
    split
    · rw [Rat.mul_add]
    · rw [Rat.mul_add, Rat.mul_zero]
def prodR (tab : List (List (Nat × Rat))) (e : Nat × Rat) : List (Nat × Rat) := (rowAt tab e.1).map fun f => (f.1, e.2 * f.2)
def prodsR (tab : List (List (Nat × Rat))) (row : List (Nat × Rat)) : List (Nat × Rat) := row.flatMap (prodR tab)
theorem colR_prods (tab : List (List (Nat × Rat))) (k : Nat) : ∀ row : List (Nat × Rat), colR (prodsR tab row) k = behF tab row k
  | [] => rfl
  | e :: row => by
    have e1 : prodsR tab (e :: row) = prodR tab e ++ prodsR tab row := rfl
    rw [e1, colR_app, colR_prods tab k row]
    unfold prodR behF
    rw [colR_mul, List.map_cons, sumR]
theorem colR_iz {D X : Nat} {k : Nat} (es : List (Nat × Rat)) (h : ∀ e ∈ es, Iz D X e.2) : Iz D (es.length * X) (colR es k) := by
  have h1 := sumR_iz (D := D) (X := X) ((es.filter fun f => decide (f.1 = k)).map fun f => f.2) fun r m => by
    obtain ⟨e, me, rfl⟩ := List.mem_map.mp m
    exact h e (List.mem_filter.mp me).1
  refine h1.le (Nat.mul_le_mul_right X ?_)
  rw [List.length_map]
  exact List.length_filter_le _ _
theorem iz_part {r : Rat} {M : Nat} (h : r.den ∣ M) (h0 : 0 < r) (h1 : r ≤ 1) : Iz M M r := by
  refine ⟨intN M r, (intN_val h).symm, intN_le h h0 h1⟩
theorem ixN_nat {n k : Nat} (h : k < n) : ixN n ((k : Nat) : Int) = some k := by
  unfold ixN
  rw [if_pos (by omega), if_pos (by omega), Int.toNat_natCast]
theorem paired_set {α β : Type} {R : α → β → Prop} {x : α} {y : β} (h : R x y) : ∀ {l : List α} {m : List β} (k : Nat), Paired R l m → Paired R (l.set k x) (m.set k y)
  | _, _, _, .nil => .nil
  | _, _, 0, .cons _ t => .cons h t
  | _, _, k + 1, .cons g t => .cons g (paired_set h k t)
theorem col_set (n : Nat) (es : List (Nat × Rat)) (j : Nat) (v : Rat) : ((List.range n).map (colR es)).set j (colR es j + v) = (List.range n).map (colR (es ++ [(j, v)])) := by
  refine List.ext_getElem? fun i => ?_
  rw [List.getElem?_set, List.getElem?_map, List.getElem?_map, List.length_map, List.length_range]
  by_cases hi : i < n
  · rw [List.getElem?_range hi]
    show (if j = i then (if j < n then some (colR es j + v) else none) else some (colR es i)) = some (colR (es ++ [(j, v)]) i)
    rw [colR_app, colR_one]
    by_cases h : j = i
    · subst h
      rw [if_pos rfl, if_pos hi, if_pos rfl]
    · rw [if_neg h, if_neg h, Rat.add_zero]
  · rw [List.getElem?_eq_none (by rw [List.length_range]; omega)]
    show (if j = i then (if j < n then some (colR es j + v) else none) else none) = none
    by_cases h : j = i
    · rw [if_pos h, if_neg (by omega)]
    · rw [if_neg h]
theorem flat_len {α β : Type} {F : α → List β} {c : Nat} : ∀ {l : List α}, (∀ e ∈ l, (F e).length ≤ c) → (l.flatMap F).length ≤ c * l.length
  | [], _ => Nat.zero_le _
  | e :: l, h => by
    have ih := flat_len (F := F) (c := c) (l := l) fun x m => h x (List.mem_cons_of_mem _ m)
    have h1 := h e List.mem_cons_self
    rw [List.flatMap_cons, List.length_append, List.length_cons, Nat.mul_succ]
    omega
def enumR (ss : List Rat) : List (Nat × Rat) := (List.range ss.length).map fun k => (k, co ss k)
def spLBeh (K : PySem.W.Frag) : Sp := fun vs H Q _ => ∃ (a b : Addr) (xs ys : List V) (ss : List Rat) (tab : List (List (Nat × Rat))) (M1 M2 : Nat), vs = [.ref a, .ref b] ∧ SqT K H a xs ∧ FrsV K H xs ss ∧ SqT K H b ys ∧ Paired (RowV K H) ys tab ∧ tab.length = ss.length ∧
  (∀ r ∈ ss, r.den ∣ M1 ∧ 0 < r ∧ r ≤ 1) ∧ TabOk M2 ss.length tab ∧ M1 ≠ 0 ∧ M2 ≠ 0 ∧ 2 ^ 20 * (M1 * M2) < 2 ^ 1900 ∧ ss.length ≤ 300 ∧ 1 ≤ ss.length ∧
  ∀ t H' zs, Ext H H' → SqT K H' t zs → FrsV K H' zs ((List.range ss.length).map (behF tab (enumR ss))) → Q (.ref t) H'
theorem ok_law_behind (T : Top K mg) : FnOk P w K mg base CX0 4 T.f_law_behind T.d_law_behind ["shares", "table"] (spLBeh K) := by
  refine T.F_law_behind.ok sc_law_behind (fun vs H Q E h => ?_) (fun cdv A outer s H vs Q E hr h => ?_)
  · obtain ⟨a, b, xs, ys, ss, tab, M1, M2, rfl, _⟩ := h
    rfl
  obtain ⟨a, b, xs, ys, ss, tab, M1, M2, rfl, ha, hx, hb, hy, hlen, hss, htab, hM1, hM2, hMM, l300, l1, q⟩ := h
  refine ⟨_, (pss_cons (ps_set (i := 2) sc_law_behind.nd rfl (by first | exact .inl rfl | exact .inr rfl) (pe_op op_rep (pe_lst (pa_cons (pe_tup (pa_cons pe_int (pa_cons pe_int pa_nil))) pa_nil)) (pe_callB call_len_seq (by rfl) T.m_len (by decide +kernel) (pa_cons (pv 0) pa_nil))))
      (pss_cons (ps_for PassesOwn.never rfl (pi_range1 (by rfl) T.m_range (pa_cons (pe_callB call_len_seq (by rfl) T.m_len (by decide +kernel) (pa_cons (pv 0) pa_nil)) pa_nil)) (pg_name (i := 3) sc_law_behind.nd rfl (by first | exact .inl rfl | exact .inr rfl)) (pss_one (ps_for PassesOwn.never rfl (pi_tup (pe_ix ix_tup (pv 1) (pv 3) (fun _ _ => rfl))) (pg_tup rfl (pgs_cons (pg_name (i := 4) sc_law_behind.nd rfl (by first | exact .inl rfl | exact .inr rfl)) (pgs_cons (pg_name (i := 5) sc_law_behind.nd rfl (by first | exact .inl rfl | exact .inr rfl)) pgs_nil))) (pss_one (ps_asg (pe_call (ok_law_add T) (hr.mono (by decide)) (by rfl) T.g_law_add T.F_law_add.kp T.b_law_add .nil pass0 (pa_cons (pe_ix ix_list (pv 2) (pv 4) (fun _ _ => rfl)) (pa_cons (pe_call (ok_law_mul T) (hr.mono (by decide)) (by rfl) T.g_law_mul T.F_law_mul.kp T.b_law_mul .nil pass0 (pa_cons (pe_ix ix_tup (pv 0) (pv 3) (fun _ _ => rfl)) (pa_cons (pv 5) pa_nil))) pa_nil))) (pg_sub (pv 2) (pv 4) set_list))))))
      (pss_one (ps_ret (pe_callTy call_tuple_of (by rfl) T.m_tuple (by decide +kernel) (pa_cons (pv 2) pa_nil)))))), ?_⟩
  have lx := hx.length
  have ly := hy.length
  have hMMs : M1 * M2 < 2 ^ 1900 := by omega
  have hM1s : M1 < 2 ^ 1900 := Nat.lt_of_le_of_lt (Nat.le_mul_of_pos_right M1 (Nat.pos_of_ne_zero hM2)) hMMs
  have hM2s : M2 < 2 ^ 1900 := Nat.lt_of_le_of_lt (Nat.le_mul_of_pos_left M2 (Nat.pos_of_ne_zero hM1)) hMMs
  have hE : ∀ e ∈ enumR ss, (∀ x ∈ prodR tab e, Iz (M1 * M2) (M1 * M2) x.2) ∧ (prodR tab e).length ≤ 300 := fun e me => by
    obtain ⟨k, mk, rfl⟩ := List.mem_map.mp me
    have hk := List.mem_range.mp mk
    have hcm : co ss k ∈ ss := by
      unfold co
      rw [List.getD_eq_getElem?_getD, List.getElem?_eq_getElem hk]
      exact List.getElem_mem hk
    obtain ⟨d1, d2, d3⟩ := hss _ hcm
    have e0 := List.getElem?_eq_getElem (show k < tab.length by omega)
    have e1 : rowAt tab k = tab[k] := rowAt_at e0
    obtain ⟨r1, r2⟩ := htab _ (List.mem_of_getElem? e0)
    unfold prodR
    show (∀ x ∈ (rowAt tab k).map _, _) ∧ ((rowAt tab k).map _).length ≤ 300
    rw [e1]
    refine ⟨fun x mx => ?_, by rw [List.length_map]; exact r1⟩
    obtain ⟨f, mf, rfl⟩ := List.mem_map.mp mx
    obtain ⟨q1, q2, q3, _⟩ := r2 f mf
    exact SM.Iz.mul (iz_part d1 d2 d3) (iz_part q1 q2 q3)
  have hcs : ∀ i < ss.length, ∀ j k, Sm (colR (prodsR tab ((enumR ss).take i) ++ (prodR tab (i, co ss i)).take j) k) := fun i hi j k => by
    have hmi : (i, co ss i) ∈ enumR ss := List.mem_map.mpr ⟨i, List.mem_range.mpr hi, rfl⟩
    have h := colR_iz (D := M1 * M2) (X := M1 * M2) (k := k) (prodsR tab ((enumR ss).take i) ++ (prodR tab (i, co ss i)).take j) fun e me => by
      rcases List.mem_append.mp me with me | me
      · obtain ⟨x, mx, me⟩ := List.mem_flatMap.mp me
        exact (hE x (List.mem_of_mem_take mx)).1 e me
      · exact (hE _ hmi).1 e (List.mem_of_mem_take me)
    refine sm_izs h (Nat.mul_ne_zero hM1 hM2) hMMs (Nat.lt_of_le_of_lt (Nat.mul_le_mul_right _ (show _ ≤ 2 ^ 20 from ?_)) hMM)
    have f1 := flat_len (F := prodR tab) (c := 300) (l := (enumR ss).take i) fun e me => (hE e (List.mem_of_mem_take me)).2
    have f2 := (hE _ hmi).2
    have f3 : (prodsR tab ((enumR ss).take i)).length ≤ 300 * ((enumR ss).take i).length := f1
    have f4 : ((enumR ss).take i).length ≤ 300 := by
      rw [List.length_take]
      omega
    rw [List.length_append, List.length_take]
    have f5 : 300 * ((enumR ss).take i).length ≤ 300 * 300 := Nat.mul_le_mul_left _ f4
    have f6 : (300 * 300 + 300 : Nat) ≤ 2 ^ 20 := by decide
    omega
  refine ⟨sl2, fun t0 ht0 => ⟨by rw [sizeLine_eq]; simp, fun l0 hl0 => ?_⟩⟩
  have x0 := ext_upd (o := .tup [V.int 0, .int 1]) ht0
  have m0 : upd H t0 (.tup [V.int 0, .int 1]) t0 = some (.tup [V.int 0, .int 1]) := upd_same
  generalize upd H t0 (.tup [V.int 0, .int 1]) = H1 at *
  have x1 := ext_upd (o := .lst [V.ref t0]) hl0
  have m1 : upd H1 l0 (.lst [V.ref t0]) l0 = some (.lst [V.ref t0]) := upd_same
  have m0 := x1.at m0
  have s1 := x0.trans x1
  generalize upd H1 l0 (.lst [V.ref t0]) = H2 at *
  refine ⟨_, rfl, a, _, rfl, .inr (s1.tup ha), l0, _, [V.ref t0], rfl, rfl, m1, by omega, by omega, ?_, fun fd hfd => ?_⟩
  · rw [sizeLine_eq]
    show 1 * ((xs.length : Int)).toNat ≤ _
    omega
  have e3 : (List.replicate ((xs.length : Int)).toNat [V.ref t0]).flatten = List.replicate ss.length (V.ref t0) := by
    rw [Int.toNat_natCast, lx]
    have : ∀ k : Nat, (List.replicate k [V.ref t0]).flatten = List.replicate k (V.ref t0) := fun k => by
      induction k with
      | zero => rfl
      | succ k ih => rw [List.replicate_succ, List.flatten_cons, ih]; rfl
    exact this _
  rw [e3]
  have x2 := ext_upd (o := .lst (List.replicate ss.length (V.ref t0))) hfd
  have kf : upd H2 fd (.lst (List.replicate ss.length (V.ref t0))) fd = some (.lst (List.replicate ss.length (V.ref t0))) := upd_same
  have nfd : H fd = none := s1.free hfd
  have m0 := x2.at m0
  have s2 := s1.trans x2
  generalize upd H2 fd (.lst (List.replicate ss.length (V.ref t0))) = H3 at *
  have fr0 : FrsV K H3 (List.replicate ss.length (V.ref t0)) ((List.range ss.length).map (colR [])) := by
    have : ∀ k : Nat, FrsV K H3 (List.replicate k (V.ref t0)) (List.replicate k 0) := fun k => by
      induction k with
      | zero => exact .nil
      | succ k ih => exact .cons ⟨t0, rfl, SqT.of m0⟩ ih
    have e4 : (List.range ss.length).map (colR []) = List.replicate ss.length 0 := by
      refine List.eq_replicate_iff.mpr ⟨by rw [List.length_map, List.length_range], fun r m => ?_⟩
      obtain ⟨k, _, rfl⟩ := List.mem_map.mp m
      rfl
    rw [e4]
    exact this _
  dsimp only [gName]
  refine ⟨_, rfl, a, _, rfl, .inr (s2.tup ha), _, rfl, by omega, by omega, for_range (lo := 0) (n := ((xs.length : Int)).toNat) (fun i σ HA => ∃ y3 y4 y5 zs, σ = [some (.ref a), some (.ref b), some (.ref fd), y3, y4, y5] ∧ (Ext H HA ∧ Keep H3 HA) ∧ HA fd = some (.lst zs) ∧ FrsV K HA zs ((List.range ss.length).map (colR (prodsR tab ((enumR ss).take i))))) ⟨_, _, _, _, rfl, ⟨s2, Keep.refl _⟩, kf, fr0⟩ (fun i σ HA hi hP => ?_) (fun σ HA hP => ?_)⟩
  · obtain ⟨y3, y4, y5, zs, rfl, ⟨sA, kA⟩, hz, hzs⟩ := hP
    rw [Int.toNat_natCast] at hi
    rw [Int.zero_add]
    have his : i < ss.length := by omega
    have hen : (enumR ss)[i]? = some (i, co ss i) := by
      unfold enumR
      rw [List.getElem?_map, List.getElem?_range his]
      rfl
    obtain ⟨sv, hsv, c4, rfl, hc4⟩ := frs_at hx his
    have hcm : co ss i ∈ ss := by
      unfold co
      rw [List.getD_eq_getElem?_getD, List.getElem?_eq_getElem his]
      exact List.getElem_mem his
    obtain ⟨d1, d2, d3⟩ := hss _ hcm
    have hyk := List.getElem?_eq_getElem (show i < ys.length by omega)
    obtain ⟨row0, hrow, p, zs', ev, hp, hzs'⟩ := paired_at hy hyk
    have erw := rowAt_at hrow
    obtain ⟨r1, r2⟩ := htab _ (List.mem_of_getElem? hrow)
    have lz' := hzs'.length
    have epr : prodR tab (i, co ss i) = row0.map fun f => (f.1, co ss i * f.2) := by
      unfold prodR
      rw [erw]
    dsimp only [gName]
    refine ⟨_, rfl, _, rfl, b, ys, ((i : Nat) : Int), .ref p, rfl, rfl, sA.tup hb, atI_nat (ev ▸ hyk), p, rfl, ⟨_, sA.tup hp⟩, for_tup (xs := zs') (fun j σ HB => ∃ y4 y5 zs, σ = [some (.ref a), some (.ref b), some (.ref fd), some (.int ((i : Nat) : Int)), y4, y5] ∧ (Ext H HB ∧ Keep H3 HB) ∧ HB fd = some (.lst zs) ∧ FrsV K HB zs ((List.range ss.length).map (colR (prodsR tab ((enumR ss).take i) ++ (prodR tab (i, co ss i)).take j)))) ⟨_, _, zs, rfl, ⟨sA, kA⟩, hz, by rw [List.take_zero, List.append_nil]; exact hzs⟩ (fun j σ HB _ h => ?_) (fun j x0 σ HB hj hP2 => ?_) (fun σ HB hP2 => ?_)⟩
    · obtain ⟨_, _, _, _, ⟨h, _⟩, _⟩ := h
      exact h.tup hp
    · obtain ⟨y4, y5, zs, rfl, ⟨sB, kB⟩, hz, hzs⟩ := hP2
      obtain ⟨⟨k2, f⟩, hfj, a3, wv, rfl, ha3, c5, rfl, hc5⟩ := paired_at hzs' hj
      have hmf := List.mem_of_getElem? hfj
      obtain ⟨q1, q2, q3, q4⟩ := r2 _ hmf
      have k2l : k2 < ss.length := q4
      have hpj : (prodR tab (i, co ss i))[j]? = some (k2, co ss i * f) := by
        rw [epr, List.getElem?_map, hfj]
        rfl
      obtain ⟨fv, hfv, c3, rfl, hc3⟩ := frs_at hzs (k := k2) (by rw [List.length_map, List.length_range]; exact k2l)
      have lz := hzs.length
      rw [List.length_map, List.length_range] at lz
      have eco : co ((List.range ss.length).map (colR (prodsR tab ((enumR ss).take i) ++ (prodR tab (i, co ss i)).take j))) k2 = colR (prodsR tab ((enumR ss).take i) ++ (prodR tab (i, co ss i)).take j) k2 := by
        unfold co
        rw [List.getD_eq_getElem?_getD, List.getElem?_map, List.getElem?_range k2l]
        rfl
      rw [eco] at hc3
      have ha3 := sB.tup ha3
      have hc5 := sB.tup hc5
      have sS : Sm (co ss i) := sm_part d1 hM1 hM1s d2 d3
      have sF : Sm f := sm_part q1 hM2 hM2s q2 q3
      have sC : Sm (colR (prodsR tab ((enumR ss).take i) ++ (prodR tab (i, co ss i)).take j) k2) := hcs i his j k2
      have sM : Sm (co ss i * f) := sm_izs (SM.Iz.mul (iz_part d1 d2 d3) (iz_part q1 q2 q3)) (Nat.mul_ne_zero hM1 hM2) hMMs hMMs
      refine ⟨a3, _, rfl, ha3, rfl, _, _, rfl, _, _, rfl, rfl, ?_⟩
      dsimp only [gName]
      refine ⟨_, rfl, _, rfl, fd, zs, ((k2 : Nat) : Int), .ref c3, rfl, rfl, SqL.of hz, atI_nat hfv, _, rfl, _, rfl, a, xs, ((i : Nat) : Int), .ref c4, rfl, rfl, sB.tup ha, atI_nat hsv, _, rfl, c4, c5, _, _, rfl, sB.tup hc4, hc5, okA_of sS sF, fun p2 H5 s5 n5 hp5 => ?_⟩
      rw [SM.mulF_fq] at hp5
      refine ⟨c3, p2, _, _, rfl, s5.ext.tup hc3, SqT.of hp5, okA_of sC sM, fun p3 H6 s6 n6 hp6 => ?_⟩
      rw [SM.addF_fq] at hp6
      have s56 := s5.ext.trans s6.ext
      have hz6 := s56.lst hz
      refine ⟨_, rfl, _, rfl, fd, zs, ((k2 : Nat) : Int), k2, rfl, rfl, hz6, ixN_nat (by omega), ?_⟩
      refine ⟨_, _, zs.set k2 (.ref p3), rfl, ⟨(sB.trans s56).own nfd, (kB.trans s56.kp).trans (keep_upd hz6 ntp_lst)⟩, upd_same, ?_⟩
      rw [take_snoc hpj, ← List.append_assoc, ← col_set]
      exact frs_upd hz6 (paired_set ⟨p3, rfl, SqT.of hp6⟩ k2 (frs_up s56 hzs))
    · obtain ⟨y4, y5, zs, rfl, ⟨sB, kB⟩, hz, hzs⟩ := hP2
      have e1 : zs'.length = (prodR tab (i, co ss i)).length := by
        rw [epr, List.length_map, lz']
      rw [e1, List.take_length] at hzs
      refine ⟨_, _, _, zs, rfl, ⟨sB, kB⟩, hz, ?_⟩
      rw [take_snoc hen]
      have e2 : prodsR tab ((enumR ss).take i ++ [(i, co ss i)]) = prodsR tab ((enumR ss).take i) ++ prodR tab (i, co ss i) := by
        unfold prodsR
        rw [List.flatMap_append]
        simp
      rw [e2]
      exact hzs
  · obtain ⟨y3, y4, y5, zs, rfl, ⟨sA, kA⟩, hz, hzs⟩ := hP
    have le : (enumR ss).length = ss.length := by unfold enumR; rw [List.length_map, List.length_range]
    rw [Int.toNat_natCast, lx, ← le, List.take_length] at hzs
    have e5 : (List.range ss.length).map (colR (prodsR tab (enumR ss))) = (List.range ss.length).map (behF tab (enumR ss)) := List.map_congr_left fun k _ => colR_prods tab k _
    rw [le, e5] at hzs
    refine ⟨_, rfl, fd, zs, rfl, .inl ⟨SqL.of hz, fun p5 hp5 => ?_⟩⟩
    have x5 := ext_upd (o := .tup zs) hp5
    exact q p5 _ zs (sA.trans x5) (SqT.of upd_same) (frs_up x5 hzs)
/-! ### the law's chance of a place, and balance -/
theorem colR_at {k : Nat} {v : Rat} : ∀ {row : List (Nat × Rat)}, (row.map fun f => f.1).Nodup → (k, v) ∈ row → colR row k = v
  | [], _, h => by cases h
  | f :: row, nd, h => by
    obtain ⟨n1, n2⟩ := List.nodup_cons.mp (show (f.1 :: row.map fun f => f.1).Nodup from nd)
    have e1 : colR (f :: row) k = colR [f] k + colR row k := colR_app [f] row k
    have e3 : colR [f] k = if f.1 = k then f.2 else 0 := colR_one f.1 f.2 k
    rw [e1, e3]
    rcases List.mem_cons.mp h with w | w
    · have hz : colR row k = 0 := colR_zero fun g mg eg => n1 (List.mem_map.mpr ⟨g, mg, by rw [eg, ← w]⟩)
      rw [← w, if_pos rfl, hz, Rat.add_zero]
    · have hne : f.1 ≠ k := fun z => n1 (List.mem_map.mpr ⟨(k, v), w, z.symm⟩)
      rw [if_neg hne, colR_at n2 w, Rat.zero_add]
def spLCh (K : PySem.W.Frag) : Sp := fun vs H Q _ => ∃ (b : Addr) (ys : List V) (tab : List (List (Nat × Rat))) (s e : Nat), vs = [.ref b, .int ((s : Nat) : Int), .int ((e : Nat) : Int)] ∧ SqT K H b ys ∧ Paired (RowV K H) ys tab ∧ s < tab.length ∧ (∀ rw ∈ tab, (rw.map fun f => f.1).Nodup) ∧
  ∀ v H', Ext H H' → FrV K H' v (colR (rowAt tab s) e) → Q v H'
theorem ok_law_chance (T : Top K mg) : FnOk P w K mg base CX0 1 T.f_law_chance T.d_law_chance ["table", "start", "end"] (spLCh K) := by
  refine T.F_law_chance.ok sc_law_chance (fun vs H Q E h => ?_) (fun cdv A outer s H vs Q E hr h => ?_)
  · obtain ⟨b, ys, tab, s, e, rfl, _⟩ := h
    rfl
  obtain ⟨b, ys, tab, s, e, rfl, hb, hy, hs, hnd, q⟩ := h
  refine ⟨_, (pss_cons (ps_for PassesOwn.never rfl (pi_tup (pe_ix ix_tup (pv 0) (pv 1) (fun _ _ => rfl))) (pg_tup rfl (pgs_cons (pg_name (i := 3) sc_law_chance.nd rfl (by first | exact .inl rfl | exact .inr rfl)) (pgs_cons (pg_name (i := 4) sc_law_chance.nd rfl (by first | exact .inl rfl | exact .inr rfl)) pgs_nil))) (pss_one (ps_if (pt_cmpR op_eq (pv 3) (pv 2) (nomark _)) (pss_one (ps_ret (pv 4))) pss_nil)))
      (pss_one (ps_ret (pe_tup (pa_cons pe_int (pa_cons pe_int pa_nil)))))), ?_⟩
  have ly := hy.length
  have hyk := List.getElem?_eq_getElem (show s < ys.length by omega)
  obtain ⟨row0, hrow, p, zs', ev, hp, hzs'⟩ := paired_at hy hyk
  have erw := rowAt_at hrow
  have nd0 := hnd _ (List.mem_of_getElem? hrow)
  have lz := hzs'.length
  rw [erw] at q
  refine ⟨_, rfl, _, rfl, b, ys, ((s : Nat) : Int), .ref p, rfl, rfl, hb, atI_nat (ev ▸ hyk), p, rfl, ⟨_, hp⟩, for_tup (xs := zs') (fun j σ HB => ∃ y3 y4, σ = [some (.ref b), some (.int ((s : Nat) : Int)), some (.int ((e : Nat) : Int)), y3, y4] ∧ HB = H ∧ ∀ f ∈ row0.take j, f.1 ≠ e) ⟨_, _, rfl, rfl, fun f m => absurd m (by simp)⟩ (fun j σ HB _ h => ?_) (fun j x0 σ HB hj hP2 => ?_) (fun σ HB hP2 => ?_)⟩
  · obtain ⟨_, _, _, h, _⟩ := h
    rw [h]
    exact hp
  · obtain ⟨y3, y4, rfl, rfl, hne⟩ := hP2
    obtain ⟨⟨k2, f⟩, hfj, a3, wv, rfl, ha3, c5, rfl, hc5⟩ := paired_at hzs' hj
    refine ⟨a3, _, rfl, ha3, rfl, _, _, rfl, _, _, rfl, rfl, ?_⟩
    dsimp only [gName]
    refine ⟨_, rfl, _, rfl, rfl, _, rfl, iteB (fun z => ?_) (fun z => ?_)⟩
    · have ek : k2 = e := by
        have := V.int.inj (of_decide_eq_true z)
        have h2 : ((k2 : Nat) : Int) = ((e : Nat) : Int) := this
        omega
      refine ⟨_, rfl, q _ _ (Ext.refl _) ⟨c5, rfl, ?_⟩⟩
      have hm := List.mem_of_getElem? hfj
      rw [ek] at hm
      rw [colR_at nd0 hm]
      exact hc5
    · have ek : k2 ≠ e := fun h => by
        have h2 : V.int ((k2 : Nat) : Int) = V.int ((e : Nat) : Int) := by rw [h]
        have h3 := of_decide_eq_false z
        exact h3 h2
      refine ⟨_, _, rfl, rfl, fun g mg => ?_⟩
      rw [take_snoc hfj] at mg
      rcases List.mem_append.mp mg with mg | mg
      · exact hne g mg
      · rw [List.mem_singleton.mp mg]
        exact ek
  · obtain ⟨y3, y4, rfl, rfl, hne⟩ := hP2
    rw [lz, List.take_length] at hne
    refine ⟨sl2, fun t ht => q _ _ (ext_upd ht) ⟨t, rfl, ?_⟩⟩
    rw [colR_zero hne]
    exact SqT.of upd_same
def bal (ss : List Rat) (tab : List (List (Nat × Rat))) (i j : Nat) : Prop := co ss i * colR (rowAt tab i) j = co ss j * colR (rowAt tab j) i
instance (ss : List Rat) (tab : List (List (Nat × Rat))) (i j : Nat) : Decidable (bal ss tab i j) := inferInstanceAs (Decidable (_ = _))
def spLBal (K : PySem.W.Frag) : Sp := fun vs H Q _ => ∃ (a b : Addr) (xs ys : List V) (ss : List Rat) (tab : List (List (Nat × Rat))) (M1 M2 : Nat), vs = [.ref a, .ref b] ∧ SqT K H a xs ∧ FrsV K H xs ss ∧ SqT K H b ys ∧ Paired (RowV K H) ys tab ∧ tab.length = ss.length ∧
  (∀ r ∈ ss, r.den ∣ M1 ∧ 0 < r ∧ r ≤ 1) ∧ TabOk M2 ss.length tab ∧ (∀ rw ∈ tab, (rw.map fun f => f.1).Nodup) ∧ M1 ≠ 0 ∧ M2 ≠ 0 ∧ M1 < 2 ^ 1900 ∧ M2 < 2 ^ 1900 ∧ ss.length ≤ 300 ∧
  ∀ H' r, Ext H H' → (r = true ↔ ∀ i < ss.length, ∀ j < i, bal ss tab i j) → Q (.bl r) H'
theorem ok_law_balanced (T : Top K mg) : FnOk P w K mg base CX0 4 T.f_law_balanced T.d_law_balanced ["shares", "table"] (spLBal K) := by
  refine T.F_law_balanced.ok sc_law_balanced (fun vs H Q E h => ?_) (fun cdv A outer s H vs Q E hr h => ?_)
  · obtain ⟨a, b, xs, ys, ss, tab, M1, M2, rfl, _⟩ := h
    rfl
  obtain ⟨a, b, xs, ys, ss, tab, M1, M2, rfl, ha, hx, hb, hy, hlen, hss, htab, hnd, hM1, hM2, hM1s, hM2s, l300, q⟩ := h
  refine ⟨_, (pss_cons (ps_for PassesOwn.never rfl (pi_range1 (by rfl) T.m_range (pa_cons (pe_callB call_len_seq (by rfl) T.m_len (by decide +kernel) (pa_cons (pv 0) pa_nil)) pa_nil)) (pg_name (i := 2) sc_law_balanced.nd rfl (by first | exact .inl rfl | exact .inr rfl)) (pss_one (ps_for PassesOwn.never rfl (pi_range1 (by rfl) T.m_range (pa_cons (pv 2) pa_nil)) (pg_name (i := 3) sc_law_balanced.nd rfl (by first | exact .inl rfl | exact .inr rfl)) (pss_one (ps_if (pt_cmpR (op_neD hr.units) (pe_call (ok_law_mul T) (hr.mono (by decide)) (by rfl) T.g_law_mul T.F_law_mul.kp T.b_law_mul .nil pass0 (pa_cons (pe_ix ix_tup (pv 0) (pv 2) (fun _ _ => rfl)) (pa_cons (pe_call (ok_law_chance T) (hr.mono (by decide)) (by rfl) T.g_law_chance T.F_law_chance.kp T.b_law_chance .nil pass0 (pa_cons (pv 1) (pa_cons (pv 2) (pa_cons (pv 3) pa_nil)))) pa_nil))) (pe_call (ok_law_mul T) (hr.mono (by decide)) (by rfl) T.g_law_mul T.F_law_mul.kp T.b_law_mul .nil pass0 (pa_cons (pe_ix ix_tup (pv 0) (pv 3) (fun _ _ => rfl)) (pa_cons (pe_call (ok_law_chance T) (hr.mono (by decide)) (by rfl) T.g_law_chance T.F_law_chance.kp T.b_law_chance .nil pass0 (pa_cons (pv 1) (pa_cons (pv 3) (pa_cons (pv 2) pa_nil)))) pa_nil))) (nomark _)) (pss_one (ps_ret pe_bl)) pss_nil)))))
      (pss_one (ps_ret pe_bl))), ?_⟩
  have lx := hx.length
  have ly := hy.length
  have hsm : ∀ i < ss.length, Sm (co ss i) := fun i hi => by
    have hcm : co ss i ∈ ss := by
      unfold co
      rw [List.getD_eq_getElem?_getD, List.getElem?_eq_getElem hi]
      exact List.getElem_mem hi
    obtain ⟨d1, d2, d3⟩ := hss _ hcm
    exact sm_part d1 hM1 hM1s d2 d3
  have hsc : ∀ i < ss.length, ∀ j, Sm (colR (rowAt tab i) j) := fun i hi j => by
    have e0 := List.getElem?_eq_getElem (show i < tab.length by omega)
    have e1 : rowAt tab i = tab[i] := rowAt_at e0
    obtain ⟨r1, r2⟩ := htab _ (List.mem_of_getElem? e0)
    have n1 := hnd _ (List.mem_of_getElem? e0)
    rw [e1]
    by_cases h : ∃ f ∈ tab[i], f.1 = j
    · obtain ⟨⟨k, v⟩, mf, ef⟩ := h
      have ef : k = j := ef
      subst ef
      rw [colR_at n1 mf]
      obtain ⟨q1, q2, q3, _⟩ := r2 _ mf
      exact sm_part q1 hM2 hM2s q2 q3
    · rw [colR_zero fun f m e => h ⟨f, m, e⟩]
      exact sm_zero
  dsimp only [gName]
  refine ⟨_, rfl, a, _, rfl, .inr ha, _, rfl, by omega, by omega, for_range (lo := 0) (n := ((xs.length : Int)).toNat) (fun i σ HA => ∃ y2 y3, σ = [some (.ref a), some (.ref b), y2, y3] ∧ Ext H HA ∧ ∀ i' < i, ∀ j < i', bal ss tab i' j) ⟨_, _, rfl, Ext.refl _, fun i' h => absurd h (Nat.not_lt_zero _)⟩ (fun i σ HA hi hP => ?_) (fun σ HA hP => ?_)⟩
  · obtain ⟨y2, y3, rfl, sA, hbal⟩ := hP
    rw [Int.toNat_natCast] at hi
    rw [Int.zero_add]
    have hi : i < ss.length := by omega
    dsimp only [gName]
    refine ⟨_, rfl, _, rfl, by omega, by omega, for_range (lo := 0) (n := ((i : Nat) : Int).toNat) (fun j σ HB => ∃ y3, σ = [some (.ref a), some (.ref b), some (.int ((i : Nat) : Int)), y3] ∧ Ext H HB ∧ ∀ j' < j, bal ss tab i j') ⟨_, rfl, sA, fun j' h => absurd h (Nat.not_lt_zero _)⟩ (fun j σ HB hj hP => ?_) (fun σ HB hP => ?_)⟩
    · obtain ⟨y3, rfl, sB, hb1⟩ := hP
      rw [Int.toNat_natCast] at hj
      rw [Int.zero_add]
      dsimp only [gName]
      have hjs : j < ss.length := by omega
      obtain ⟨sv, hsv, ci, rfl, hci⟩ := frs_at (frs_up sB hx) hi
      obtain ⟨sw, hsw, cj, rfl, hcj⟩ := frs_at (frs_up sB hx) hjs
      refine ⟨_, rfl, _, rfl, a, xs, ((i : Nat) : Int), .ref ci, rfl, rfl, sB.tup ha, atI_nat hsv, _, rfl, _, rfl, _, rfl, b, ys, tab, i, j, rfl, sB.tup hb, rows_up sB hy, by omega, hnd, fun v1 H2 s2 hv1 => ?_⟩
      obtain ⟨c1, rfl, hc1⟩ := hv1
      refine ⟨ci, c1, _, _, rfl, s2.tup hci, hc1, okA_of (hsm i hi) (hsc i hi j), fun p1 H3 s3 n3 hp1 => ?_⟩
      rw [SM.mulF_fq] at hp1
      have sB3 := (sB.trans s2).trans s3.ext
      refine ⟨_, rfl, _, rfl, a, xs, ((j : Nat) : Int), .ref cj, rfl, rfl, sB3.tup ha, atI_nat hsw, _, rfl, _, rfl, _, rfl, b, ys, tab, j, i, rfl, sB3.tup hb, rows_up sB3 hy, by omega, hnd, fun v2 H4 s4 hv2 => ?_⟩
      obtain ⟨c2, rfl, hc2⟩ := hv2
      refine ⟨cj, c2, _, _, rfl, ((s2.trans s3.ext).trans s4).tup hcj, hc2, okA_of (hsm j hjs) (hsc j hjs i), fun p2 H5 s5 n5 hp2 => ?_⟩
      rw [SM.mulF_fq] at hp2
      have sB5 := (sB3.trans s4).trans s5.ext
      refine ⟨frD _, frD _, fr_dp ⟨p1, rfl, (s4.trans s5.ext).tup (SqT.of hp1)⟩, fr_dp ⟨p2, rfl, SqT.of hp2⟩, (gd_frD _).sh, (gd_frD _).sh, ?_⟩
      rw [eqv_fr]
      refine ⟨_, rfl, iteB (fun z => ?_) (fun z => ?_)⟩
      · have hne : ¬ bal ss tab i j := fun h => by
          have h : co ss i * colR (rowAt tab i) j = co ss j * colR (rowAt tab j) i := h
          rw [decide_eq_true h] at z
          cases z
        exact q _ false sB5 ⟨fun h => (nomatch h), fun h => absurd (h i hi j hj) hne⟩
      · have he : bal ss tab i j := by
          by_cases h : co ss i * colR (rowAt tab i) j = co ss j * colR (rowAt tab j) i
          · exact h
          · rw [decide_eq_false h] at z
            cases z
        refine ⟨_, rfl, sB5, fun j' hj' => ?_⟩
        rcases Nat.lt_or_ge j' j with h | h
        · exact hb1 j' h
        · have : j' = j := by omega
          subst this
          exact he
    · obtain ⟨y3, rfl, sB, hb1⟩ := hP
      rw [Int.toNat_natCast] at hb1
      refine ⟨_, _, rfl, sB, fun i' h' j hj => ?_⟩
      rcases Nat.lt_or_ge i' i with h | h
      · exact hbal i' h j hj
      · have : i' = i := by omega
        subst this
        exact hb1 j hj
  · obtain ⟨y2, y3, rfl, sA, hbal⟩ := hP
    rw [Int.toNat_natCast, lx] at hbal
    exact q _ true sA ⟨fun _ => hbal, fun _ => rfl⟩
/-! ### dicts from keys to fractions -/
section
variable {β : Type} [DecidableEq β]
def keysG (l : List (β × Rat)) : List β := l.map (·.1)
def getG (l : List (β × Rat)) (k : β) : Rat := ((l.find? fun e => decide (e.1 = k)).map (·.2)).getD 0
def putG (l : List (β × Rat)) (k : β) (x : Rat) : List (β × Rat) := if (l.any fun e => decide (e.1 = k)) = true then l.map (fun e => if e.1 = k then (e.1, x) else e) else l ++ [(k, x)]
def addG (l : List (β × Rat)) (k : β) (y : Rat) : List (β × Rat) := putG l k (getG l k + y)
def dotG (F : β → Rat) : List (β × Rat) → Rat
  | [] => 0
  | e :: l => e.2 * F e.1 + dotG F l
theorem getG_cons (e : β × Rat) (l : List (β × Rat)) (k : β) : getG (e :: l) k = if e.1 = k then e.2 else getG l k := by
  unfold getG
  rw [List.find?_cons]
  by_cases h : e.1 = k
  · rw [if_pos h, decide_eq_true h]
    rfl
  · rw [if_neg h, decide_eq_false h]
theorem getG_none {l : List (β × Rat)} {k : β} (h : k ∉ keysG l) : getG l k = 0 := by
  unfold getG
  have : l.find? (fun e => decide (e.1 = k)) = none := List.find?_eq_none.mpr fun e m z => h (List.mem_map.mpr ⟨e, m, of_decide_eq_true z⟩)
  rw [this]
  rfl
theorem any_keys {l : List (β × Rat)} {k : β} : (l.any fun e => decide (e.1 = k)) = true ↔ k ∈ keysG l := by
  rw [List.any_eq_true]
  exact ⟨fun ⟨e, m, h⟩ => List.mem_map.mpr ⟨e, m, of_decide_eq_true h⟩, fun h => by
    obtain ⟨e, m, rfl⟩ := List.mem_map.mp h
    exact ⟨e, m, decide_eq_true rfl⟩⟩
theorem keys_put (l : List (β × Rat)) (k : β) (x : Rat) : keysG (putG l k x) = if k ∈ keysG l then keysG l else keysG l ++ [k] := by
  unfold putG
  by_cases h : k ∈ keysG l
  · rw [if_pos (any_keys.mpr h), if_pos h]
    unfold keysG
    rw [List.map_map]
    refine List.map_congr_left fun e _ => ?_
    show (if e.1 = k then (e.1, x) else e).1 = e.1
    split <;> rfl
  · rw [if_neg (fun z => h (any_keys.mp z)), if_neg h]
    unfold keysG
    rw [List.map_append]
    rfl
theorem nodup_put {l : List (β × Rat)} (h : (keysG l).Nodup) (k : β) (x : Rat) : (keysG (putG l k x)).Nodup := by
  rw [keys_put]
  split
  · exact h
  · rename_i n
    exact List.nodup_append.mpr ⟨h, by simp, fun a ha b hb z => n (by rw [← List.mem_singleton.mp hb, ← z]; exact ha)⟩
theorem length_put (l : List (β × Rat)) (k : β) (x : Rat) : (putG l k x).length ≤ l.length + 1 := by
  unfold putG
  split
  · rw [List.length_map]
    omega
  · rw [List.length_append]
    exact Nat.le_refl _
theorem put_all {P : Rat → Prop} {l : List (β × Rat)} (h : ∀ e ∈ l, P e.2) {k : β} {x : Rat} (hx : P x) : ∀ e ∈ putG l k x, P e.2 := fun e m => by
  unfold putG at m
  split at m
  · obtain ⟨e', m', rfl⟩ := List.mem_map.mp m
    split
    · exact hx
    · exact h _ m'
  · rcases List.mem_append.mp m with m | m
    · exact h _ m
    · rw [List.mem_singleton.mp m]
      exact hx
theorem get_all {P : Rat → Prop} (h0 : P 0) : ∀ {l : List (β × Rat)}, (∀ e ∈ l, P e.2) → ∀ k : β, P (getG l k)
  | [], _, k => h0
  | e :: l, h, k => by
    rw [getG_cons]
    split
    · exact h _ List.mem_cons_self
    · exact get_all h0 (fun e' m => h e' (List.mem_cons_of_mem _ m)) k
theorem dotG_app (F : β → Rat) : ∀ l r : List (β × Rat), dotG F (l ++ r) = dotG F l + dotG F r
  | [], r => (Rat.zero_add _).symm
  | e :: l, r => by
    rw [List.cons_append, dotG, dotG, dotG_app F l r]
    grind
theorem dotG_put (F : β → Rat) (k : β) (x : Rat) : ∀ {l : List (β × Rat)}, (keysG l).Nodup → dotG F (putG l k x) = dotG F l + (x - getG l k) * F k
  | [], _ => by
    show x * F k + 0 = 0 + (x - 0) * F k
    grind
  | e :: l, h => by
    obtain ⟨h1, h2⟩ := List.nodup_cons.mp (show (e.1 :: keysG l).Nodup from h)
    have ih := dotG_put F k x h2
    rw [getG_cons]
    unfold putG at ih ⊢
    rw [List.any_cons]
    by_cases q : e.1 = k
    · subst q
      have ng : (l.map fun e' => if e'.1 = e.1 then (e'.1, x) else e') = l := by
        refine (List.map_congr_left fun e' m => ?_).trans (List.map_id l)
        rw [if_neg fun z => h1 (List.mem_map.mpr ⟨e', m, z⟩)]
        rfl
      rw [decide_eq_true rfl, Bool.true_or, if_pos rfl, if_pos rfl, List.map_cons, if_pos rfl, ng, dotG, dotG]
      grind
    · rw [decide_eq_false q, Bool.false_or, if_neg q]
      by_cases z : (l.any fun e => decide (e.1 = k)) = true
      · rw [if_pos z] at ih ⊢
        rw [List.map_cons, if_neg q, dotG, ih, dotG]
        grind
      · rw [if_neg z] at ih ⊢
        rw [List.cons_append, dotG, ih, dotG]
        grind
theorem dotG_add (F : β → Rat) {l : List (β × Rat)} (h : (keysG l).Nodup) (k : β) (y : Rat) : dotG F (addG l k y) = dotG F l + y * F k := by
  unfold addG
  rw [dotG_put F k _ h]
  grind
theorem dotG_at (k : β) : ∀ {l : List (β × Rat)}, (keysG l).Nodup → dotG (fun j => if j = k then 1 else 0) l = getG l k
  | [], _ => rfl
  | e :: l, h => by
    obtain ⟨h1, h2⟩ := List.nodup_cons.mp (show (e.1 :: keysG l).Nodup from h)
    rw [dotG, getG_cons, dotG_at k h2]
    by_cases q : e.1 = k
    · rw [if_pos q, if_pos q, getG_none (by rw [← q]; exact h1)]
      grind
    · rw [if_neg q, if_neg q]
      grind
theorem dotG_congr {F G : β → Rat} : ∀ {l : List (β × Rat)}, (∀ e ∈ l, F e.1 = G e.1) → dotG F l = dotG G l
  | [], _ => rfl
  | e :: l, h => by
    rw [dotG, dotG, h e List.mem_cons_self, dotG_congr fun e' m => h e' (List.mem_cons_of_mem _ m)]
/-- all of a list of pairs added -/
def addAll (l : List (β × Rat)) (es : List (β × Rat)) : List (β × Rat) := es.foldl (fun l e => addG l e.1 e.2) l
theorem addAll_snoc (l es : List (β × Rat)) (e : β × Rat) : addAll l (es ++ [e]) = addG (addAll l es) e.1 e.2 := by
  unfold addAll
  rw [List.foldl_append]
  rfl
theorem addAll_nodup {l : List (β × Rat)} (h : (keysG l).Nodup) : ∀ es : List (β × Rat), (keysG (addAll l es)).Nodup := fun es => by
  induction es generalizing l with
  | nil => exact h
  | cons e es ih => exact ih (nodup_put h _ _)
theorem addAll_length : ∀ (es l : List (β × Rat)), (addAll l es).length ≤ l.length + es.length
  | [], l => Nat.le_refl _
  | e :: es, l => by
    have h1 := addAll_length es (addG l e.1 e.2)
    have h2 := length_put l e.1 (getG l e.1 + e.2)
    have h2 : (addG l e.1 e.2).length ≤ l.length + 1 := h2
    rw [List.length_cons]
    show (addAll (addG l e.1 e.2) es).length ≤ _
    omega
theorem addAll_dot (F : β → Rat) : ∀ (es : List (β × Rat)) {l : List (β × Rat)}, (keysG l).Nodup → dotG F (addAll l es) = dotG F l + dotG F es
  | [], l, _ => (Rat.add_zero _).symm
  | e :: es, l, h => by
    show dotG F (addAll (addG l e.1 e.2) es) = _
    rw [addAll_dot F es (l := addG l e.1 e.2) (nodup_put h _ _), dotG_add F h, dotG]
    grind
theorem addAll_iz {D X Y : Nat} : ∀ (es : List (β × Rat)) {l : List (β × Rat)} {c : Nat}, (∀ e ∈ l, Iz D (c * Y) e.2) → (∀ e ∈ es, Iz D Y e.2) → ∀ e ∈ addAll l es, Iz D ((c + es.length) * Y) e.2
  | [], l, c, h, _ => h
  | e :: es, l, c, h, hy => by
    have h1 : ∀ e' ∈ addG l e.1 e.2, Iz D ((c + 1) * Y) e'.2 := by
      refine put_all (fun e' m => (h e' m).le (Nat.mul_le_mul_right _ (Nat.le_succ _))) ?_
      rw [Nat.succ_mul]
      exact (get_all (P := Iz D (c * Y)) (Iz.zero.le (Nat.zero_le _)) h e.1).add (hy e List.mem_cons_self)
    have h2 := addAll_iz (X := X) es h1 fun e' m => hy e' (List.mem_cons_of_mem _ m)
    have e3 : c + (e :: es).length = c + 1 + es.length := by rw [List.length_cons]; omega
    rw [e3]
    exact h2
end
/-! ### such dicts in the heap -/
structure KRep (K : PySem.W.Frag) (β κ : Type) [DecidableEq β] [DecidableEq κ] : Type where
  enc : β → κ
  inj : ∀ a b, enc a = enc b → a = b
  DO : List (κ × V) → HO
  nt : ∀ kvs ps, DO kvs ≠ .tbl ps
  Rp : Hp → V → β → Prop
  isD : ∀ {H : Hp} {d : Addr} {kvs : List (κ × V)}, H d = some (DO kvs) → IsD H d
  get : ∀ {H : Hp} {d : Addr} {kvs : List (κ × V)} {u : V} {k : β}, H d = some (DO kvs) → Rp H u k → DGet H d u (valV kvs (enc k))
  put : ∀ {H : Hp} {d : Addr} {kvs : List (κ × V)} {u v : V} {k : β}, H d = some (DO kvs) → Rp H u k → kvs.length < sizeLine → DPut H d u v (upd H d (DO (putK kvs (enc k) v)))
  up : ∀ {H H' : Hp} {u : V} {k : β}, Ext H H' → Rp H u k → Rp H' u k
  upd : ∀ {H : Hp} {d : Addr} {kvs : List (κ × V)} {o : HO} {u : V} {k : β}, H d = some (DO kvs) → Rp H u k → Rp (upd H d o) u k
  sq : ∀ {H : Hp} {d : Addr} {kvs : List (κ × V)} {o : HO} {a : Addr} {xs : List V}, H d = some (DO kvs) → SqT K H a xs → SqT K (L2.upd H d o) a xs
  sl : ∀ {H : Hp} {d : Addr} {kvs : List (κ × V)} {o : HO} {a : Addr} {xs : List V}, H d = some (DO kvs) → SqL K H a xs → SqL K (L2.upd H d o) a xs
section
variable {β κ : Type} [DecidableEq β] [DecidableEq κ]
def KvsG (R : KRep K β κ) (H : Hp) (kvs : List (κ × V)) (l : List (β × Rat)) : Prop := Paired (fun (kv : κ × V) (e : β × Rat) => kv.1 = R.enc e.1 ∧ FrV K H kv.2 e.2) kvs l
theorem kvsg_up {R : KRep K β κ} {H H' : Hp} (s : Ext H H') {kvs : List (κ × V)} {l : List (β × Rat)} (h : KvsG R H kvs l) : KvsG R H' kvs l := paired_imp (fun _ _ ⟨a, b, e, g⟩ => ⟨a, b, e, s.tup g⟩) h
theorem kvsg_upd {R : KRep K β κ} {H : Hp} {d : Addr} {kvs0 : List (κ × V)} {o : HO} (hd : H d = some (R.DO kvs0)) {kvs : List (κ × V)} {l : List (β × Rat)} (h : KvsG R H kvs l) : KvsG R (upd H d o) kvs l := paired_imp (fun _ _ ⟨a, b, e, g⟩ => ⟨a, b, e, R.sq hd g⟩) h
theorem kvsg_get {R : KRep K β κ} {H : Hp} {zv : V} (hz : FrV K H zv 0) (k : β) : ∀ {kvs : List (κ × V)} {l : List (β × Rat)}, KvsG R H kvs l → FrV K H ((valV kvs (R.enc k)).getD zv) (getG l k)
  | _, _, .nil => hz
  | kv :: _, e :: _, .cons ⟨h1, h3⟩ t => by
    rw [getG_cons]
    by_cases z : e.1 = k
    · rw [if_pos z, valV_pos (by rw [h1, z])]
      exact h3
    · rw [if_neg z, valV_neg (fun q => z (R.inj _ _ (h1.symm.trans q)))]
      exact kvsg_get hz k t
theorem kvsg_any {R : KRep K β κ} {H : Hp} (k : β) : ∀ {kvs : List (κ × V)} {l : List (β × Rat)}, KvsG R H kvs l → (kvs.any fun kv => decide (kv.1 = R.enc k)) = l.any fun e => decide (e.1 = k)
  | _, _, .nil => rfl
  | kv :: _, e :: _, .cons ⟨h1, h3⟩ t => by
    rw [List.any_cons, List.any_cons, kvsg_any k t]
    congr 1
    refine decide_eq_decide.mpr ?_
    rw [h1]
    exact ⟨fun z => R.inj _ _ z, fun z => by rw [z]⟩
theorem kvsg_map {R : KRep K β κ} {H : Hp} (k : β) {v : V} {x : Rat} (hv : FrV K H v x) : ∀ {kvs : List (κ × V)} {l : List (β × Rat)}, KvsG R H kvs l → KvsG R H (kvs.map fun kv => if kv.1 = R.enc k then (kv.1, v) else kv) (l.map fun e => if e.1 = k then (e.1, x) else e)
  | _, _, .nil => .nil
  | kv :: _, e :: _, .cons ⟨h1, h3⟩ t => by
    refine .cons ?_ (kvsg_map k hv t)
    dsimp only
    by_cases z : e.1 = k
    · rw [if_pos z, if_pos (by rw [h1, z])]
      exact ⟨h1, hv⟩
    · rw [if_neg z, if_neg (fun q => z (R.inj _ _ (h1.symm.trans q)))]
      exact ⟨h1, h3⟩
theorem kvsg_put {R : KRep K β κ} {H : Hp} (k : β) {v : V} {x : Rat} (hv : FrV K H v x) {kvs : List (κ × V)} {l : List (β × Rat)} (h : KvsG R H kvs l) : KvsG R H (putK kvs (R.enc k) v) (putG l k x) := by
  unfold putK putG
  rw [kvsg_any k h]
  by_cases z : (l.any fun e => decide (e.1 = k)) = true
  · rw [if_pos z, if_pos z]
    exact kvsg_map k hv h
  · rw [if_neg z, if_neg z]
    exact paired_snoc h ⟨rfl, hv⟩
end
/-- ints for keys -/
def intR (K : PySem.W.Frag) : KRep K Nat Key where
  enc k := Sum.inl ((k : Nat) : Int)
  inj a b h := Int.ofNat.inj (Sum.inl.inj h)
  DO kvs := .dK kvs
  nt _ _ h := nomatch h
  Rp _ u k := u = .int ((k : Nat) : Int)
  isD h := .inl ⟨_, .inl h⟩
  get hd e := by
    subst e
    exact DGet.k (k := Sum.inl _) hd
  put hd e hl := by
    subst e
    exact DPut.k (k := Sum.inl _) hd hl
  up _ h := h
  upd _ h := h
  sq hd h := by
    rcases h with (h | ⟨o', h⟩) | h
    · exact .inl (.inl (by rw [upd_ne (ne_of h hd (by intro z; cases z))]; exact h))
    · exact .inl (.inr ⟨o', by rw [upd_ne (ne_of h hd (by intro z; cases z))]; exact h⟩)
    · exact .inr h
  sl hd h := by
    rcases h with (h | ⟨o', h⟩) | h
    · exact .inl (.inl (by rw [upd_ne (ne_of h hd (by intro z; cases z))]; exact h))
    · exact .inl (.inr ⟨o', by rw [upd_ne (ne_of h hd (by intro z; cases z))]; exact h⟩)
    · exact .inr h
def encT (m : List Nat) : List Key := m.map fun k => Sum.inl ((k : Nat) : Int)
theorem encT_inj : ∀ {a b : List Nat}, encT a = encT b → a = b
  | [], [], _ => rfl
  | [], _ :: _, h => nomatch h
  | _ :: _, [], h => nomatch h
  | x :: a, y :: b, h => by
    obtain ⟨h1, h2⟩ := List.cons.inj (show Sum.inl ((x : Nat) : Int) :: encT a = (Sum.inl ((y : Nat) : Int) : Key) :: encT b from h)
    rw [encT_inj h2, Int.ofNat.inj (Sum.inl.inj h1)]
def natV (m : List Nat) : List V := m.map fun k => V.int ((k : Nat) : Int)
theorem encT_kV (m : List Nat) : (encT m).map kV = natV m := by
  unfold encT natV
  rw [List.map_map]
  rfl
/-- tuples of ints for keys -/
def tupR (K : PySem.W.Frag) : KRep K (List Nat) (List Key) where
  enc := encT
  inj a b h := encT_inj h
  DO kvs := .dT kvs
  nt _ _ h := nomatch h
  Rp H u k := ∃ b, u = .ref b ∧ H b = some (.tup (natV k))
  isD h := .inr ⟨_, .inl h⟩
  get hd e := by
    obtain ⟨b, rfl, hb⟩ := e
    exact DGet.t hd (by rw [encT_kV]; exact hb)
  put hd e hl := by
    obtain ⟨b, rfl, hb⟩ := e
    exact DPut.t hd (by rw [encT_kV]; exact hb) hl
  up s h := by
    obtain ⟨b, e, hb⟩ := h
    exact ⟨b, e, s.at hb⟩
  upd hd h := by
    obtain ⟨b, e, hb⟩ := h
    exact ⟨b, e, by rw [upd_ne (fun z => by rw [z, hd] at hb; cases hb)]; exact hb⟩
  sq hd h := by
    rcases h with (h | ⟨o', h⟩) | h
    · exact .inl (.inl (by rw [upd_ne (ne_of h hd (by intro z; cases z))]; exact h))
    · exact .inl (.inr ⟨o', by rw [upd_ne (ne_of h hd (by intro z; cases z))]; exact h⟩)
    · exact .inr h
  sl hd h := by
    rcases h with (h | ⟨o', h⟩) | h
    · exact .inl (.inl (by rw [upd_ne (ne_of h hd (by intro z; cases z))]; exact h))
    · exact .inl (.inr ⟨o', by rw [upd_ne (ne_of h hd (by intro z; cases z))]; exact h⟩)
    · exact .inr h
theorem dfr_of {H : Hp} {d : Addr} {kvs : List (Key × V)} {l : List (Nat × Rat)} (hd : H d = some (.dK kvs)) (h : KvsG (intR K) H kvs l) (nd : (keysG l).Nodup) : DFr K H d (keysG l) (getG l) := by
  refine ⟨nd, kvs, hd, ?_⟩
  have gen : ∀ {kvs : List (Key × V)} {l0 : List (Nat × Rat)}, KvsG (intR K) H kvs l0 → (∀ e ∈ l0, getG l e.1 = e.2) → Paired (fun (kv : Key × V) k => kv.1 = Sum.inl ((k : Nat) : Int) ∧ FrV K H kv.2 (getG l k)) kvs (keysG l0) := fun {kvs l0} h => by
    induction h with
    | nil => exact fun _ => .nil
    | cons g _ ih =>
      intro hl
      refine .cons ⟨g.1, ?_⟩ (ih fun e m => hl e (List.mem_cons_of_mem _ m))
      rw [hl _ List.mem_cons_self]
      exact g.2
  refine gen h fun e m => ?_
  have key : ∀ {l : List (Nat × Rat)}, (keysG l).Nodup → ∀ e ∈ l, getG l e.1 = e.2 := fun {l} => by
    induction l with
    | nil => exact fun _ e m => absurd m List.not_mem_nil
    | cons x l ih =>
      intro nd e m
      obtain ⟨n1, n2⟩ := List.nodup_cons.mp (show (x.1 :: keysG l).Nodup from nd)
      rw [getG_cons]
      rcases List.mem_cons.mp m with rfl | m
      · rw [if_pos rfl]
      · rw [if_neg fun z => n1 (List.mem_map.mpr ⟨e, m, z.symm⟩)]
        exact ih n2 e m
  exact key nd e m
/-! ### columns of lists of pairs, and the rows made of them -/
theorem dot_col (k : Nat) : ∀ es : List (Nat × Rat), dotG (fun j => if j = k then 1 else 0) es = colR es k
  | [] => rfl
  | e :: es => by
    have e1 : colR (e :: es) k = colR [e] k + colR es k := colR_app [e] es k
    have e3 : colR [e] k = if e.1 = k then e.2 else 0 := colR_one e.1 e.2 k
    rw [e1, e3, ← dot_col k es]
    show e.2 * (if e.1 = k then 1 else 0) + _ = _
    by_cases z : e.1 = k
    · rw [if_pos z, if_pos z, Rat.mul_one]
    · rw [if_neg z, if_neg z, Rat.mul_zero]
theorem getG_all (es : List (Nat × Rat)) (k : Nat) : getG (addAll [] es) k = colR es k := by
  have h0 : (keysG ([] : List (Nat × Rat))).Nodup := List.nodup_nil
  rw [← dotG_at k (addAll_nodup h0 es), addAll_dot _ es h0]
  show (0 : Rat) + _ = _
  rw [Rat.zero_add, dot_col]
theorem keys_all : ∀ (es l : List (Nat × Rat)) (k : Nat), k ∈ keysG (addAll l es) → k ∈ keysG l ∨ ∃ e ∈ es, e.1 = k
  | [], _, _, h => .inl h
  | e :: es, l, k, h => by
    rcases keys_all es (addG l e.1 e.2) k h with w | ⟨f, m, w⟩
    · unfold addG at w
      rw [keys_put] at w
      split at w
      · exact .inl w
      · rcases List.mem_append.mp w with w | w
        · exact .inl w
        · exact .inr ⟨e, List.mem_cons_self, (List.mem_singleton.mp w).symm⟩
    · exact .inr ⟨f, List.mem_cons_of_mem _ m, w⟩
theorem sumR_add (f g : Nat → Rat) : ∀ l : List Nat, sumR (l.map fun k => f k + g k) = sumR (l.map f) + sumR (l.map g)
  | [] => by rw [List.map_nil, List.map_nil, List.map_nil, sumR, Rat.zero_add]
  | k :: l => by
    rw [List.map_cons, List.map_cons, List.map_cons, sumR, sumR, sumR, sumR_add f g l]
    grind
theorem sumR_zero {l : List Rat} (h : ∀ r ∈ l, r = 0) : sumR l = 0 := by
  induction l with
  | nil => rfl
  | cons r l ih => rw [sumR, h r List.mem_cons_self, ih fun s m => h s (List.mem_cons_of_mem _ m), Rat.zero_add]
theorem sum_delta (j : Nat) (v : Rat) : ∀ n : Nat, sumR ((List.range n).map fun k => if j = k then v else 0) = if j < n then v else 0
  | 0 => rfl
  | n + 1 => by
    rw [List.range_succ, List.map_append, sumR_app, sum_delta j v n]
    show _ + ((if j = n then v else 0) + 0) = _
    rw [Rat.add_zero]
    by_cases h1 : j < n
    · rw [if_pos h1, if_neg (by omega), if_pos (by omega), Rat.add_zero]
    · rw [if_neg h1, Rat.zero_add]
      by_cases h2 : j = n
      · rw [if_pos h2, if_pos (by omega)]
      · rw [if_neg h2, if_neg (by omega)]
theorem sum_cols (n : Nat) : ∀ es : List (Nat × Rat), (∀ e ∈ es, e.1 < n) → sumR ((List.range n).map (colR es)) = sumR (es.map fun e => e.2)
  | [], _ => sumR_zero fun r m => by
    obtain ⟨k, _, rfl⟩ := List.mem_map.mp m
    rfl
  | e :: es, h => by
    have e1 : (List.range n).map (colR (e :: es)) = (List.range n).map fun k => (if e.1 = k then e.2 else 0) + colR es k := List.map_congr_left fun k _ => by
      have e1 : colR (e :: es) k = colR [e] k + colR es k := colR_app [e] es k
      rw [e1]
      exact congrArg (· + _) (colR_one e.1 e.2 k)
    rw [e1, sumR_add, sum_delta, if_pos (h e List.mem_cons_self), sum_cols n es fun f m => h f (List.mem_cons_of_mem _ m)]
    rfl
theorem sum_row (n : Nat) (f : Nat → Rat) : sumR ((rowR n f).map fun e => e.2) = sumR ((List.range n).map f) := by
  unfold rowR
  rw [List.map_map]
  have gen : ∀ l : List Nat, sumR ((l.filter fun k => decide (f k ≠ 0)).map ((fun e : Nat × Rat => e.2) ∘ fun k => (k, f k))) = sumR (l.map f) := fun l => by
    induction l with
    | nil => rfl
    | cons k l ih =>
      rw [List.map_cons, sumR, ← ih]
      by_cases z : f k = 0
      · rw [List.filter_cons_of_neg (by simpa using z), z, Rat.zero_add]
      · rw [List.filter_cons_of_pos (by simpa using z), List.map_cons, sumR]
        rfl
  exact gen _
theorem row_nodup (n : Nat) (f : Nat → Rat) : ((rowR n f).map fun e => e.1).Nodup := by
  unfold rowR
  rw [List.map_map]
  have : ((fun e : Nat × Rat => e.1) ∘ fun k => (k, f k)) = id := rfl
  rw [this, List.map_id]
  exact List.nodup_range.sublist List.filter_sublist
theorem row_mem {n : Nat} {f : Nat → Rat} {e : Nat × Rat} (h : e ∈ rowR n f) : e.1 < n ∧ e.2 = f e.1 ∧ f e.1 ≠ 0 := by
  unfold rowR at h
  obtain ⟨k, m, rfl⟩ := List.mem_map.mp h
  obtain ⟨a, b⟩ := List.mem_filter.mp m
  exact ⟨List.mem_range.mp a, rfl, of_decide_eq_true b⟩
theorem row_len (n : Nat) (f : Nat → Rat) : (rowR n f).length ≤ n := by
  unfold rowR
  rw [List.length_map]
  exact Nat.le_trans (List.length_filter_le _ _) (by rw [List.length_range]; exact Nat.le_refl _)
/-- a table of the law: rows of thirds, the identity or a swap -/
structure TabL (n : Nat) (tab : List (List (Nat × Rat))) : Prop where
  len : tab.length = n
  ok : TabOk 3 n tab
  nd : ∀ rw ∈ tab, (rw.map fun f => f.1).Nodup
  one : ∀ rw ∈ tab, sumR (rw.map fun f => f.2) = 1
def third (l : List Nat) : List (Nat × Rat) := l.map fun k => (k, 1 / 3)
theorem third_col (a b c k : Nat) : colR (third [a, b, c]) k = 0 ∨ ((colR (third [a, b, c]) k).den ∣ 3 ∧ 0 < colR (third [a, b, c]) k ∧ colR (third [a, b, c]) k ≤ 1) := by
  have e : colR (third [a, b, c]) k = (if a = k then 1 / 3 else 0) + ((if b = k then 1 / 3 else 0) + (if c = k then 1 / 3 else 0)) := by
    have e1 : colR (third [a, b, c]) k = colR [(a, 1 / 3)] k + colR [(b, 1 / 3), (c, 1 / 3)] k := colR_app [(a, 1 / 3)] [(b, 1 / 3), (c, 1 / 3)] k
    have e2 : colR [(b, 1 / 3), (c, 1 / 3)] k = colR [(b, (1 / 3 : Rat))] k + colR [(c, 1 / 3)] k := colR_app [(b, 1 / 3)] [(c, 1 / 3)] k
    rw [e1, e2, colR_one, colR_one, colR_one]
  rw [e]
  by_cases ha : a = k <;> by_cases hb : b = k <;> by_cases hc : c = k <;> simp only [ha, hb, hc, if_true, if_false] <;> decide +kernel
theorem third_row {a b c n : Nat} (ha : a < n) (hb : b < n) (hc : c < n) (hn : n ≤ 300) : (rowR n (colR (third [a, b, c]))).length ≤ 300 ∧ (∀ f ∈ rowR n (colR (third [a, b, c])), f.2.den ∣ 3 ∧ 0 < f.2 ∧ f.2 ≤ 1 ∧ f.1 < n) ∧ ((rowR n (colR (third [a, b, c]))).map fun f => f.1).Nodup ∧ sumR ((rowR n (colR (third [a, b, c]))).map fun f => f.2) = 1 := by
  refine ⟨Nat.le_trans (row_len _ _) hn, fun f m => ?_, row_nodup _ _, ?_⟩
  · obtain ⟨h1, h2, h3⟩ := row_mem m
    rw [h2]
    obtain ⟨q1, q2, q3⟩ := (third_col a b c f.1).resolve_left h3
    exact ⟨q1, q2, q3, h1⟩
  · rw [sum_row, sum_cols]
    · show (1 / 3 + (1 / 3 + (1 / 3 + 0)) : Rat) = 1
      decide +kernel
    · intro e m
      simp only [third, List.map_cons, List.map_nil, List.mem_cons, List.not_mem_nil, or_false] at m
      rcases m with rfl | rfl | rfl <;> assumption
theorem tabL_map {n : Nat} (g : Nat → List (Nat × Rat)) (h : ∀ k < n, (g k).length ≤ 300 ∧ (∀ f ∈ g k, f.2.den ∣ 3 ∧ 0 < f.2 ∧ f.2 ≤ 1 ∧ f.1 < n) ∧ ((g k).map fun f => f.1).Nodup ∧ sumR ((g k).map fun f => f.2) = 1) : TabL n ((List.range n).map g) := by
  have hm : ∀ rw ∈ (List.range n).map g, ∃ k < n, rw = g k := fun rw m => by
    obtain ⟨k, mk, rfl⟩ := List.mem_map.mp m
    exact ⟨k, List.mem_range.mp mk, rfl⟩
  refine ⟨by rw [List.length_map, List.length_range], fun rw m => ?_, fun rw m => ?_, fun rw m => ?_⟩ <;> obtain ⟨k, hk, rfl⟩ := hm rw m <;> obtain ⟨h1, h2, h3, h4⟩ := h k hk
  · exact ⟨h1, h2⟩
  · exact h3
  · exact h4
theorem one_row {k n : Nat} (h : k < n) : ([(k, (1 : Rat))] : List (Nat × Rat)).length ≤ 300 ∧ (∀ f ∈ [(k, (1 : Rat))], f.2.den ∣ 3 ∧ 0 < f.2 ∧ f.2 ≤ 1 ∧ f.1 < n) ∧ (([(k, (1 : Rat))] : List (Nat × Rat)).map fun f => f.1).Nodup ∧ sumR (([(k, (1 : Rat))] : List (Nat × Rat)).map fun f => f.2) = 1 := by
  refine ⟨by simp, fun f m => ?_, by simp, show (1 + 0 : Rat) = 1 by decide +kernel⟩
  rw [List.mem_singleton.mp m]
  exact ⟨show (1 : Rat).den ∣ 3 by decide +kernel, show (0 : Rat) < 1 by decide +kernel, show (1 : Rat) ≤ 1 by decide +kernel, h⟩
/-! ### some tables of the law -/
theorem eval_via {te : TE} {σ : L2.St} {H : Hp} {Q : VK} (P : V → Hp → Prop) (h1 : ∀ Q' : VK, (∀ v H', P v H' → Q' v H') → te σ H Q') (h2 : ∀ v H', P v H' → Q v H') : te σ H Q := h1 Q h2
def ixL (rs : List Int) (n k j : Nat) : Nat := if 0 < (rs.getD (3 * k + j) 0).fdiv 16 then (rs.getD (3 * k + j) 0 % ((n : Nat) : Int)).toNat else k
def ixs (rs : List Int) (n k : Nat) : List Nat := [ixL rs n k 0, ixL rs n k 1, ixL rs n k 2]
theorem ixL_lt {rs : List Int} {n k j : Nat} (hk : k < n) : ixL rs n k j < n := by
  unfold ixL
  split
  · have h1 := Int.emod_nonneg (rs.getD (3 * k + j) 0) (show ((n : Nat) : Int) ≠ 0 by omega)
    have h2 := Int.emod_lt_of_pos (rs.getD (3 * k + j) 0) (show (0 : Int) < ((n : Nat) : Int) by omega)
    omega
  · exact hk
theorem ixs_get {rs : List Int} {n k j : Nat} (hj : j < 3) : (ixs rs n k)[j]? = some (ixL rs n k j) := by
  match j, hj with
  | 0, _ => rfl
  | 1, _ => rfl
  | 2, _ => rfl
theorem fq_third : fq (1 / 3 : Rat) = (1, 3) := by decide +kernel
theorem third_sm {l : List Nat} (hl : l.length ≤ 3) : ∀ e ∈ addAll [] (third l), Sm e.2 := fun e m => by
  have h := addAll_iz (D := 3) (X := 0) (Y := 3) (third l) (l := []) (c := 0) (fun e m => absurd m List.not_mem_nil) (fun e m => by
    obtain ⟨k, _, rfl⟩ := List.mem_map.mp m
    exact iz_part (r := 1 / 3) (by decide +kernel) (by decide +kernel) (by decide +kernel)) e m
  refine sm_izs h (by decide) (Nat.lt_of_lt_of_le (show 3 < 2 ^ 2 by decide) (Nat.pow_le_pow_right (by decide) (by decide))) (Nat.lt_of_le_of_lt (show _ ≤ 9 from ?_) (Nat.lt_of_lt_of_le (show 9 < 2 ^ 4 by decide) (Nat.pow_le_pow_right (by decide) (by decide))))
  rw [Nat.zero_add, show (third l).length = l.length from List.length_map _]
  omega
def spLTab (T : Top K mg) : Sp := fun vs H Q _ => ∃ (c : Int) (n : Nat), vs = [.int c, .int ((n : Nat) : Int)] ∧ 0 ≤ c ∧ n ≤ 16 ∧ (∃ m, n = 2 ^ m) ∧ Tg T H ∧
  ∀ t H' xs tab, Ext H H' → SqT K H' t xs → Paired (RowV K H') xs tab → TabL n tab → Q (.ref t) H'
theorem ok_law_some_table (T : Top K mg) : FnOk P w K mg base CX0 4 T.f_law_some_table T.d_law_some_table ["cell", "count"] (spLTab T) := by
  refine T.F_law_some_table.ok sc_law_some_table (fun vs H Q E h => ?_) (fun cdv A outer s H vs Q E hr h => ?_)
  · obtain ⟨c, n, rfl, _⟩ := h
    rfl
  obtain ⟨c, n, rfl, c0, n16, ⟨m, em⟩, G, q⟩ := h
  have n0 : 0 < n := em ▸ Nat.two_pow_pos m
  refine ⟨_, (pss_cons (ps_set (i := 2) sc_law_some_table.nd rfl (by first | exact .inl rfl | exact .inr rfl) (pe_lst pa_nil))
      (pss_cons (ps_set (i := 3) sc_law_some_table.nd rfl (by first | exact .inl rfl | exact .inr rfl) (pe_call (ok_law_row T) (hr.mono (by decide)) (by rfl) T.g_law_row T.F_law_row.kp T.b_law_row .nil pass0 (pa_cons (pv 0) (pa_cons (pe_op op_mul pe_int (pv 1)) (pa_cons pe_int pa_nil)))))
      (pss_cons (ps_for PassesOwn.never rfl (pi_range1 (by rfl) T.m_range (pa_cons (pv 1) pa_nil)) (pg_name (i := 4) sc_law_some_table.nd rfl (by first | exact .inl rfl | exact .inr rfl)) (pss_cons (ps_set (i := 5) sc_law_some_table.nd rfl (by first | exact .inl rfl | exact .inr rfl) pe_dnewK)
      (pss_cons (ps_for PassesOwn.never rfl (pi_range1 (by rfl) T.m_range (pa_cons pe_int pa_nil)) (pg_name (i := 6) sc_law_some_table.nd rfl (by first | exact .inl rfl | exact .inr rfl)) (pss_cons (ps_set (i := 7) sc_law_some_table.nd rfl (by first | exact .inl rfl | exact .inr rfl) (pe_ix ix_list (pv 3) (pe_op op_add (pe_op op_mul pe_int (pv 4)) (pv 6)) (fun _ _ => rfl)))
      (pss_cons (ps_set (i := 8) sc_law_some_table.nd rfl (by first | exact .inl rfl | exact .inr rfl) (pe_ifExp (pt_cmpR op_gt (pe_op op_fdivZ (pv 7) pe_int) pe_int (nomark _)) (pe_op op_mod (pv 7) (pv 1)) (pv 4)))
      (pss_one (ps_dput (hu_of hr) (pv 5) (pv 8) (pe_call (ok_law_add T) (hr.mono (by decide)) (by rfl) T.g_law_add T.F_law_add.kp T.b_law_add .nil pass0 (pa_cons (pe_dget2 (hu_of hr) (pv 5) (pv 8) (pe_tup (pa_cons pe_int (pa_cons pe_int pa_nil))) ⟨rfl, rfl, rfl, rfl⟩) (pa_cons (pe_tup (pa_cons pe_int (pa_cons pe_int pa_nil))) pa_nil))) rfl)))))
      (pss_one (ps_expr (pe_bm PySem.F.plainAttrs_list PySem.F.slot_list_append PySem.F.type_list_append mt_append (pv 2) (pa_cons (pe_call (ok_law_row_of T) (hr.mono (by decide)) (by rfl) T.g_law_row_of T.F_law_row_of.kp T.b_law_row_of .nil pass0 (pa_cons (pv 5) pa_nil)) pa_nil)))))))
      (C8.pss_cut (ps_if (pt_cmpR op_eq (pe_op op_mod (pv 0) pe_int) pe_int (nomark _)) (pss_one (ps_setLc (i := 2) (own := [("k", 4)]) (g := gName 4) (tt := tYes) rfl sc_law_some_table.nd rfl rfl (sw_true rfl rfl rfl (by decide +kernel)) (pi_range1 (by rfl) T.m_range (pa_cons (pv 1) pa_nil)) (blkOk_by (own := [("k", 4)]) (N := n_law_some_table) (sc := defScope s_law_some_table) (by decide +kernel)) (fun _ _ _ _ _ => (pg_name (i := 4) sc_law_some_table.nd rfl (by first | exact .inl rfl | exact .inr rfl))) (fun _ _ _ _ _ => pts_nil) (fun _ _ _ _ _ => (pe_tup (pa_cons (pe_tup (pa_cons (pv 4) (pa_cons (pe_tup (pa_cons pe_int (pa_cons pe_int pa_nil))) pa_nil))) pa_nil))))) pss_nil)
      (C8.pss_cut (ps_if (PW.pt (pw_and (pt_cmpR op_eq (pe_op op_mod (pv 0) pe_int) pe_int (nomark _)) (pw_and1 (pt_cmpR op_gt (pv 1) pe_int (nomark _))))) (pss_one (ps_setLc (i := 2) (own := [("k", 4)]) (g := gName 4) (tt := tYes) rfl sc_law_some_table.nd rfl rfl (sw_true rfl rfl rfl (by decide +kernel)) (pi_range1 (by rfl) T.m_range (pa_cons (pv 1) pa_nil)) (blkOk_by (own := [("k", 4)]) (N := n_law_some_table) (sc := defScope s_law_some_table) (by decide +kernel)) (fun _ _ _ _ _ => (pg_name (i := 4) sc_law_some_table.nd rfl (by first | exact .inl rfl | exact .inr rfl))) (fun _ _ _ _ _ => pts_nil) (fun _ _ _ _ _ => (pe_tup (pa_cons (pe_tup (pa_cons (pe_op op_xor (pv 4) pe_int) (pa_cons (pe_tup (pa_cons pe_int (pa_cons pe_int pa_nil))) pa_nil))) pa_nil))))) pss_nil)
      (pss_one (ps_ret (pe_callTy call_tuple_of (by rfl) T.m_tuple (by decide +kernel) (pa_cons (pv 2) pa_nil))))))))), ?_⟩
  refine ⟨by rw [sizeLine_eq]; simp, fun r0 hr0 => ?_⟩
  have x0 := ext_upd (o := .lst []) hr0
  have k0 : upd H r0 (.lst []) r0 = some (.lst []) := upd_same
  dsimp only [gName]
  generalize upd H r0 (.lst []) = H0 at *
  refine ⟨_, rfl, _, rfl, _, _, rfl, rfl, .inl ⟨by decide, by decide⟩, c, 64, 3 * n, by rw [Int.natCast_mul]; rfl, by omega, by decide, by decide, fun dl H1 rs s1 ndl hdl lrs hrs => ?_⟩
  have k1 := s1.lst k0
  have s01 := x0.trans s1
  have ndr : dl ≠ r0 := fun z => by
    rw [z, k0] at ndl
    cases ndl
  dsimp only [gName]
  refine ⟨_, rfl, _, rfl, by omega, by omega, for_range (n := n) (fun k σ HA => (∃ z4 z5 z6 z7 z8, σ = [some (.int c), some (.int ((n : Nat) : Int)), some (.ref r0), some (.ref dl), z4, z5, z6, z7, z8]) ∧ Ext H HA ∧ HA dl = some (.lst (rs.map V.int)) ∧ ∃ ys, HA r0 = some (.lst ys) ∧ Paired (RowV K HA) ys ((List.range k).map fun k => rowR n (colR (third (ixs rs n k))))) ⟨⟨_, _, _, _, _, rfl⟩, s01, hdl, [], k1, .nil⟩ (fun k σ HA hk hP => ?_) (fun σ HA hP => ?_)⟩
  · obtain ⟨⟨z4, z5, z6, z7, z8, rfl⟩, sA, hdA, ys, hys, hrows⟩ := hP
    rw [Int.zero_add]
    dsimp only [gName]
    refine fun dd hdd => ?_
    have y1 := ext_upd (o := .dK []) hdd
    have m1 : upd HA dd (.dK []) dd = some (.dK []) := upd_same
    dsimp only [gName]
    generalize upd HA dd (.dK []) = HB at *
    refine ⟨_, rfl, by omega, by omega, for_range (n := 3) (fun j σ HC => (∃ z6 z7 z8, σ = [some (.int c), some (.int ((n : Nat) : Int)), some (.ref r0), some (.ref dl), some (.int ((k : Nat) : Int)), some (.ref dd), z6, z7, z8]) ∧ Ext HA HC ∧ ∃ kv, HC dd = some (.dK kv) ∧ KvsG (intR K) HC kv (addAll [] (third ((ixs rs n k).take j)))) ⟨⟨_, _, _, rfl⟩, y1, [], m1, .nil⟩ (fun j σ HC hj hP2 => ?_) (fun σ HC hP2 => ?_)⟩
    · obtain ⟨⟨z6, z7, z8, rfl⟩, sC, kv, hdC, hkC⟩ := hP2
      rw [Int.zero_add]
      dsimp only [gName]
      have hjr : 3 * k + j < rs.length := by omega
      have hgd : rs[3 * k + j]? = some (rs.getD (3 * k + j) 0) := by
        rw [List.getD_eq_getElem?_getD, List.getElem?_eq_getElem hjr]
        rfl
      have eI : (3 : Int) * ((k : Nat) : Int) + ((j : Nat) : Int) = ((3 * k + j : Nat) : Int) := by omega
      have hdC2 := sC.lst hdA
      obtain ⟨r0v, r64⟩ := hrs _ (List.mem_of_getElem? hgd)
      refine ⟨_, rfl, _, rfl, _, _, rfl, rfl, .inl ⟨by decide, by decide⟩, _, rfl, _, _, rfl, rfl, dl, rs.map V.int, _, .int (rs.getD (3 * k + j) 0), rfl, rfl, SqL.of hdC2, by rw [eI]; exact atI_nat (by rw [List.getElem?_map, hgd]; rfl), ?_⟩
      dsimp only [gName]
      refine eval_via (te := tIf _ _ _) (fun v H' => H' = HC ∧ v = .int ((ixL rs n k j : Nat) : Int)) (fun Q' hQ => ?_) (fun v H' hv => ?_)
      · refine ⟨_, rfl, _, _, rfl, rfl, ⟨by decide, by decide⟩, _, _, rfl, rfl, _, rfl, iteB (fun z => ?_) (fun z => ?_)⟩
        · have z : (0 : Int) < (rs.getD (3 * k + j) 0).fdiv 16 := of_decide_eq_true z
          refine ⟨_, rfl, _, rfl, _, _, rfl, rfl, (by omega : (0 : Int) < ((n : Nat) : Int)), hQ _ _ ⟨rfl, ?_⟩⟩
          unfold ixL
          rw [if_pos z, Int.toNat_of_nonneg (Int.emod_nonneg _ (by omega))]
        · have z : ¬ (0 : Int) < (rs.getD (3 * k + j) 0).fdiv 16 := of_decide_eq_false z
          refine ⟨_, rfl, hQ _ _ ⟨rfl, ?_⟩⟩
          unfold ixL
          rw [if_neg z]
      obtain ⟨rfl, rfl⟩ := hv
      dsimp only [gName]
      refine ⟨_, rfl, dd, rfl, (intR K).isD hdC, _, rfl, sl2, fun t3 h3 => ⟨_, (intR K).get (k := ixL rs n k j) ((ext_upd h3).keep _ _ hdC (fun _ z => by cases z)) rfl, ?_⟩⟩
      have w3 := ext_upd (o := .tup [.int 0, .int 1]) h3
      obtain ⟨a0, ea0, ha0⟩ := kvsg_get (R := intR K) (zv := .ref t3) ⟨t3, rfl, SqT.of upd_same⟩ (ixL rs n k j) (kvsg_up w3 hkC)
      rw [ea0]
      refine ⟨sl2, fun t4 h4 => ?_⟩
      have w4 := ext_upd (o := .tup [.int 1, .int 3]) h4
      have k4 : SqT K (upd (upd H' t3 (.tup [.int 0, .int 1])) t4 (.tup [.int 1, .int 3])) t4 [.int 1, .int 3] := SqT.of upd_same
      have w34 := w3.trans w4
      have hpre : (ixs rs n k).take j = (ixs rs n k).take j := rfl
      have esn : addAll [] (third ((ixs rs n k).take (j + 1))) = addG (addAll [] (third ((ixs rs n k).take j))) (ixL rs n k j) (1 / 3) := by
        rw [take_snoc (ixs_get hj)]
        unfold third
        rw [List.map_append]
        exact addAll_snoc _ _ _
      have ltk : ((ixs rs n k).take j).length ≤ 3 := Nat.le_trans (List.length_take_le _ _) (by omega)
      have smP := third_sm ltk
      have lenP := addAll_length (third ((ixs rs n k).take j)) []
      have lth : (third ((ixs rs n k).take j)).length ≤ 3 := by
        rw [show (third ((ixs rs n k).take j)).length = ((ixs rs n k).take j).length from List.length_map _]
        exact ltk
      rw [esn]
      generalize addAll [] (third ((ixs rs n k).take j)) = LL at *
      generalize upd (upd H' t3 (.tup [.int 0, .int 1])) t4 (.tup [.int 1, .int 3]) = HD at *
      refine ⟨a0, t4, _, _, rfl, w4.tup ha0, by rw [fq_third]; exact k4, okA_of (get_all (P := Sm) sm_zero smP _) (sm_part (M := 3) (by decide +kernel) (by decide) (Nat.lt_of_lt_of_le (show 3 < 2 ^ 2 by decide) (Nat.pow_le_pow_right (by decide) (by decide))) (by decide +kernel) (by decide +kernel)), fun pn HM sM nM hpn => ?_⟩
      rw [SM.addF_fq] at hpn
      have wM := w34.trans sM.ext
      have hdM := wM.keep _ _ hdC (fun _ z => by cases z)
      have lkv := hkC.length
      simp only [List.length_nil] at lenP
      refine ⟨_, rfl, _, rfl, dd, _, rfl, (intR K).put (k := ixL rs n k j) hdM rfl (sl_lt (by omega)), ⟨_, _, _, rfl⟩, (sC.trans wM).own hdd, _, upd_same, ?_⟩
      exact kvsg_upd (R := intR K) hdM (kvsg_put (R := intR K) _ ⟨pn, rfl, SqT.of hpn⟩ (kvsg_up wM hkC))
    · obtain ⟨⟨z6, z7, z8, rfl⟩, sC, kv, hdC, hkC⟩ := hP2
      have e3 : (ixs rs n k).take 3 = ixs rs n k := rfl
      rw [e3] at hkC
      have nn : (keysG ([] : List (Nat × Rat))).Nodup := List.nodup_nil
      have nd5 : (keysG (addAll [] (third (ixs rs n k)))).Nodup := addAll_nodup nn _
      have lt5 : ∀ i ∈ keysG (addAll [] (third (ixs rs n k))), i < n := fun i hi => by
        rcases keys_all _ _ _ hi with h | ⟨e, me, rfl⟩
        · exact absurd h List.not_mem_nil
        · simp only [third, ixs, List.map_cons, List.map_nil, List.mem_cons, List.not_mem_nil, or_false] at me
          rcases me with rfl | rfl | rfl <;> exact ixL_lt hk
      have hysC := sC.lst hys
      refine ⟨_, rfl, .inl ⟨rfl, _, SqL.of hysC⟩, _, rfl, dd, _, _, n, rfl, dfr_of hdC hkC nd5, ?_, lt5, fun k hk => getG_none hk, G.ext (sA.trans sC), fun rv HQ sQ hrv => ?_⟩
      · have := List.Nodup.length_le_of_subset nd5 (l₂ := List.range n) fun k hk => List.mem_range.mpr (lt5 k hk)
        rw [List.length_range] at this
        omega
      · have sCQ := sC.trans sQ
        have hysQ := sCQ.lst hys
        have lr := hrows.length
        rw [List.length_map, List.length_range] at lr
        refine ⟨r0, ys, rv, rfl, rfl, hysQ, sl_lt (by omega), ⟨_, _, _, _, _, rfl⟩, (sA.trans sCQ).own hr0, by rw [upd_ne ndr]; exact sCQ.lst hdA, ys ++ [rv], upd_same, ?_⟩
        have eg : getG (addAll [] (third (ixs rs n k))) = colR (third (ixs rs n k)) := funext fun i => getG_all _ i
        rw [eg] at hrv
        rw [List.range_succ, List.map_append]
        exact rows_upd hysQ (paired_app (rows_up sCQ hrows) (.cons hrv .nil))
  · obtain ⟨⟨z4, z5, z6, z7, z8, rfl⟩, sA, hdA, ys, hys, hrows⟩ := hP
    refine ⟨fun σ HX => ∃ l xs tab z3 z4 z5 z6 z7 z8, σ = [some (.int c), some (.int ((n : Nat) : Int)), some (.ref l), z3, z4, z5, z6, z7, z8] ∧ Ext H HX ∧ HX l = some (.lst xs) ∧ Paired (RowV K HX) xs tab ∧ TabL n tab, ?_, fun σ HX hM => ?_⟩
    · refine ⟨_, rfl, _, _, rfl, rfl, (by decide : (0 : Int) < 4), rfl, _, rfl, iteB (fun z => ?_) (fun z => ?_)⟩
      · refine ⟨_, rfl, _, rfl, by omega, by omega, fun D hD => lc_range (lo := 0) (n := n) (fun j H4 => Ext HA H4 ∧ ∃ ys, H4 D = some (.lst ys) ∧ Paired (RowV K H4) ys ((List.range j).map fun k => [(k, (1 : Rat))])) ⟨ext_upd hD, [], upd_same, .nil⟩ (fun j H4 hj hP => ?_) (fun H4 hP => ?_)⟩
        · obtain ⟨s4, ys, hys, hrows⟩ := hP
          rw [Int.zero_add]
          dsimp only [gName]
          refine ⟨rfl, _, rfl, sl2, fun t1 h1 => ?_⟩
          have w1 := ext_upd (o := .tup [.int 1, .int 1]) h1
          have k1 : SqT K (upd H4 t1 (.tup [.int 1, .int 1])) t1 [.int 1, .int 1] := SqT.of upd_same
          generalize upd H4 t1 (.tup [.int 1, .int 1]) = H5 at *
          refine And.intro sl2 fun t2 h2 => ?_
          have w2 := ext_upd (o := .tup [.int (((j) : Nat) : Int), .ref t1]) h2
          have k2 : SqT K (upd H5 t2 (.tup [.int (((j) : Nat) : Int), .ref t1])) t2 [.int (((j) : Nat) : Int), .ref t1] := SqT.of upd_same
          generalize upd H5 t2 (.tup [.int (((j) : Nat) : Int), .ref t1]) = H6 at *
          refine And.intro (by rw [sizeLine_eq]; simp) fun t3 h3 => ?_
          have w3 := ext_upd (o := .tup [.ref t2]) h3
          have hv : RowV K (upd H6 t3 (.tup [.ref t2])) (.ref t3) [(j, (1 : Rat))] := ⟨t3, _, rfl, SqT.of upd_same, .cons ⟨t2, .ref t1, rfl, w3.tup k2, t1, rfl, (w2.trans w3).tup k1⟩ .nil⟩
          generalize upd H6 t3 (.tup [.ref t2]) = H7 at *
          have w7 := (w1.trans w2).trans w3
          have hys7 := w7.lst hys
          have lr := hrows.length
          rw [List.length_map, List.length_range] at lr
          refine ⟨ys, hys7, sl_lt (by omega), (s4.trans w7).own hD, ys ++ [.ref t3], upd_same, ?_⟩
          rw [List.range_succ, List.map_append]
          exact rows_upd hys7 (paired_app (rows_up w7 hrows) (.cons hv .nil))
        · obtain ⟨s4, ys, hys, hrows⟩ := hP
          exact ⟨D, ys, _, _, _, _, _, _, _, rfl, sA.trans s4, hys, hrows, tabL_map _ fun k hk => one_row (hk)⟩
      · exact ⟨r0, ys, _, _, _, _, _, _, _, rfl, sA, hys, hrows, tabL_map _ fun k hk => third_row (ixL_lt hk) (ixL_lt hk) (ixL_lt hk) (by omega)⟩
    · obtain ⟨l, xs, tab, z3, z4, z5, z6, z7, z8, rfl, sX, hl, hxs, hT⟩ := hM
      refine ⟨fun σ HX => ∃ l xs tab z3 z4 z5 z6 z7 z8, σ = [some (.int c), some (.int ((n : Nat) : Int)), some (.ref l), z3, z4, z5, z6, z7, z8] ∧ Ext H HX ∧ HX l = some (.lst xs) ∧ Paired (RowV K HX) xs tab ∧ TabL n tab, ?_, fun σ HX hM => ?_⟩
      · refine ⟨_, rfl, _, _, rfl, rfl, (by decide : (0 : Int) < 4), rfl, ?_⟩
        refine ⟨_, rfl, iteB (fun z => ?_) (fun z => ?_)⟩
        · refine ⟨_, rfl, _, _, rfl, rfl, _, rfl, iteB (fun z => ?_) (fun z => ?_)⟩
          · have n1 : 1 < n := by
              have : (1 : Int) < ((n : Nat) : Int) := of_decide_eq_true z
              omega
            have exor : ∀ j : Nat, Builtin.bitXor ((j : Nat) : Int) 1 = ((j ^^^ 1 : Nat) : Int) := fun j => by
              rw [show (1 : Int) = ((1 : Nat) : Int) from rfl, Bits.bitXor_pp (Int.natCast_nonneg _) (Int.natCast_nonneg _), Int.toNat_natCast, Int.toNat_natCast]
            refine ⟨_, rfl, _, rfl, by omega, by omega, fun D hD => lc_range (lo := 0) (n := n) (fun j H4 => Ext HX H4 ∧ ∃ ys, H4 D = some (.lst ys) ∧ Paired (RowV K H4) ys ((List.range j).map fun k => [(k ^^^ 1, (1 : Rat))])) ⟨ext_upd hD, [], upd_same, .nil⟩ (fun j H4 hj hP => ?_) (fun H4 hP => ?_)⟩
            · obtain ⟨s4, ys, hys, hrows⟩ := hP
              rw [Int.zero_add]
              dsimp only [gName]
              refine ⟨rfl, _, rfl, _, _, rfl, rfl, sl2, fun t1 h1 => ?_⟩
              have w1 := ext_upd (o := .tup [.int 1, .int 1]) h1
              have k1 : SqT K (upd H4 t1 (.tup [.int 1, .int 1])) t1 [.int 1, .int 1] := SqT.of upd_same
              generalize upd H4 t1 (.tup [.int 1, .int 1]) = H5 at *
              refine And.intro sl2 fun t2 h2 => ?_
              rw [show (fun i j : Int => V.int (Builtin.bitXor i j)) ((j : Nat) : Int) 1 = V.int ((j ^^^ 1 : Nat) : Int) from congrArg V.int (exor j)]
              have w2 := ext_upd (o := .tup [.int (((j ^^^ 1) : Nat) : Int), .ref t1]) h2
              have k2 : SqT K (upd H5 t2 (.tup [.int (((j ^^^ 1) : Nat) : Int), .ref t1])) t2 [.int (((j ^^^ 1) : Nat) : Int), .ref t1] := SqT.of upd_same
              generalize upd H5 t2 (.tup [.int (((j ^^^ 1) : Nat) : Int), .ref t1]) = H6 at *
              refine And.intro (by rw [sizeLine_eq]; simp) fun t3 h3 => ?_
              have w3 := ext_upd (o := .tup [.ref t2]) h3
              have hv : RowV K (upd H6 t3 (.tup [.ref t2])) (.ref t3) [(j ^^^ 1, (1 : Rat))] := ⟨t3, _, rfl, SqT.of upd_same, .cons ⟨t2, .ref t1, rfl, w3.tup k2, t1, rfl, (w2.trans w3).tup k1⟩ .nil⟩
              generalize upd H6 t3 (.tup [.ref t2]) = H7 at *
              have w7 := (w1.trans w2).trans w3
              have hys7 := w7.lst hys
              have lr := hrows.length
              rw [List.length_map, List.length_range] at lr
              refine ⟨ys, hys7, sl_lt (by omega), (s4.trans w7).own hD, ys ++ [.ref t3], upd_same, ?_⟩
              rw [List.range_succ, List.map_append]
              exact rows_upd hys7 (paired_app (rows_up w7 hrows) (.cons hv .nil))
            · obtain ⟨s4, ys, hys, hrows⟩ := hP
              exact ⟨D, ys, _, _, _, _, _, _, _, rfl, sX.trans s4, hys, hrows, tabL_map _ fun k hk => one_row (by rw [em]; exact Nat.xor_lt_two_pow (em ▸ hk) (by rw [← em]; exact n1))⟩
          · exact ⟨l, xs, tab, _, _, _, _, _, _, rfl, sX, hl, hxs, hT⟩
        · exact ⟨l, xs, tab, _, _, _, _, _, _, rfl, sX, hl, hxs, hT⟩
      · obtain ⟨l, xs, tab, z3, z4, z5, z6, z7, z8, rfl, sX, hl, hxs, hT⟩ := hM
        refine ⟨_, rfl, l, xs, rfl, .inl ⟨SqL.of hl, fun p hp => ?_⟩⟩
        have x9 := ext_upd (o := .tup xs) hp
        exact q p _ xs tab (sX.trans x9) (SqT.of upd_same) (rows_up x9 hxs) hT
/-! ### the distribution behind a move -/
theorem enumR_len (ss : List Rat) : (enumR ss).length = ss.length := by unfold enumR; rw [List.length_map, List.length_range]
theorem enumR_get {ss : List Rat} {k : Nat} (h : k < ss.length) : (enumR ss)[k]? = some (k, co ss k) := by
  unfold enumR
  rw [List.getElem?_map, List.getElem?_range h]
  rfl
theorem paired_of {α β : Type} {R : α → β → Prop} : ∀ {as : List α} {bs : List β}, as.length = bs.length → (∀ (i : Nat) (a : α) (b : β), as[i]? = some a → bs[i]? = some b → R a b) → Paired R as bs
  | [], [], _, _ => .nil
  | [], _ :: _, h, _ => nomatch h
  | _ :: _, [], h, _ => nomatch h
  | a :: as, b :: bs, h, f => .cons (f 0 a b rfl rfl) (paired_of (Nat.succ.inj h) fun i x y hx hy => f (i + 1) x y (by simpa using hx) (by simpa using hy))
theorem putG_new {β : Type} [DecidableEq β] {l : List (β × Rat)} {k : β} (x : Rat) (h : k ∉ keysG l) : putG l k x = l ++ [(k, x)] := by
  unfold putG
  rw [if_neg (fun z => h (any_keys.mp z))]
theorem prs_split {H : Hp} : ∀ {rs : List V} {row : List (Nat × Rat)}, Paired (PrV K H) rs row → ∃ (ps : List Addr) (kvs : List (Key × V)), rs = ps.map V.ref ∧ Paired (fun p kv => SqT K H p [kV kv.1, kv.2]) ps kvs ∧ KvsG (intR K) H kvs row
  | _, _, .nil => ⟨[], [], rfl, .nil, .nil⟩
  | _, _, .cons (b := e) ⟨a, wv, ev, ha, c, ew, hc⟩ t => by
    obtain ⟨ps, kvs, e1, h1, h2⟩ := prs_split t
    subst ev ew e1
    exact ⟨a :: ps, (Sum.inl ((e.1 : Nat) : Int), .ref c) :: kvs, rfl, .cons ha h1, .cons ⟨rfl, c, rfl, hc⟩ h2⟩
theorem kvsg_merge {R : KRep K Nat Key} {H : Hp} : ∀ {more acc : List (Key × V)} {l m : List (Nat × Rat)}, KvsG R H acc l → KvsG R H more m → (keysG (l ++ m)).Nodup → KvsG R H (mergeK acc more) (l ++ m)
  | _, _, l, _, ha, .nil, _ => by rw [List.append_nil]; exact ha
  | kv :: more, acc, l, e :: m, ha, .cons ⟨h1, h2⟩ t, nd => by
    have hk : e.1 ∉ keysG l := fun z => by
      unfold keysG at nd z
      rw [List.map_append] at nd
      exact (List.nodup_append.mp nd).2.2 _ z _ (by simp) rfl
    have hp := kvsg_put (R := R) e.1 h2 ha
    rw [putG_new _ hk, ← h1] at hp
    have e2 : l ++ e :: m = (l ++ [(e.1, e.2)]) ++ m := by simp
    rw [e2] at nd ⊢
    exact kvsg_merge (more := more) hp t nd
theorem getG_mem {β : Type} [DecidableEq β] : ∀ {l : List (β × Rat)} {k : β} {v : Rat}, (keysG l).Nodup → (k, v) ∈ l → getG l k = v
  | [], _, _, _, h => by cases h
  | e :: l, k, v, nd, h => by
    obtain ⟨n1, n2⟩ := List.nodup_cons.mp (show (e.1 :: keysG l).Nodup from nd)
    rw [getG_cons]
    rcases List.mem_cons.mp h with w | w
    · rw [← w, if_pos rfl]
    · rw [if_neg (fun z => n1 (List.mem_map.mpr ⟨(k, v), w, z.symm⟩)), getG_mem n2 w]
theorem rowR_get {n : Nat} {f : Nat → Rat} {k : Nat} (h : k < n) : getG (rowR n f) k = f k := by
  by_cases z : f k = 0
  · rw [z]
    refine getG_none fun m => ?_
    obtain ⟨e, me, ee⟩ := List.mem_map.mp m
    obtain ⟨_, _, h3⟩ := row_mem me
    have ee : e.1 = k := ee
    rw [ee] at h3
    exact h3 z
  · refine getG_mem (row_nodup n f) ?_
    unfold rowR
    exact List.mem_map.mpr ⟨k, List.mem_filter.mpr ⟨List.mem_range.mpr h, decide_eq_true z⟩, rfl⟩
def spAfter (T : Top K mg) : Sp := fun vs H Q _ => ∃ (a b : Addr) (xs ys : List V) (ss : List Rat) (tab : List (List (Nat × Rat))) (M1 M2 : Nat), vs = [.ref a, .ref b] ∧ SqT K H a xs ∧ FrsV K H xs ss ∧ SqT K H b ys ∧ Paired (RowV K H) ys tab ∧ tab.length = ss.length ∧
  (∀ r ∈ ss, r.den ∣ M1 ∧ 0 < r ∧ r ≤ 1) ∧ TabOk M2 ss.length tab ∧ M1 ≠ 0 ∧ M2 ≠ 0 ∧ M1 * M2 < 2 ^ 1900 ∧ ss.length ≤ 63 ∧ Tg T H ∧
  ∀ t H' zs, Ext H H' → SqT K H' t zs → FrsV K H' zs ((List.range ss.length).map (behF tab (enumR ss))) → Q (.ref t) H'
theorem ok_after (T : Top K mg) (B : Tb T base) : FnOk P w K mg base CX0 5 T.f_after T.d_after ["distribution", "table"] (spAfter T) := by
  refine T.F_after.ok sc_after (fun vs H Q E h => ?_) (fun A outer s H vs Q E hr h => ?_)
  · obtain ⟨a, b, xs, ys, ss, tab, M1, M2, rfl, _⟩ := h
    rfl
  obtain ⟨a, b, xs, ys, ss, tab, M1, M2, rfl, ha, hx, hb, hy, hlen, hss, htab, hM1, hM2, hMM, l63, G, q⟩ := h
  refine ⟨_, (pss_cons (ps_set (i := 2) sc_after.nd rfl (by first | exact .inl rfl | exact .inr rfl) (pe_callTy (DTT.call_dictT rfl) (by rfl) T.m_dict (by decide +kernel) (pa_cons (pe_call (ok_row_behind T B) (hr.mono (by decide)) (by rfl) T.g_row_behind T.F_row_behind.kp T.b_row_behind .nil pass0 (pa_cons (LEN.pe_listEnum rfl (by rfl) T.m_list (by rfl) T.m_enumerate (pa_cons (pv 0) pa_nil)) (pa_cons (pe_call (ok_rows_of_integers T) (hr.mono (by decide)) (by rfl) T.g_rows_of_integers T.F_rows_of_integers.kp T.b_rows_of_integers .nil pass0 (pa_cons (pv 1) pa_nil)) pa_nil))) pa_nil)))
      (pss_one (ps_ret (GXP.pe_tupleGx (own := [("index", 3)]) (g := gName 3) (tt := tYes) (k := 3) (c := T.c_after) (P := T.P_after) (by rfl) T.m_tuple ⟨hr.mono (by decide), rfl, B.t_after, rfl, rfl, blkOk_by (own := [("index", 3)]) (N := n_after) (sc := defScope s_after) (by decide +kernel), sc_after.nd, by decide +kernel, rfl, (pi_range1 (by rfl) T.m_range (pa_cons (pe_callB call_len_seq (by rfl) T.m_len (by decide +kernel) (pa_cons (pv 0) pa_nil)) pa_nil)), fun A s H C cl code bi fp hrA => (pg_name (i := 3) sc_after.nd rfl (by first | exact .inl rfl | exact .inr rfl)), fun A s H C cl code bi fp hrA => pts_nil, fun A s H C cl code bi fp hrA => (pe_dget2 (hu_of hrA) (pv 2) (pv 3) (pe_tup (pa_cons pe_int (pa_cons pe_int pa_nil))) ⟨rfl, rfl, rfl, rfl⟩), fun _ => rfl⟩)))), ?_⟩
  have lx := hx.length
  have ly := hy.length
  have hM2s : M2 < 2 ^ 1900 := Nat.lt_of_le_of_lt (Nat.le_mul_of_pos_left M2 (Nat.pos_of_ne_zero hM1)) hMM
  refine ⟨_, rfl, a, xs, rfl, ha, fun l H1 es s1 nl hl hen => ?_⟩
  have hes : Paired (PrV K H1) es (enumR ss) := by
    refine paired_of (by rw [hen.1, enumR_len, lx]) fun j v e hv he => ?_
    have hj : j < ss.length := by
      have := (List.getElem?_eq_some_iff.mp he).1
      rwa [enumR_len] at this
    rw [enumR_get hj] at he
    obtain rfl := Option.some.inj he
    obtain ⟨x, hx1, c, rfl, hc⟩ := frs_at (frs_up s1 hx) hj
    obtain ⟨T2, h1, h2⟩ := hen.2 j _ (by omega) hx1
    rw [hv] at h1
    obtain rfl := Option.some.inj h1
    exact ⟨T2, _, rfl, SqT.of h2, c, rfl, hc⟩
  refine ⟨_, rfl, b, ys, tab, M2, rfl, s1.tup hb, rows_up s1 hy, fun row m => ⟨by have := (htab row m).1; omega, fun e me => ?_⟩, hM2, hM2s, by omega, fun l2 zs0 H2 s2 nl2 hl2 hov => ?_⟩
  · obtain ⟨h1, h2, h3, _⟩ := (htab row m).2 e me
    exact ⟨h1, Nat.lt_of_le_of_lt (Nat.le_trans (num_le_den h2 h3) (Nat.le_of_dvd (Nat.pos_of_ne_zero hM2) h1)) hM2s⟩
  have s12 := s1.trans s2
  refine ⟨l, l2, l2, es, zs0, enumR ss, tab, M1, M2, ss.length, rfl, .inl (SqL.of (s2.lst hl)), prvs_up s2 hes, hl2, hov, fun e me => ?_, htab, hM1, hM2, hMM, by rw [enumR_len]; omega, by omega, l63, G.ext s12, fun v H3 s3 hv => ?_⟩
  · obtain ⟨k, mk, rfl⟩ := List.mem_map.mp me
    have hk := List.mem_range.mp mk
    have hcm : co ss k ∈ ss := by
      unfold co
      rw [List.getD_eq_getElem?_getD, List.getElem?_eq_getElem hk]
      exact List.getElem_mem hk
    obtain ⟨d1, d2, d3⟩ := hss _ hcm
    exact ⟨d1, d2, d3, by omega⟩
  obtain ⟨t3, o3, rs, rfl, ht3, hpl, hrs⟩ := hv
  obtain ⟨ps, kvs, rfl, hps, hkv⟩ := prs_split hrs
  have hkm := kvsg_merge (R := intR K) (acc := []) (l := []) .nil hkv (row_nodup _ _)
  have s13 := s12.trans s3
  refine ⟨t3, o3, ps, kvs, rfl, ht3, hpl, hps, fun d hd => ?_⟩
  have xd := ext_upd (o := .dK (mergeK [] kvs)) hd
  have kd : upd H3 d (.dK (mergeK [] kvs)) d = some (.dK (mergeK [] kvs)) := upd_same
  have hkm := kvsg_up xd hkm
  have s14 := s13.trans xd
  generalize upd H3 d (.dK (mergeK [] kvs)) = H4 at *
  dsimp only [gName]
  have s24 := s3.trans xd
  have ha4 := s14.tup ha
  refine ⟨_, rfl, a, xs, rfl, .inr ha4, _, rfl, by omega, by omega, (G.ext s14).t_after, fun H8 t8 => ?_⟩
  have e8 : Ext H4 H8 := ext_tabbed (G.ext s14).t_after t8
  refine gx_range (lo := 0) (n := ((xs.length : Int)).toNat) (fun n zs HN => Ext H8 HN ∧ FrsV K HN zs ((List.range n).map (behF tab (enumR ss)))) ⟨Ext.refl _, .nil⟩ (fun n zs HN hn hP => ?_) (fun zs HN hP => ?_)
  · obtain ⟨sN, hz⟩ := hP
    rw [Int.toNat_natCast] at hn
    rw [Int.zero_add]
    have lz := hz.length
    rw [List.length_map, List.length_range] at lz
    have e8N := e8.trans sN
    have hdN := e8N.keep _ _ kd (fun _ z => by cases z)
    have hkN := kvsg_up e8N hkm
    dsimp only [gName]
    refine ⟨rfl, _, rfl, d, rfl, (intR K).isD hdN, _, rfl, sl2, fun t5 h5 => ⟨_, (intR K).get (k := n) ((ext_upd h5).keep _ _ hdN (fun _ z => by cases z)) rfl, ?_⟩⟩
    have w5 := ext_upd (o := .tup [.int 0, .int 1]) h5
    have hv := kvsg_get (R := intR K) (zv := .ref t5) ⟨t5, rfl, SqT.of upd_same⟩ n (kvsg_up w5 hkN)
    rw [List.nil_append, rowR_get (by omega)] at hv
    refine ⟨sl_lt (by omega), sN.trans w5, ?_⟩
    rw [List.range_succ, List.map_append]
    exact paired_snoc (frs_up w5 hz) hv
  · obtain ⟨sN, hz⟩ := hP
    rw [Int.toNat_natCast, lx] at hz
    intro t6 ht6
    have x6 := ext_upd (o := .tup zs) ht6
    exact q t6 _ zs (((s14.trans e8).trans sN).trans x6) (SqT.of upd_same) (frs_up x6 hz)
/-! ### does a table keep a distribution -/
def frsD (l : List Rat) : PyData := .tuple (l.map frD)
theorem eqvAll_fr : ∀ l m : List Rat, PyData.eqvAll (l.map frD) (m.map frD) = decide (l = m)
  | [], [] => rfl
  | [], _ :: _ => rfl
  | _ :: _, [] => rfl
  | r :: l, s :: m => by
    show (PyData.eqv (frD r) (frD s) && PyData.eqvAll (l.map frD) (m.map frD)) = _
    rw [eqv_fr, eqvAll_fr l m]
    by_cases h : r = s <;> by_cases g : l = m <;> simp [h, g]
theorem eqv_frs (l m : List Rat) : PyData.eqv (frsD l) (frsD m) = decide (l = m) := by
  show PyData.eqvAll (l.map frD) (m.map frD) = _
  exact eqvAll_fr l m
theorem frs_dpT {H : Hp} {a : Addr} {vs : List V} {l : List Rat} (ha : SqT K H a vs) (h : FrsV K H vs l) : Dp K H (.ref a) (frsD l) := by
  refine .tup ha ?_
  clear ha
  induction h with
  | nil => exact .nil
  | cons h _ ih => exact .cons (fr_dp h) ih
theorem gd_frsD (l : List Rat) : Gd 5 (frsD l) := gd_tup fun x m => by
  obtain ⟨r, _, rfl⟩ := List.mem_map.mp m
  exact gd_frD r
def spKeeps (T : Top K mg) : Sp := fun vs H Q _ => ∃ (a b : Addr) (xs ys : List V) (ss : List Rat) (tab : List (List (Nat × Rat))) (M1 M2 : Nat), vs = [.ref a, .ref b] ∧ SqT K H a xs ∧ FrsV K H xs ss ∧ SqT K H b ys ∧ Paired (RowV K H) ys tab ∧ tab.length = ss.length ∧
  (∀ r ∈ ss, r.den ∣ M1 ∧ 0 < r ∧ r ≤ 1) ∧ TabOk M2 ss.length tab ∧ M1 ≠ 0 ∧ M2 ≠ 0 ∧ M1 * M2 < 2 ^ 1900 ∧ ss.length ≤ 63 ∧ Tg T H ∧
  ∀ H', Ext H H' → Q (.bl (decide ((List.range ss.length).map (behF tab (enumR ss)) = ss))) H'
theorem ok_keeps (T : Top K mg) (B : Tb T base) : FnOk P w K mg base CX0 6 T.f_keeps T.d_keeps ["distribution", "table"] (spKeeps T) := by
  refine T.F_keeps.ok sc_keeps (fun vs H Q E h => ?_) (fun cdv A outer s H vs Q E hr h => ?_)
  · obtain ⟨a, b, xs, ys, ss, tab, M1, M2, rfl, _⟩ := h
    rfl
  obtain ⟨a, b, xs, ys, ss, tab, M1, M2, rfl, ha, hx, hb, hy, hlen, hss, htab, hM1, hM2, hMM, l63, G, q⟩ := h
  refine ⟨_, (pss_one (ps_ret (pe_cmpR (op_eqD hr.units) (pe_call (ok_after T B) (hr.mono (by decide)) (by rfl) T.g_after T.F_after.kp T.b_after .nil pass0 (pa_cons (pv 0) (pa_cons (pv 1) pa_nil))) (pe_callTy (T := "tuple") (r := rTupOf K) call_tuple_of (by rfl) T.m_tuple (by decide +kernel) (pa_cons (pv 0) pa_nil)) (nomark _)))), ?_⟩
  refine ⟨_, rfl, _, rfl, a, b, xs, ys, ss, tab, M1, M2, rfl, ha, hx, hb, hy, hlen, hss, htab, hM1, hM2, hMM, l63, G, fun t H1 zs s1 ht hz => ?_⟩
  have ha1 := s1.tup ha
  refine ⟨_, rfl, a, xs, rfl, .inr ⟨ha1, ?_⟩⟩
  refine ⟨frsD _, frsD _, frs_dpT ht hz, frs_dpT ha1 (frs_up s1 hx), (gd_frsD _).sh, (gd_frsD _).sh, ?_⟩
  rw [eqv_frs]
  exact q _ s1
/-! ### is a table balanced -/
def flF (ss : List Rat) (tab : List (List (Nat × Rat))) (i : Nat) : List (List Nat × Rat) := (rowAt tab i).map fun f => ([i, f.1], co ss i * f.2)
def flL (ss : List Rat) (tab : List (List (Nat × Rat))) (n : Nat) : List (List Nat × Rat) := (List.range n).flatMap (flF ss tab)
theorem flL_succ (ss : List Rat) (tab : List (List (Nat × Rat))) (n : Nat) : flL ss tab (n + 1) = flL ss tab n ++ flF ss tab n := by
  unfold flL
  rw [List.range_succ, List.flatMap_append]
  simp
theorem flL_keys (ss : List Rat) (tab : List (List (Nat × Rat))) : ∀ n, keysG (flL ss tab n) = (List.range n).flatMap fun i => (rowAt tab i).map fun f => [i, f.1]
  | 0 => rfl
  | n + 1 => by
    rw [flL_succ, List.range_succ, List.flatMap_append, ← flL_keys ss tab n]
    unfold keysG flF
    rw [List.map_append, List.map_map]
    simp [Function.comp_def]
theorem flL_nodup (ss : List Rat) {tab : List (List (Nat × Rat))} (h : ∀ rw ∈ tab, (rw.map fun f => f.1).Nodup) (n : Nat) : (keysG (flL ss tab n)).Nodup := by
  rw [flL_keys]
  refine List.pairwise_flatMap.mpr ⟨fun i _ => ?_, ?_⟩
  · have hn : ((rowAt tab i).map fun f => f.1).Nodup := by
      unfold rowAt
      rw [List.getD_eq_getElem?_getD]
      cases e : tab[i]? with
      | none => exact List.nodup_nil
      | some r => exact h r (List.mem_of_getElem? e)
    rw [List.pairwise_map]
    have hn := List.pairwise_map.mp (show List.Pairwise (· ≠ ·) ((rowAt tab i).map fun f => f.1) from hn)
    exact hn.imp fun {a b} hab z => hab (by simpa using z)
  · refine List.Pairwise.imp ?_ (List.pairwise_lt_range (n := n))
    intro a b hab x hx y hy z
    obtain ⟨f, _, rfl⟩ := List.mem_map.mp hx
    obtain ⟨g, _, e⟩ := List.mem_map.mp hy
    rw [← e] at z
    have : a = b := (List.cons.inj z).1
    omega
theorem flL_mem {ss : List Rat} {tab : List (List (Nat × Rat))} {n : Nat} {e : List Nat × Rat} (h : e ∈ flL ss tab n) : ∃ i j c, i < n ∧ (j, c) ∈ rowAt tab i ∧ e = ([i, j], co ss i * c) := by
  obtain ⟨i, mi, me⟩ := List.mem_flatMap.mp h
  obtain ⟨f, mf, rfl⟩ := List.mem_map.mp me
  exact ⟨i, f.1, f.2, List.mem_range.mp mi, mf, rfl⟩
theorem flL_get {ss : List Rat} {tab : List (List (Nat × Rat))} (h : ∀ rw ∈ tab, (rw.map fun f => f.1).Nodup) {n i j : Nat} (hi : i < n) : getG (flL ss tab n) [i, j] = co ss i * colR (rowAt tab i) j := by
  have hn : ((rowAt tab i).map fun f => f.1).Nodup := by
    unfold rowAt
    rw [List.getD_eq_getElem?_getD]
    cases e : tab[i]? with
    | none => exact List.nodup_nil
    | some r => exact h r (List.mem_of_getElem? e)
  by_cases hx : ∃ f ∈ rowAt tab i, f.1 = j
  · obtain ⟨⟨k, c⟩, mf, ek⟩ := hx
    have ek : k = j := ek
    subst ek
    rw [colR_at hn mf]
    exact getG_mem (flL_nodup ss h n) (List.mem_flatMap.mpr ⟨i, List.mem_range.mpr hi, List.mem_map.mpr ⟨(k, c), mf, rfl⟩⟩)
  · rw [colR_zero fun f m e => hx ⟨f, m, e⟩, Rat.mul_zero]
    refine getG_none fun m => ?_
    obtain ⟨e, me, ee⟩ := List.mem_map.mp m
    obtain ⟨i', j', c, _, mc, rfl⟩ := flL_mem me
    have h1 := List.cons.inj (show [i', j'] = [i, j] from ee)
    have h2 := (List.cons.inj h1.2).1
    rw [h1.1] at mc
    exact hx ⟨_, mc, h2⟩
theorem fl_new {ss : List Rat} {tab : List (List (Nat × Rat))} (h : ∀ rw ∈ tab, (rw.map fun f => f.1).Nodup) {i j : Nat} {e : List Nat × Rat} (he : (flF ss tab i)[j]? = some e) : e.1 ∉ keysG (flL ss tab i ++ (flF ss tab i).take j) := by
  have nd := flL_nodup ss h (i + 1)
  rw [flL_succ] at nd
  have hp : flL ss tab i ++ (flF ss tab i).take j ++ [e] <+: flL ss tab i ++ flF ss tab i := by
    rw [List.append_assoc, ← take_snoc he]
    exact List.prefix_append_right_inj _ |>.mpr (List.take_prefix _ _)
  have hs : (keysG (flL ss tab i ++ (flF ss tab i).take j ++ [e])).Nodup := nd.sublist (hp.sublist.map _)
  unfold keysG at hs ⊢
  rw [List.map_append] at hs
  exact fun m => (List.nodup_append.mp hs).2.2 _ m _ (by simp) rfl
theorem all_bal {ss : List Rat} {tab : List (List (Nat × Rat))} (h : ∀ rw ∈ tab, (rw.map fun f => f.1).Nodup) {n : Nat} (hlt : ∀ i, ∀ f ∈ rowAt tab i, f.1 < n) : (∀ e ∈ flL ss tab n, ∀ i j, e.1 = [i, j] → e.2 = getG (flL ss tab n) [j, i]) ↔ ∀ i < n, ∀ j < i, bal ss tab i j := by
  constructor
  · intro H i hi j hj
    have hjn : j < n := Nat.lt_trans hj hi
    show co ss i * colR (rowAt tab i) j = co ss j * colR (rowAt tab j) i
    rw [← flL_get h hi, ← flL_get h hjn]
    by_cases m : [i, j] ∈ keysG (flL ss tab n)
    · obtain ⟨e, me, ee⟩ := List.mem_map.mp m
      rw [← H e me i j ee, ← ee]
      exact getG_mem (flL_nodup ss h n) me
    · by_cases m2 : [j, i] ∈ keysG (flL ss tab n)
      · obtain ⟨e, me, ee⟩ := List.mem_map.mp m2
        rw [← H e me j i ee, ← ee]
        exact (getG_mem (flL_nodup ss h n) me).symm
      · rw [getG_none m, getG_none m2]
  · intro H e me i j ee
    obtain ⟨i', j', c, hi', mc, rfl⟩ := flL_mem me
    have h1 := List.cons.inj (show [i', j'] = [i, j] from ee)
    have h2 := (List.cons.inj h1.2).1
    have h1 := h1.1
    subst h1 h2
    have e1 := getG_mem (flL_nodup ss h n) me
    have hj' : j' < n := hlt _ _ mc
    show co ss i' * c = _
    rw [← e1, flL_get h hi', flL_get h hj']
    rcases Nat.lt_trichotomy i' j' with z | z | z
    · exact (H j' hj' i' z).symm
    · rw [z]
    · exact H i' hi' j' z
theorem kvsg_some {β κ : Type} [DecidableEq β] [DecidableEq κ] {R : KRep K β κ} {H : Hp} {k : β} : ∀ {kvs : List (κ × V)} {l : List (β × Rat)}, KvsG R H kvs l → k ∈ keysG l → ∃ v, valV kvs (R.enc k) = some v ∧ FrV K H v (getG l k)
  | _, _, .nil, h => absurd h List.not_mem_nil
  | kv :: _, e :: _, .cons ⟨h1, h3⟩ t, h => by
    rw [getG_cons]
    by_cases z : e.1 = k
    · rw [if_pos z, valV_pos (by rw [h1, z])]
      exact ⟨_, rfl, h3⟩
    · rw [if_neg z, valV_neg (fun q => z (R.inj _ _ (h1.symm.trans q)))]
      refine kvsg_some t ?_
      rcases List.mem_cons.mp (show k ∈ e.1 :: keysG _ from h) with w | w
      · exact absurd w.symm z
      · exact w
theorem tab_upd {H : Hp} {d p : Addr} {u o : HO} (hd : H d = some u) (n : ∀ ps, u ≠ .tbl ps) (h : GxR.TabG H p) : GxR.TabG (upd H d o) p := by
  obtain ⟨ts, h1, h2⟩ := h
  exact ⟨ts, by rw [upd_ne (fun z => by rw [z, hd] at h1; exact n _ (Option.some.inj h1))]; exact h1, h2⟩
def spIsBal (T : Top K mg) : Sp := fun vs H Q _ => ∃ (a b : Addr) (xs ys : List V) (ss : List Rat) (tab : List (List (Nat × Rat))) (M1 M2 : Nat), vs = [.ref a, .ref b] ∧ SqT K H a xs ∧ FrsV K H xs ss ∧ SqT K H b ys ∧ Paired (RowV K H) ys tab ∧ tab.length = ss.length ∧
  (∀ r ∈ ss, r.den ∣ M1 ∧ 0 < r ∧ r ≤ 1) ∧ TabOk M2 ss.length tab ∧ (∀ rw ∈ tab, (rw.map fun f => f.1).Nodup) ∧ M1 ≠ 0 ∧ M2 ≠ 0 ∧ M1 < 2 ^ 1900 ∧ M2 < 2 ^ 1900 ∧ ss.length ≤ 300 ∧ Tg T H ∧
  ∀ H' r, Ext H H' → (r = true ↔ ∀ i < ss.length, ∀ j < i, bal ss tab i j) → Q (.bl r) H'
theorem ok_is_balanced (T : Top K mg) (B : Tb T base) : FnOk P w K mg base CX0 4 T.f_is_balanced T.d_is_balanced ["distribution", "table"] (spIsBal T) := by
  refine T.F_is_balanced.ok sc_is_balanced (fun vs H Q E h => ?_) (fun A outer s H vs Q E hr h => ?_)
  · obtain ⟨a, b, xs, ys, ss, tab, M1, M2, rfl, _⟩ := h
    rfl
  obtain ⟨a, b, xs, ys, ss, tab, M1, M2, rfl, ha, hx, hb, hy, hlen, hss, htab, hnd, hM1, hM2, hM1s, hM2s, l300, G, q⟩ := h
  refine ⟨_, (pss_cons (ps_set (i := 2) sc_is_balanced.nd rfl (by first | exact .inl rfl | exact .inr rfl) pe_dnewT)
      (pss_cons (ps_for PassesOwn.never rfl (pi_enumS rfl (by rfl) T.m_enumerate (pa_cons (pv 1) pa_nil)) (pg_tup rfl (pgs_cons (pg_name (i := 3) sc_is_balanced.nd rfl (by first | exact .inl rfl | exact .inr rfl)) (pgs_cons (pg_name (i := 4) sc_is_balanced.nd rfl (by first | exact .inl rfl | exact .inr rfl)) pgs_nil))) (pss_one (ps_for PassesOwn.never rfl (pi_tup (pv 4)) (pg_tup rfl (pgs_cons (pg_name (i := 5) sc_is_balanced.nd rfl (by first | exact .inl rfl | exact .inr rfl)) (pgs_cons (pg_name (i := 6) sc_is_balanced.nd rfl (by first | exact .inl rfl | exact .inr rfl)) pgs_nil))) (pss_one (ps_dput (hu_of hr) (pv 2) (pe_tup (pa_cons (pv 3) (pa_cons (pv 5) pa_nil))) (pe_call (ok_multiply T) (hr.mono (by decide)) (by rfl) T.g_multiply T.F_multiply.kp T.b_multiply .nil pass0 (pa_cons (pe_ix ix_tup (pv 0) (pv 3) (fun _ _ => rfl)) (pa_cons (pv 6) pa_nil))) rfl)))))
      (pss_one (ps_ret (pe_lock (GXP.pe_allGx (own := [("index", 3), ("other", 5)]) (g := gTup K 2 (gCons (gName 3) (gCons (gName 5) gNil))) (tt := tYes) (k := 2) (c := T.c_is_balanced) (P := T.P_is_balanced) (by rfl) T.m_all ⟨hr.mono (by decide), rfl, B.t_is_balanced, rfl, rfl, blkOk_by (own := [("index", 3), ("other", 5)]) (N := n_is_balanced) (sc := defScope s_is_balanced) (by decide +kernel), sc_is_balanced.nd, by decide +kernel, rfl, (pi_keys (pv 2)), fun A s H C cl code bi fp hrA => (pg_tup rfl (pgs_cons (pg_name (i := 3) sc_is_balanced.nd rfl (by first | exact .inl rfl | exact .inr rfl)) (pgs_cons (pg_name (i := 5) sc_is_balanced.nd rfl (by first | exact .inl rfl | exact .inr rfl)) pgs_nil))), fun A s H C cl code bi fp hrA => pts_nil, fun A s H C cl code bi fp hrA => (pe_cmpR (r := rEqD K) (op_eqD hrA.units) (pe_dget (hu_of hrA) (pv 2) (pe_tup (pa_cons (pv 3) (pa_cons (pv 5) pa_nil))) (fun _ _ => rfl)) (pe_dget2 (hu_of hrA) (pv 2) (pe_tup (pa_cons (pv 5) (pa_cons (pv 3) pa_nil))) (pe_tup (pa_cons pe_int (pa_cons pe_int pa_nil))) ⟨rfl, rfl, rfl, rfl⟩) (nomark _)), fun _ => rfl⟩)))))), ?_⟩
  have lx := hx.length
  have ly := hy.length
  have hsm : ∀ i < ss.length, Sm (co ss i) := fun i hi => by
    have hcm : co ss i ∈ ss := by
      unfold co
      rw [List.getD_eq_getElem?_getD, List.getElem?_eq_getElem hi]
      exact List.getElem_mem hi
    obtain ⟨d1, d2, d3⟩ := hss _ hcm
    exact sm_part d1 hM1 hM1s d2 d3
  refine fun d hd => ?_
  have xd := ext_upd (o := .dT []) hd
  have kd : upd H d (.dT []) d = some (.dT []) := upd_same
  have nd0 := hd
  generalize upd H d (.dT []) = H3 at *
  dsimp only [gName]
  have lF : ∀ i, (flF ss tab i).length ≤ 300 := fun i => by
    unfold flF rowAt
    rw [List.length_map, List.getD_eq_getElem?_getD]
    cases e : tab[i]? with
    | none => exact Nat.zero_le _
    | some r => exact (htab r (List.mem_of_getElem? e)).1
  have lL : ∀ n, (flL ss tab n).length ≤ 300 * n := fun n => by
    have h := flat_len (F := flF ss tab) (c := 300) (l := List.range n) fun i _ => lF i
    rwa [List.length_range] at h
  refine ⟨_, rfl, b, ys, H, rfl, xd, .inr hb, fun J wJ => for_enum wJ (fun i σ HA => (∃ y3 y4 y5 y6, σ = [some (.ref a), some (.ref b), some (.ref d), y3, y4, y5, y6]) ∧ Ext H HA ∧ ∃ kv, HA d = some (.dT kv) ∧ KvsG (tupR K) HA kv (flL ss tab i)) ⟨⟨_, _, _, _, rfl⟩, xd, [], kd, .nil⟩ (fun i σ HA _ h => h.2.1) (fun i x0 T0 σ HA hi hP hT0 => ?_) (fun σ HA hP => ?_)⟩
  · obtain ⟨⟨y3, y4, y5, y6, rfl⟩, sA, kv, hdA, hkv⟩ := hP
    obtain ⟨row, hrow, a1, ys1, rfl, ha1, hys1⟩ := paired_at hy hi
    have erw := rowAt_at hrow
    have hil := (List.getElem?_eq_some_iff.mp hrow).1
    have his : i < ss.length := by omega
    obtain ⟨r1, r2⟩ := htab _ (List.mem_of_getElem? hrow)
    have x1 := ext_upd (o := .tup [V.int ((i : Nat) : Int), V.ref a1]) hT0
    have k1 : SqT K (upd HA T0 (.tup [V.int ((i : Nat) : Int), V.ref a1])) T0 [V.int ((i : Nat) : Int), V.ref a1] := SqT.of upd_same
    have hdB := x1.keep _ _ hdA (fun _ z => by cases z)
    have hkB := kvsg_up x1 hkv
    have sB := sA.trans x1
    generalize upd HA T0 (.tup [V.int ((i : Nat) : Int), V.ref a1]) = HB at *
    refine ⟨T0, _, rfl, k1, rfl, _, _, rfl, _, _, rfl, rfl, ?_⟩
    dsimp only [gName]
    have eF : flF ss tab i = row.map fun f => ([i, f.1], co ss i * f.2) := by
      unfold flF
      rw [erw]
    have l1 := hys1.length
    refine ⟨_, rfl, a1, rfl, ⟨_, sB.tup ha1⟩, for_tup (xs := ys1) (fun j σ HC => (∃ y5 y6, σ = [some (.ref a), some (.ref b), some (.ref d), some (.int ((i : Nat) : Int)), some (.ref a1), y5, y6]) ∧ Ext H HC ∧ ∃ kv, HC d = some (.dT kv) ∧ KvsG (tupR K) HC kv (flL ss tab i ++ (flF ss tab i).take j)) ⟨⟨_, _, rfl⟩, sB, kv, hdB, by rw [List.take_zero, List.append_nil]; exact hkB⟩ (fun j σ HC _ h => h.2.1.tup ha1) (fun j x1 σ HC hj hP2 => ?_) (fun σ HC hP2 => ?_)⟩
    · obtain ⟨⟨y5, y6, rfl⟩, sC, kv2, hdC, hkC⟩ := hP2
      obtain ⟨⟨k2, f⟩, hfj, a3, wv, rfl, ha3, c5, rfl, hc5⟩ := paired_at hys1 hj
      obtain ⟨q1, q2, q3, q4⟩ := r2 _ (List.mem_of_getElem? hfj)
      have k2l : k2 < ss.length := q4
      have hFj : (flF ss tab i)[j]? = some ([i, k2], co ss i * f) := by
        rw [eF, List.getElem?_map, hfj]
        rfl
      obtain ⟨sv, hsv, ci, rfl, hci⟩ := frs_at (frs_up sC hx) his
      refine ⟨a3, _, rfl, sC.tup ha3, rfl, _, _, rfl, _, _, rfl, rfl, ?_⟩
      dsimp only [gName]
      refine ⟨_, rfl, _, rfl, a, xs, ((i : Nat) : Int), .ref ci, rfl, rfl, sC.tup ha, atI_nat hsv, _, rfl, ci, c5, _, _, rfl, hci, sC.tup hc5, okA_of (hsm i his) (sm_part q1 hM2 hM2s q2 q3), fun p2 H5 s5 n5 hp5 => ?_⟩
      rw [SM.mulF_fq] at hp5
      have hd5 := s5.ext.keep _ _ hdC (fun _ z => by cases z)
      refine ⟨_, rfl, _, rfl, _, rfl, sl2, fun t6 ht6 => ?_⟩
      have x6 := ext_upd (o := .tup [V.int ((i : Nat) : Int), V.int ((k2 : Nat) : Int)]) ht6
      have k6 : upd H5 t6 (.tup [V.int ((i : Nat) : Int), V.int ((k2 : Nat) : Int)]) t6 = some (.tup [V.int ((i : Nat) : Int), V.int ((k2 : Nat) : Int)]) := upd_same
      have hd6 := x6.keep _ _ hd5 (fun _ z => by cases z)
      have hp6 := x6.at hp5
      have s56 := s5.ext.trans x6
      have hk6 := kvsg_up s56 hkC
      generalize upd H5 t6 (.tup [V.int ((i : Nat) : Int), V.int ((k2 : Nat) : Int)]) = H6 at *
      have lkv := hk6.length
      have l3 := lL i
      have l4 : ((flF ss tab i).take j).length ≤ 300 := Nat.le_trans (List.length_take_le' _ _) (lF i)
      rw [List.length_append] at lkv
      refine ⟨d, _, rfl, (tupR K).put (k := [i, k2]) hd6 ⟨t6, rfl, k6⟩ (sl_lt (by omega)), ⟨_, _, rfl⟩, (sC.trans s56).own nd0, _, upd_same, ?_⟩
      have hput := kvsg_put (R := tupR K) [i, k2] ⟨p2, rfl, SqT.of hp6⟩ hk6
      rw [putG_new _ (fl_new hnd hFj), List.append_assoc, ← take_snoc hFj] at hput
      exact kvsg_upd (R := tupR K) hd6 hput
    · obtain ⟨⟨y5, y6, rfl⟩, sC, kv2, hdC, hkC⟩ := hP2
      have e1 : ys1.length = (flF ss tab i).length := by rw [eF, List.length_map, l1]
      rw [e1, List.take_length, ← flL_succ] at hkC
      exact ⟨⟨_, _, _, _, rfl⟩, sC, kv2, hdC, hkC⟩
  · obtain ⟨⟨y3, y4, y5, y6, rfl⟩, sA, kv, hdA, hkv⟩ := hP
    rw [ly, hlen] at hkv
    have nt : ∀ ps, (HO.dT kv) ≠ .tbl ps := fun _ z => by cases z
    refine ⟨d, _, hdA, trivial, fun od => ?_⟩
    have tG := tab_upd (o := .frz od (.dT kv)) hdA nt (G.ext sA).t_is_balanced
    refine ⟨_, rfl, d, od, rfl, .inr ⟨kv, upd_same, tG, fun H8 t8 => ?_⟩⟩
    have e8 : Ext (upd HA d (.frz od (.dT kv))) H8 := ext_tabbed tG t8
    have unl : ∀ HN, Ext H8 HN → Ext HA (upd HN d (.dT kv)) := fun HN s => ext_unlock hdA nt (e8.trans s)
    have atd : ∀ HN, Ext H8 HN → HN d = some (.frz od (.dT kv)) := fun HN s => (e8.trans s).keep _ _ upd_same (fun _ z => by cases z)
    refine gx_keysT (kvs := kv) (fun n zs HN => Ext H8 HN ∧ ∀ m < n, ∀ e, (flL ss tab ss.length)[m]? = some e → ∀ i j, e.1 = [i, j] → e.2 = getG (flL ss tab ss.length) [j, i]) ⟨Ext.refl _, fun m h => absurd h (Nat.not_lt_zero _)⟩ (fun n zs HN _ h => atd HN h.1) (fun n k v q0 zs HN hn hq0 hP2 => ?_) (fun zs HN hP2 => ?_)
    · obtain ⟨sN, hgood⟩ := hP2
      have hkN := kvsg_up (e8.trans sN) (kvsg_upd (R := tupR K) (o := .frz od (.dT kv)) hdA hkv)
      obtain ⟨e, he, ek, hv⟩ := paired_at hkN hn
      have hme := List.mem_of_getElem? he
      obtain ⟨i, j, c, hi, mc, rfl⟩ := flL_mem hme
      have ek : k = encT [i, j] := ek
      subst ek
      rw [encT_kV] at hq0
      have hget := getG_mem (flL_nodup ss hnd ss.length) hme
      have hmk : [i, j] ∈ keysG (flL ss tab ss.length) := List.mem_map.mpr ⟨_, hme, rfl⟩
      refine ⟨q0, _, rfl, SqT.of hq0, rfl, _, _, rfl, _, _, rfl, rfl, rfl, ?_⟩
      refine ⟨_, rfl, _, rfl, _, rfl, sl2, fun t1 h1 => ?_⟩
      have x1 := ext_upd (o := .tup [V.int ((i : Nat) : Int), V.int ((j : Nat) : Int)]) h1
      have k1 : upd HN t1 (.tup [V.int ((i : Nat) : Int), V.int ((j : Nat) : Int)]) t1 = some (.tup [V.int ((i : Nat) : Int), V.int ((j : Nat) : Int)]) := upd_same
      have s1 := sN.trans x1
      have hk1 := kvsg_up x1 hkN
      generalize upd HN t1 (.tup [V.int ((i : Nat) : Int), V.int ((j : Nat) : Int)]) = H1 at *
      obtain ⟨v1, ev1, hv1⟩ := kvsg_some hk1 hmk
      refine ⟨d, v1, rfl, .inr ⟨kv, encT [i, j], t1, .inr ⟨od, atd _ s1⟩, rfl, by rw [encT_kV]; exact k1, ev1.symm⟩, ?_⟩
      refine ⟨_, rfl, d, rfl, .inr ⟨kv, .inr ⟨od, atd _ s1⟩⟩, _, rfl, _, rfl, sl2, fun t2 h2 => ?_⟩
      have x2 := ext_upd (o := .tup [V.int ((j : Nat) : Int), V.int ((i : Nat) : Int)]) h2
      have k2 : upd H1 t2 (.tup [V.int ((j : Nat) : Int), V.int ((i : Nat) : Int)]) t2 = some (.tup [V.int ((j : Nat) : Int), V.int ((i : Nat) : Int)]) := upd_same
      generalize upd H1 t2 (.tup [V.int ((j : Nat) : Int), V.int ((i : Nat) : Int)]) = H2 at *
      refine ⟨sl2, fun t3 h3 => ?_⟩
      have x3 := ext_upd (o := .tup [V.int 0, .int 1]) h3
      have k3 : SqT K (upd H2 t3 (.tup [V.int 0, .int 1])) t3 [V.int 0, .int 1] := SqT.of upd_same
      have k2 := x3.at k2
      generalize upd H2 t3 (.tup [V.int 0, .int 1]) = H3 at *
      have x23 := x2.trans x3
      have s3 := s1.trans x23
      have hk3 := kvsg_up x23 hk1
      have hv3 := kvsg_get (R := tupR K) (zv := .ref t3) ⟨t3, rfl, k3⟩ [j, i] hk3
      obtain ⟨c1, rfl, hc1⟩ := hv1
      refine ⟨_, .inr ⟨kv, encT [j, i], t2, .inr ⟨od, atd _ s3⟩, rfl, by rw [encT_kV]; exact k2, rfl⟩, ?_⟩
      refine ⟨frD _, frD _, fr_dp ⟨c1, rfl, x23.tup hc1⟩, fr_dp hv3, (gd_frD _).sh, (gd_frD _).sh, ?_⟩
      rw [eqv_fr, hget]
      refine ⟨_, rfl, ?_⟩
      by_cases z : co ss i * c = getG (flL ss tab ss.length) [j, i]
      · rw [decide_eq_true z]
        refine ⟨s3, fun m hm e' he' i' j' ee => ?_⟩
        rcases Nat.lt_or_ge m n with w | w
        · exact hgood m w e' he' i' j' ee
        · have : m = n := by omega
          subst this
          rw [he] at he'
          obtain rfl := Option.some.inj he'
          have h1 := List.cons.inj (show [i, j] = [i', j'] from ee)
          have h2 := (List.cons.inj h1.2).1
          rw [← h1.1, ← h2]
          exact z
      · rw [decide_eq_false z]
        refine ⟨atd _ s3, q _ false (sA.trans (unl _ s3)) ⟨fun h => (nomatch h), fun h => absurd ((all_bal hnd (fun i f m => ?_)).mpr h _ hme i j rfl) z⟩⟩
        unfold rowAt at m
        rw [List.getD_eq_getElem?_getD] at m
        cases e : tab[i]? with
        | none =>
          rw [e] at m
          cases m
        | some r =>
          rw [e] at m
          exact ((htab r (List.mem_of_getElem? e)).2 f m).2.2.2
    · obtain ⟨sN, hgood⟩ := hP2
      refine ⟨atd _ sN, q _ true (sA.trans (unl _ sN)) ⟨fun _ => (all_bal hnd (fun i f m => ?_)).mp fun e me i j ee => ?_, fun _ => rfl⟩⟩
      · unfold rowAt at m
        rw [List.getD_eq_getElem?_getD] at m
        cases e : tab[i]? with
        | none =>
          rw [e] at m
          cases m
        | some r =>
          rw [e] at m
          exact ((htab r (List.mem_of_getElem? e)).2 f m).2.2.2
      · obtain ⟨m, hm⟩ := List.getElem?_of_mem me
        have := (List.getElem?_eq_some_iff.mp hm).1
        rw [← hkv.length] at this
        exact hgood m this e hm i j ee
open K04
def gX (x : Rat) : Nat := x.num.natAbs * x.den
theorem num_pos' {x : Rat} (px : 0 < x) : 0 < x.num := by
  rw [Rat.lt_iff] at px
  have h : (0 : Int) * _ < x.num * ((1 : Nat) : Int) := px
  omega
theorem mul8 {a b : Nat} (h : a < 2 ^ 4) (k : b < 2 ^ 4) : a * b ≤ 2 ^ 8 := Nat.le_trans (Nat.mul_le_mul (Nat.le_of_lt h) (Nat.le_of_lt k)) (by decide)
theorem mulden (r : Rat) : r * ((r.den : Nat) : Rat) = ((r.num : Int) : Rat) := by
  have h1 := Rat.num_divInt_den r
  rw [Rat.divInt_eq_div, Rat.intCast_natCast] at h1
  have hd : ((r.den : Nat) : Rat) ≠ 0 := fun z => r.den_nz (Rat.natCast_inj.mp (z : ((r.den : Nat) : Rat) = ((0 : Nat) : Rat)))
  generalize ((r.num : Int) : Rat) = N at *
  generalize ((r.den : Nat) : Rat) = D at *
  rw [← h1, Rat.div_def, Rat.mul_assoc, Rat.mul_comm D⁻¹ D, Rat.mul_inv_cancel _ hd, Rat.mul_one]
theorem gX_ne {x : Rat} (px : 0 < x) : gX x ≠ 0 := by
  have h1 := num_pos' px
  have h2 := x.den_pos
  exact Nat.mul_ne_zero (by omega) (by omega)
theorem den_lt {x : Rat} (bx : Bz 4 x) : x.den < 2 ^ 4 := by
  have h2 : ((x.den : Nat) : Int).natAbs < 2 ^ 4 := bx.2
  rwa [Int.natAbs_natCast] at h2
theorem gX_le {x : Rat} (bx : Bz 4 x) : gX x ≤ 2 ^ 8 := by
  have h1 : x.num.natAbs < 2 ^ 4 := bx.1
  exact mul8 h1 (den_lt bx)
theorem sm12_of {r : Rat} (h : Bz 4 r) : sm12 r := ⟨(h.le (by decide : 4 ≤ 12)).1, Nat.lt_trans (den_lt h) (by decide)⟩
theorem gX_self {x : Rat} (bx : Bz 4 x) : Iz (gX x) (2 ^ 8) x := by
  have h1 : x.num.natAbs < 2 ^ 4 := bx.1
  refine ⟨x.num * (x.num.natAbs : Int), ?_, ?_⟩
  · have h := mulden x
    unfold gX
    rw [Rat.natCast_mul, Rat.intCast_mul]
    have e : ((x.num.natAbs : Nat) : Rat) = (((x.num.natAbs : Nat) : Int) : Rat) := rfl
    rw [← e, ← h]
    grind
  · rw [Int.natAbs_mul, Int.natAbs_natCast]
    exact mul8 h1 h1
theorem gX_inv {x : Rat} (bx : Bz 4 x) (px : 0 < x) : Iz (gX x) (2 ^ 8) x⁻¹ := by
  have h1 := num_pos' px
  refine ⟨((x.den * x.den : Nat) : Int), ?_, ?_⟩
  · have h := mulden x
    have e1 : ((x.num.natAbs : Nat) : Rat) = ((x.num : Int) : Rat) := by
      have : ((x.num.natAbs : Nat) : Int) = x.num := by omega
      calc ((x.num.natAbs : Nat) : Rat) = ((((x.num.natAbs : Nat) : Int)) : Rat) := rfl
        _ = _ := by rw [this]
    have e2 : (((x.den * x.den : Nat) : Int) : Rat) = ((x.den : Nat) : Rat) * ((x.den : Nat) : Rat) := Rat.natCast_mul _ _
    unfold gX
    rw [Rat.natCast_mul, e1, ← h, e2]
    have nx : x ≠ 0 := fun h => Rat.lt_irrefl (h ▸ px)
    have := Rat.mul_inv_cancel x nx
    grind
  · rw [Int.natAbs_natCast]
    exact mul8 (den_lt bx) (den_lt bx)
theorem iz_pw {m : Nat} {r : Rat} (h : Iz m (2 ^ 8) r) : ∀ n, Iz (m ^ n) (2 ^ (8 * n)) (r ^ n)
  | 0 => by
    rw [Rat.pow_zero]
    exact (Iz.nat 1 : Iz 1 1 ((1 : Nat) : Rat))
  | n + 1 => by
    rw [Nat.pow_succ, Rat.pow_succ, Nat.mul_add, Nat.pow_add]
    exact (iz_pw h n).mul h
theorem gX_pow_le {x : Rat} (bx : Bz 4 x) (n : Nat) : gX x ^ n ≤ 2 ^ (8 * n) := by
  rw [Nat.pow_mul]
  exact Nat.pow_le_pow_left (gX_le bx) n
theorem iz_wide {x : Rat} (bx : Bz 4 x) {r : Rat} {n E : Nat} (h : Iz (gX x ^ n) (2 ^ (8 * n)) r) (k : n ≤ E) : Iz (gX x ^ E) (2 ^ (8 * E)) r := by
  have h1 := h.up (gX x ^ (E - n))
  rw [← Nat.pow_add, Nat.add_sub_cancel' k] at h1
  refine h1.le ?_
  refine Nat.le_trans (Nat.mul_le_mul_left _ (gX_pow_le bx _)) (Nat.le_of_eq ?_)
  rw [← Nat.pow_add, ← Nat.mul_add, Nat.add_sub_cancel' k]
theorem iz_one {x : Rat} (bx : Bz 4 x) (E : Nat) : Iz (gX x ^ E) (2 ^ (8 * E)) 1 := iz_wide bx (n := 0) (Iz.nat 1 : Iz 1 1 ((1 : Nat) : Rat)) (Nat.zero_le _)
theorem iz_rpG {x : Rat} (bx : Bz 4 x) (px : 0 < x) {e : Int} {E : Nat} (h : e.natAbs ≤ E) : Iz (gX x ^ E) (2 ^ (8 * E)) (rp x e) := by
  unfold rp
  split
  · exact iz_wide bx (iz_pw (gX_self bx) _) h
  · exact iz_wide bx (iz_pw (gX_inv bx px) _) h
/-! ### one common denominator of the shares -/
theorem den_dvd {r : Rat} {M : Nat} {N : Int} (hM : M ≠ 0) (h : r * (M : Rat) = (N : Rat)) : r.den ∣ M := by
  have hm : (M : Rat) ≠ 0 := fun z => hM (Rat.natCast_inj.mp (z : (M : Rat) = ((0 : Nat) : Rat)))
  have e : r = Rat.divInt N ((M : Nat) : Int) := by
    rw [Rat.divInt_eq_div, ← h, Rat.intCast_natCast]
    generalize (M : Rat) = C at *
    grind
  rw [e, Rat.den_divInt, if_neg (by omega)]
  have hg : Int.gcd ((M : Nat) : Int) N ∣ (((M : Nat) : Int)).natAbs := Nat.gcd_dvd_left _ _
  exact Nat.div_dvd_of_dvd hg
theorem le_sumR : ∀ {l : List Rat} {r : Rat}, (∀ s ∈ l, 0 < s) → r ∈ l → r ≤ sumR l
  | s :: l, r, h, m => by
    have h0 : 0 ≤ sumR l := by
      have gen : ∀ l : List Rat, (∀ s ∈ l, 0 < s) → 0 ≤ sumR l := fun l => by
        induction l with
        | nil => exact fun _ => Rat.le_refl
        | cons s l ih => exact fun h => Rat.add_nonneg (Rat.le_of_lt (h s List.mem_cons_self)) (ih fun t m => h t (List.mem_cons_of_mem _ m))
      exact gen l fun t m => h t (List.mem_cons_of_mem _ m)
    rw [sumR]
    rcases List.mem_cons.mp m with e | m
    · subst e
      grind
    · have ih := le_sumR (fun t m => h t (List.mem_cons_of_mem _ m)) m
      have hs := h s List.mem_cons_self
      grind
theorem shares_den {ws : List Rat} {D X : Nat} (hD : D ≠ 0) (h : ∀ r ∈ ws, Iz D X r ∧ 0 < r) : ∃ M : Nat, (ws ≠ [] → M ≠ 0) ∧ M ≤ ws.length * X ∧ ∀ r ∈ ws.map (fun r => r / sumR ws), r.den ∣ M ∧ 0 < r ∧ r ≤ 1 := by
  obtain ⟨A, hA, hAX⟩ := sumR_iz (D := D) (X := X) ws fun r m => (h r m).1
  have hDp : (0 : Rat) < (D : Rat) := Rat.natCast_pos.mpr (Nat.pos_of_ne_zero hD)
  have Apos : ws ≠ [] → 0 < A := fun hne => by
    have := Rat.mul_pos (sumR_pos ws hne fun r m => (h r m).2) hDp
    rw [hA] at this
    exact Rat.intCast_pos.mp this
  refine ⟨A.natAbs, fun hne => by have := Apos hne; omega, hAX, fun r m => ?_⟩
  obtain ⟨w0, mw, rfl⟩ := List.mem_map.mp m
  have hne : ws ≠ [] := List.ne_nil_of_mem mw
  have hA0 := Apos hne
  obtain ⟨a, ha, _⟩ := (h w0 mw).1
  have hw0 := (h w0 mw).2
  have hS := sumR_pos ws hne fun r m => (h r m).2
  have hle := le_sumR (fun s m => (h s m).2) mw
  have eA : ((A.natAbs : Nat) : Rat) = (A : Rat) := by
    have : ((A.natAbs : Nat) : Int) = A := by omega
    calc ((A.natAbs : Nat) : Rat) = ((((A.natAbs : Nat) : Int)) : Rat) := rfl
      _ = _ := by rw [this]
  generalize sumR ws = S at *
  refine ⟨den_dvd (N := a) (by omega) ?_, ?_, ?_⟩
  · rw [eA, ← hA, ← ha]
    have hS0 : S ≠ 0 := fun z => by rw [z] at hS; exact absurd hS (by decide)
    generalize (D : Rat) = C at *
    have := Rat.mul_inv_cancel S hS0
    rw [Rat.div_def]
    grind
  · rw [Rat.div_def]
    exact Rat.mul_pos hw0 (Rat.inv_pos.mpr hS)
  · have h5 := Rat.mul_le_mul_of_nonneg_right hle (Rat.le_of_lt (Rat.inv_pos.mpr hS))
    rw [Rat.mul_inv_cancel _ (fun z => by rw [z] at hS; exact absurd hS (by decide))] at h5
    rw [Rat.div_def]
    exact h5
theorem sum7 {st : List Int} (h : bits st) (n7 : st.length ≤ 7) : st.sum.natAbs ≤ 7 := by
  have : ∀ l : List Int, bits l → 0 ≤ l.sum ∧ l.sum ≤ l.length := fun l => by
    induction l with
    | nil => exact fun _ => ⟨Int.le_refl _, Int.le_refl _⟩
    | cons a l ih =>
      intro hb
      have := ih fun b m => hb b (List.mem_cons_of_mem _ m)
      have h1 := hb a List.mem_cons_self
      rw [List.sum_cons, List.length_cons]
      omega
  have := this st h
  omega
theorem wt_izD {fs : List Int} {es : List Eg} {x y : Rat} (bx : Bz 4 x) (bY : Bz 4 y) (px : 0 < x) (py : 0 < y) (l7 : fs.length ≤ 7) (hc : ∀ st ∈ states fs.length, (costZ fs es st).natAbs ≤ 62) : ∀ r ∈ wtL fs es x y, Iz (gX x ^ 62 * gX y ^ 7) (2 ^ 552) r ∧ 0 < r := fun r m => by
  obtain ⟨st, mst, rfl⟩ := List.mem_map.mp m
  obtain ⟨ln, hbt⟩ := states_ok _ st mst
  have h1 := iz_rpG bx px (hc st mst)
  have h3 := iz_rpG bY py (e := st.sum) (E := 7) (sum7 hbt (by omega))
  have := h1.mul h3
  rw [← Nat.pow_add] at this
  exact ⟨this, wt_pos px py st⟩
theorem wD_ok {x y : Rat} (bx : Bz 4 x) (bY : Bz 4 y) (px : 0 < x) (py : 0 < y) : gX x ^ 62 * gX y ^ 7 ≠ 0 ∧ gX x ^ 62 * gX y ^ 7 < 2 ^ 1900 := by
  refine ⟨Nat.mul_ne_zero (Nat.pos_iff_ne_zero.mp (Nat.pow_pos (Nat.pos_of_ne_zero (gX_ne px)))) (Nat.pos_iff_ne_zero.mp (Nat.pow_pos (Nat.pos_of_ne_zero (gX_ne py)))), ?_⟩
  have h : gX x ^ 62 * gX y ^ 7 ≤ 2 ^ (8 * 62) * 2 ^ (8 * 7) := Nat.mul_le_mul (gX_pow_le bx _) (gX_pow_le bY _)
  rw [← Nat.pow_add] at h
  exact Nat.lt_of_le_of_lt h (Nat.pow_lt_pow_right (by decide) (by omega))
open K04
def wWhen (p : Prop) (t : TS) : TS := fun D σ H => p ∧ t D σ H
theorem pss_when {X : Cx} {p : Prop} {b : List Stmt} {t : TS} (h : p → PSs X b t) : PSs X b (wWhen p t) := ⟨fun pins s σ H D I q => (h q.1).run pins s σ H D I q.2⟩
def adV : Value → Addr
  | .ref a => a
  | _ => 0
theorem zc_of {K : PySem.W.Frag} {cls : Value} {d : Option Addr} {oe : Obj} (hq : cls = .ref (adV cls) ∧ d = none ∧ ExcC K (adV cls)) (hz : Zc cls d oe) : Zc (.ref (adV cls)) none oe := by
  obtain ⟨h1, h2, _⟩ := hq
  rw [← h1]
  subst h2
  exact hz
theorem Drawn.goodE {most : Int} {fs : List Int} {es : List Eg} (h : Drawn most fs es) (l : es.length ≤ 24) : goodE fs.length es := ⟨l, h.ok, fun i x y hx hy => by
  obtain ⟨h1, rfl⟩ := List.getElem?_eq_some_iff.mp hx
  obtain ⟨h2, rfl⟩ := List.getElem?_eq_some_iff.mp hy
  exact List.pairwise_iff_getElem.mp h.asc i (i + 1) h1 h2 (Nat.lt_succ_self i)⟩
theorem Drawn.goodF {most : Int} {fs : List Int} {es : List Eg} (h : Drawn most fs es) (l : most ≤ 12) : goodF fs := ⟨h.one, by have := h.most; omega, fun f m => by have := h.small f m; omega⟩
theorem init_at (T : Top K mg) {H : Hp} {R : VK} {E : XK} {fa ea : Addr} {fs : List Int} {xs : List V} {es : List Eg} (hf : Sq K H fa (fs.map V.int)) (he : Sq K H ea xs) (hes : Paired (EdgeAt K H) xs es) (le : es.length < 1000000) (lf : fs.length < 1000000) (G : Tg T H) (gf : goodF fs) (ge : goodE fs.length es)
    {x dx : Addr} (hx : H x = none) (hdx : H dx = none) (q : ∀ H', Ext H H' → SpAt T H' x fs es → R .non H') : spInit T [.ref x, .ref fa, .ref ea] (upd (upd H dx (.own x)) x (.ins T.C_Spins dx [])) R E := by
  have x5 : Ext H (upd (upd H dx (.own x)) x (.ins T.C_Spins dx [])) := (ext_upd hdx).own hx
  exact ⟨x, dx, fa, ea, fs, xs, es, H, rfl, upd_same, hx, x5, hf, he, hes, le, lf, G, fun gf ge H' fc ec ys s h1 h2 h3 h4 => q H' s ⟨gf, ge, dx, fc, ec, ys, h1, h2, h3, h4⟩, fun bad => absurd ⟨gf, ge⟩ bad⟩
structure KeptL (K : PySem.W.Frag) (H0 H : Hp) (fb eb : Addr) (fs : List Int) (xs : List V) (es : List Eg) : Prop where
  ext : Ext H0 H
  f : H fb = some (.lst (fs.map V.int))
  e : H eb = some (.lst xs)
  ee : Paired (EdgeAt K H) xs es
theorem KeptL.up {H0 H H' : Hp} {fb eb : Addr} {fs : List Int} {xs : List V} {es : List Eg} (h : KeptL K H0 H fb eb fs xs es) (s : Ext H H') : KeptL K H0 H' fb eb fs xs es := ⟨h.ext.trans s, s.lst h.f, s.lst h.e, s.edges h.ee⟩
/-! ### how large a cost can be -/
theorem natAbs_sum {c : Nat} : ∀ {l : List Int}, (∀ z ∈ l, z.natAbs ≤ c) → l.sum.natAbs ≤ c * l.length
  | [], _ => by simp
  | z :: l, h => by
    have h1 := h z List.mem_cons_self
    have h2 := natAbs_sum (c := c) (l := l) fun y m => h y (List.mem_cons_of_mem _ m)
    rw [List.sum_cons, List.length_cons, Nat.mul_succ]
    omega
theorem cost_le {fs : List Int} {es : List Eg} {c : Nat} (hf : ∀ f ∈ fs, f.natAbs ≤ c) (he : ∀ e ∈ es, e.2.2.natAbs ≤ 9) (st : List Int) : (costZ fs es st).natAbs ≤ 9 * es.length + c * fs.length := by
  have h1 : (edgeC es st).natAbs ≤ 9 * es.length := by
    unfold edgeC
    refine Nat.le_trans (natAbs_sum (c := 9) fun z m => ?_) ?_
    · obtain ⟨e, m', rfl⟩ := List.mem_map.mp m
      exact he e (List.mem_filter.mp m').1
    · rw [List.length_map]
      exact Nat.mul_le_mul_left _ (List.length_filter_le _ _)
  have h2 : (fieldC fs st).natAbs ≤ c * fs.length := by
    unfold fieldC
    refine Nat.le_trans (natAbs_sum (c := c) fun z m => ?_) ?_
    · obtain ⟨e, m', rfl⟩ := List.mem_map.mp m
      exact hf e.1 (List.of_mem_zip (List.mem_filter.mp m').1).1
    · rw [List.length_map]
      refine Nat.mul_le_mul_left _ (Nat.le_trans (List.length_filter_le _ _) ?_)
      rw [List.length_zip]
      omega
  unfold costZ
  omega
theorem Drawn.cost {most : Int} {fs : List Int} {es : List Eg} (h : Drawn most fs es) (l : most ≤ 4) (st : List Int) : (costZ fs es st).natAbs ≤ 62 := by
  have h1 := cost_le (fs := fs) (es := es) (c := 2) (fun f m => by have := h.small f m; omega) (fun e m => by
    obtain ⟨_, _, _, _, a, b⟩ := h.ok e m
    omega) st
  have h2 := h.cnt
  have h3 := h.most
  have h4 : fs.length ≤ 4 := by omega
  have h5 : fs.length * (fs.length - 1) ≤ 4 * 3 := Nat.mul_le_mul h4 (by omega)
  omega
def rLenS (K : PySem.W.Frag) : List V → Hp → VK → Prop := fun xs H Q => ∃ p ys, xs = [V.ref p] ∧ (SqL K H p ys ∨ SqT K H p ys) ∧ Q (.int (ys.length : Int)) H
/-- a tuple of these ints -/
def spLaw (T : Top K mg) : Sp := fun vs H Q _ => ∃ (a : Addr) (ns : List Int), vs = [.ref a] ∧ SqL K H a (ns.map V.int) ∧ Tg T H ∧ ∀ H', Q (.bl true) H'
theorem law_in (T : Top K mg) (H : Hp) (a : Addr) (ns : List Int) (hl : ns.length ≤ 63) (hb : ∀ z ∈ ns, Builtin.Int.intBits z ≤ 1048576) (G : Tg T H) (hS : SqL K H a (ns.map V.int)) : spLaw T [.ref a] H (fun v _ => v = .bl true) fun _ _ _ => False := ⟨a, ns, rfl, hS, G, fun _ => rfl⟩
/-- fields, edges as the law sets them -/
structure Set1 (K : PySem.W.Frag) (H0 H : Hp) (fb eb : Addr) (fs : List Int) (xs : List V) (es : List Eg) : Prop where
  m : KeptL K H0 H fb eb fs xs es
  gf : goodF fs
  ge : goodE fs.length es
  l7 : fs.length ≤ 7
  cost : ∀ st ∈ states fs.length, (costZ fs es st).natAbs ≤ 62
theorem Set1.up {H0 H H' : Hp} {fb eb : Addr} {fs : List Int} {xs : List V} {es : List Eg} (h : Set1 K H0 H fb eb fs xs es) (s : Ext H H') : Set1 K H0 H' fb eb fs xs es := ⟨h.m.up s, h.gf, h.ge, h.l7, h.cost⟩
theorem numpos (r : Rat) : (fq r).1 ≤ 0 ↔ ¬ 0 < r := by
  have h := Rat.lt_iff 0 r
  have e1 : (0 : Rat).num = 0 := rfl
  have e2 : (0 : Rat).den = 1 := rfl
  rw [e1, e2] at h
  show r.num ≤ 0 ↔ _
  rw [h]
  omega
theorem frs_tup {l : List Rat} (h : l.length < 1000000) : tupD 3 (frsD l) := by
  refine ⟨by rw [List.length_map]; exact h, fun x m => ?_⟩
  obtain ⟨r, _, rfl⟩ := List.mem_map.mp m
  refine ⟨by simp, fun y n => ?_⟩
  simp only [List.mem_cons, List.not_mem_nil, or_false] at n
  rcases n with rfl | rfl <;> trivial
/-! ### the rows of two moves -/
theorem sumL_eq (l : List Rat) : sumL l = sumR l := by
  have gen : ∀ (l : List Rat) (a : Rat), l.foldl (· + ·) a = a + sumR l := fun l => by
    induction l with
    | nil => exact fun a => (Rat.add_zero a).symm
    | cons r l ih =>
      intro a
      rw [List.foldl_cons, ih, sumR, Rat.add_assoc]
  unfold sumL
  rw [gen, Rat.zero_add]
theorem rowAt_mem {tab : List (List (Nat × Rat))} {k : Nat} (h : k < tab.length) : rowAt tab k ∈ tab := by
  have e := List.getElem?_eq_getElem h
  rw [rowAt_at e]
  exact List.getElem_mem h
theorem sumR_scale (c : Rat) : ∀ l : List (Nat × Rat), sumR ((l.map fun f => (f.1, c * f.2)).map fun f => f.2) = c * sumR (l.map fun f => f.2)
  | [] => (Rat.mul_zero c).symm
  | f :: l => by
    have ih := sumR_scale c l
    rw [List.map_cons, List.map_cons, List.map_cons, sumR, sumR, ih, Rat.mul_add]
theorem prods_sum {tab : List (List (Nat × Rat))} : ∀ row : List (Nat × Rat), (∀ e ∈ row, sumR ((rowAt tab e.1).map fun f => f.2) = 1) → sumR ((prodsR tab row).map fun f => f.2) = sumR (row.map fun e => e.2)
  | [], _ => rfl
  | e :: row, h => by
    have e1 : prodsR tab (e :: row) = prodR tab e ++ prodsR tab row := rfl
    rw [e1, List.map_append, sumR_app, prods_sum row fun f m => h f (List.mem_cons_of_mem _ m), List.map_cons, sumR]
    congr 1
    unfold prodR
    rw [sumR_scale, h e List.mem_cons_self, Rat.mul_one]
theorem follow_ok {n : Nat} {t1 t2 : List (List (Nat × Rat))} (h1 : TabL n t1) (h2 : TabL n t2) (hn : n ≤ 16) {row : List (Nat × Rat)} (m : row ∈ t1) : RowOk n (rowR n (behF t2 row)) ∧ (rowR n (behF t2 row)).length ≤ 300 := by
  obtain ⟨r1, r2⟩ := h1.ok row m
  have hat : ∀ e ∈ row, rowAt t2 e.1 ∈ t2 := fun e me => rowAt_mem (by rw [h2.len]; exact (r2 e me).2.2.2)
  have hp : ∀ e ∈ row, 0 < e.2 ∧ ∀ f ∈ rowAt t2 e.1, 0 < f.2 := fun e me => ⟨(r2 e me).2.1, fun f mf => ((h2.ok _ (hat e me)).2 f mf).2.1⟩
  have hpr : ∀ e ∈ prodsR t2 row, Iz 9 9 e.2 ∧ e.1 < n := fun e me => by
    obtain ⟨a, ma, me⟩ := List.mem_flatMap.mp me
    obtain ⟨f, mf, rfl⟩ := List.mem_map.mp me
    obtain ⟨q1, q2, q3, q4⟩ := (h2.ok _ (hat a ma)).2 f mf
    obtain ⟨p1, p2, p3, p4⟩ := r2 a ma
    exact ⟨SM.Iz.mul (iz_part p1 p2 p3) (iz_part q1 q2 q3), q4⟩
  have lp : (prodsR t2 row).length ≤ 90000 := by
    have := flat_len (F := prodR t2) (c := 300) (l := row) fun e me => by
      unfold prodR
      rw [List.length_map]
      exact (h2.ok _ (hat e me)).1
    have h3 : 300 * row.length ≤ 300 * 300 := Nat.mul_le_mul_left _ r1
    exact Nat.le_trans this h3
  have hb : ∀ k, Iz 9 810000 (behF t2 row k) := fun k => by
    rw [← colR_prods]
    exact (colR_iz (k := k) (prodsR t2 row) fun e me => (hpr e me).1).le (by omega)
  have c9 : (9 : Nat) < 2 ^ 1900 := Nat.lt_of_lt_of_le (by decide : 9 < 2 ^ 4) (Nat.pow_le_pow_right (by decide) (by decide))
  refine ⟨⟨?_, fun e me => (row_mem me).1, fun e me => ?_, fun e me => ?_, fun i => ?_, ?_⟩, Nat.le_trans (row_len _ _) (by omega)⟩
  · unfold rowR
    rw [List.pairwise_map]
    exact List.pairwise_lt_range.filter _
  · obtain ⟨_, e2, e3⟩ := row_mem me
    rw [e2]
    have h0 := behF_nonneg (k := e.1) hp
    exact (Rat.lt_iff_le_and_ne).mpr ⟨h0, fun z => e3 z.symm⟩
  · rw [(row_mem me).2.1]
    exact sm_izs (hb _) (by decide) c9 (Nat.lt_of_lt_of_le (by decide : 810000 < 2 ^ 20) (Nat.pow_le_pow_right (by decide) (by decide)))
  · rw [sumL_eq]
    have hz := sumR_iz (D := 9) (X := 810000) (((rowR n (behF t2 row)).take i).map (·.2)) fun r mr => by
      obtain ⟨e, me, rfl⟩ := List.mem_map.mp mr
      rw [(row_mem (List.mem_of_mem_take me)).2.1]
      exact hb _
    have ll : (((rowR n (behF t2 row)).take i).map (·.2)).length ≤ 16 := by
      rw [List.length_map]
      exact Nat.le_trans (List.length_take_le' _ _) (Nat.le_trans (row_len _ _) hn)
    exact sm_izs (hz.le (Nat.mul_le_mul_right _ ll)) (by decide) c9 (Nat.lt_of_lt_of_le (by decide : 16 * 810000 < 2 ^ 30) (Nat.pow_le_pow_right (by decide) (by decide)))
  · rw [sumL_eq, sum_row]
    have e1 : (List.range n).map (behF t2 row) = (List.range n).map (colR (prodsR t2 row)) := List.map_congr_left fun k _ => (colR_prods t2 k row).symm
    rw [e1, sum_cols n _ fun e me => (hpr e me).2, prods_sum row fun e me => h2.one _ (hat e me)]
    exact h1.one row m
theorem map_rowAt {n : Nat} {t1 : List (List (Nat × Rat))} (h : t1.length = n) (g : List (Nat × Rat) → List (Nat × Rat)) : (List.range n).map (fun k => g (rowAt t1 k)) = t1.map g := by
  refine List.ext_getElem? fun i => ?_
  rw [List.getElem?_map, List.getElem?_map]
  by_cases hi : i < n
  · rw [List.getElem?_range hi]
    have e := List.getElem?_eq_getElem (show i < t1.length by omega)
    rw [e]
    show some (g (rowAt t1 i)) = some (g t1[i])
    rw [rowAt_at e]
  · rw [List.getElem?_eq_none (by rw [List.length_range]; omega), List.getElem?_eq_none (by omega)]
    rfl
open K04
theorem ok_law {f : Addr} {d : FuncData} (F : Fun K "law" "law" s_law f d) (T : Top K mg) (B : Tb T base) : FnOk P w K mg base CX0 8 f d ["script"] (spLaw T) := by
  refine F.ok sc_law (fun vs H Q E h => ?_) (fun cdv A outer s H vs Q E hr h => ?_)
  · obtain ⟨a, ns, rfl, _⟩ := h
    rfl
  obtain ⟨a, ns, rfl, hS, G, q⟩ := h
  refine ⟨_, (pss_cons (ps_set (i := 1) sc_law.nd rfl (by first | exact .inl rfl | exact .inr rfl) (pe_callB call_abs (by rfl) T.m_abs (by decide +kernel) (pa_cons (pe_call (ok_law_cell T) (hr.mono (by decide)) (by rfl) T.g_law_cell T.F_law_cell.kp T.b_law_cell .nil pass0 (pa_cons (pv 0) (pa_cons pe_int pa_nil))) pa_nil)))
      (pss_cons (ps_asg (pe_call (ok_law_spins T) (hr.mono (by decide)) (by rfl) T.g_law_spins T.F_law_spins.kp T.b_law_spins .nil pass0 (pa_cons (pv 0) (pa_cons pe_int (pa_cons pe_int (pa_cons pe_int pa_nil))))) (pg_tup rfl (pgs_cons (pg_name (i := 2) sc_law.nd rfl (by first | exact .inl rfl | exact .inr rfl)) (pgs_cons (pg_name (i := 3) sc_law.nd rfl (by first | exact .inl rfl | exact .inr rfl)) pgs_nil))))
      (pss_cons (ps_asg (pe_call (ok_law_fractions T) (hr.mono (by decide)) (by rfl) T.g_law_fractions T.F_law_fractions.kp T.b_law_fractions .nil pass0 (pa_cons (pe_callB call_abs (by rfl) T.m_abs (by decide +kernel) (pa_cons (pe_call (ok_law_cell T) (hr.mono (by decide)) (by rfl) T.g_law_cell T.F_law_cell.kp T.b_law_cell .nil pass0 (pa_cons (pv 0) (pa_cons pe_int pa_nil))) pa_nil)) (pa_cons pe_bl pa_nil))) (pg_tup rfl (pgs_cons (pg_name (i := 4) sc_law.nd rfl (by first | exact .inl rfl | exact .inr rfl)) (pgs_cons (pg_name (i := 5) sc_law.nd rfl (by first | exact .inl rfl | exact .inr rfl)) pgs_nil))))
      (C8.pss_cut (ps_if (pt_cmpR op_eq (pe_op op_mod (pv 1) pe_int) pe_int (nomark _)) (pss_cons (ps_set (i := 2) sc_law.nd rfl (by first | exact .inl rfl | exact .inr rfl) (pe_op op_rep (pe_lst (pa_cons pe_int pa_nil)) (pe_op op_add pe_int (pe_op op_mod (pe_op op_fdivZ (pv 1) pe_int) pe_int))))
      (pss_one (ps_set (i := 3) sc_law.nd rfl (by first | exact .inl rfl | exact .inr rfl) (pe_lst (pa_cons (pe_tup (pa_cons pe_int (pa_cons pe_int (pa_cons pe_int pa_nil)))) pa_nil))))) pss_nil)
      (C8.pss_cut (ps_if (pt_cmpR op_eq (pe_op op_mod (pe_op op_fdivZ (pv 1) pe_int) pe_int) pe_int (nomark _)) (pss_one (ps_asg (pe_ix ix_list (pe_lst (pa_cons (pe_tup (pa_cons (pe_tup (pa_cons pe_int (pa_cons pe_int pa_nil))) (pa_cons (pv 5) pa_nil))) (pa_cons (pe_tup (pa_cons (pv 4) (pa_cons (pe_tup (pa_cons (pe_un un_neg pe_int) (pa_cons pe_int pa_nil))) pa_nil))) (pa_cons (pe_tup (pa_cons (pe_tup (pa_cons (pe_un un_neg pe_int) (pa_cons pe_int pa_nil))) (pa_cons (pe_tup (pa_cons pe_int (pa_cons pe_int pa_nil))) pa_nil))) pa_nil)))) (pe_op op_mod (pe_op op_fdivZ (pv 1) pe_int) pe_int) (fun _ _ => rfl)) (pg_tup rfl (pgs_cons (pg_name (i := 4) sc_law.nd rfl (by first | exact .inl rfl | exact .inr rfl)) (pgs_cons (pg_name (i := 5) sc_law.nd rfl (by first | exact .inl rfl | exact .inr rfl)) pgs_nil))))) pss_nil)
      (C8.pss_cut (ps_try_as (i := 7) (tb := fun W => tAsg (tCallS (spDist T) (WE W) (tCons (tMakeS T.C_Spins (spInit T) (WE W) _) _)) (gName 6)) (ts := fun a cls d => wWhen (cls = .ref (adV cls) ∧ d = none ∧ ExcC K (adV cls)) _) (Wout := fun _ _ _ _ => False) rfl rfl sc_law.nd rfl rfl ⟨rfl, by decide, Or.inl T.g_FieldError⟩ takes0 (fun W pn xe tk _ => pss_one (ps_set (i := 6) sc_law.nd rfl (Or.inl rfl) (pe_callS (ok_distribution_of T B) (hr.mono (by decide)) (by rfl) T.g_distribution_of T.F_distribution_of.kp T.b_distribution_of (fun σ => passAt tk σ) (pa_cons (pe_makeS T.mk_Spins (ok_Spins_init T B) (hr.mono (by decide)) (by rfl) T.g_Spins T.b_Spins_init (fun σ => passAt tk σ) (pa_cons (pv 2) (pa_cons (pv 3) pa_nil))) (pa_cons (pv 4) (pa_cons (pv 5) pa_nil)))))) (fun a oe cls d pn hz hf => pss_when fun hq => (pss_cons (ps_if (PW.pt (pw_or (pt_cmpR op_le (pe_ix (r := rIxT K) ix_tup (pv 4) pe_int (fun _ _ => rfl)) pe_int (nomark _)) (pw_or1 (pt_cmpR op_le (pe_ix (r := rIxT K) ix_tup (pv 5) pe_int (fun _ _ => rfl)) pe_int (nomark _))))) (pss_one (ps_ret (pe_callB (r := rIsE K (adV cls) a) (call_isE hq.2.2 (zc_of hq hz) hf) (by rfl) T.m_isinstance (by decide +kernel) (pa_cons (pv 7) (pa_cons (pe_glob (v := .ref T.f_InvalidWeight) (by rfl) T.g_InvalidWeight rfl) pa_nil))))) pss_nil)
      (pss_one (ps_ret (pe_and (pe_callB (r := rIsE K (adV cls) a) (call_isE hq.2.2 (zc_of hq hz) hf) (by rfl) T.m_isinstance (by decide +kernel) (pa_cons (pv 7) (pa_cons (pe_glob (v := .ref T.f_TooLarge) (by rfl) T.g_TooLarge rfl) pa_nil))) (pe_one (pe_cmpR op_gt (pe_callB (r := rLenS K) call_len_seq (by rfl) T.m_len (by decide +kernel) (pa_cons (pv 2) pa_nil)) pe_int (nomark _)))))))))
      (pss_cons (ps_if (PW.pt (pw_or (pt_cmpR op_le (pe_ix ix_tup (pv 4) pe_int (fun _ _ => rfl)) pe_int (nomark _)) (pw_or (pt_cmpR op_le (pe_ix ix_tup (pv 5) pe_int (fun _ _ => rfl)) pe_int (nomark _)) (pw_or1 (pt_cmpR op_gt (pe_callB call_len_seq (by rfl) T.m_len (by decide +kernel) (pa_cons (pv 2) pa_nil)) pe_int (nomark _)))))) (pss_one (ps_ret pe_bl)) pss_nil)
      (pss_cons (ps_set (i := 8) sc_law.nd rfl (by first | exact .inl rfl | exact .inr rfl) (pe_call (ok_law_shares T) (hr.mono (by decide)) (by rfl) T.g_law_shares T.F_law_shares.kp T.b_law_shares .nil pass0 (pa_cons (pe_call (ok_law_weights T) (hr.mono (by decide)) (by rfl) T.g_law_weights T.F_law_weights.kp T.b_law_weights .nil pass0 (pa_cons (pv 2) (pa_cons (pv 3) (pa_cons (pv 4) (pa_cons (pv 5) pa_nil))))) pa_nil)))
      (pss_cons (ps_if (PW.pt (pw_or (pt_not (pt_val (pe_callB call_isi (by rfl) T.m_isinstance (by decide +kernel) (pa_cons (pv 6) (pa_cons (pe_bltn (v := .ty "tuple") (by rfl) T.m_tuple boot_tuple rfl) pa_nil))))) (pw_or (pt_cmpR (op_neD hr.units) (pv 6) (pv 8) (nomark _)) (pw_or1 (pt_not (pt_val (pe_call (ok_law_tuples T 3) (hr.mono (by decide)) (by rfl) T.g_law_tuples T.F_law_tuples.kp T.b_law_tuples .nil pass0 (pa_cons (pv 6) pa_nil)))))))) (pss_one (ps_ret pe_bl)) pss_nil)
      (pss_cons (ps_set (i := 9) sc_law.nd rfl (by first | exact .inl rfl | exact .inr rfl) (pe_callB call_len_seq (by rfl) T.m_len (by decide +kernel) (pa_cons (pv 8) pa_nil)))
      (pss_cons (ps_if (pt_cmpR op_gt (pv 9) pe_int (nomark _)) (pss_one (ps_ret pe_bl)) pss_nil)
      (pss_cons (ps_set (i := 10) sc_law.nd rfl (by first | exact .inl rfl | exact .inr rfl) (pe_call (ok_law_some_table T) (hr.mono (by decide)) (by rfl) T.g_law_some_table T.F_law_some_table.kp T.b_law_some_table .nil pass0 (pa_cons (pe_callB call_abs (by rfl) T.m_abs (by decide +kernel) (pa_cons (pe_call (ok_law_cell T) (hr.mono (by decide)) (by rfl) T.g_law_cell T.F_law_cell.kp T.b_law_cell .nil pass0 (pa_cons (pv 0) (pa_cons pe_int pa_nil))) pa_nil)) (pa_cons (pv 9) pa_nil))))
      (pss_cons (ps_set (i := 11) sc_law.nd rfl (by first | exact .inl rfl | exact .inr rfl) (pe_call (ok_law_some_table T) (hr.mono (by decide)) (by rfl) T.g_law_some_table T.F_law_some_table.kp T.b_law_some_table .nil pass0 (pa_cons (pe_callB call_abs (by rfl) T.m_abs (by decide +kernel) (pa_cons (pe_call (ok_law_cell T) (hr.mono (by decide)) (by rfl) T.g_law_cell T.F_law_cell.kp T.b_law_cell .nil pass0 (pa_cons (pv 0) (pa_cons pe_int pa_nil))) pa_nil)) (pa_cons (pv 9) pa_nil))))
      (pss_cons (ps_set (i := 12) sc_law.nd rfl (by first | exact .inl rfl | exact .inr rfl) (pe_call (ok_law_behind T) (hr.mono (by decide)) (by rfl) T.g_law_behind T.F_law_behind.kp T.b_law_behind .nil pass0 (pa_cons (pv 8) (pa_cons (pv 10) pa_nil))))
      (pss_cons (ps_set (i := 13) sc_law.nd rfl (by first | exact .inl rfl | exact .inr rfl) (pe_call (ok_keeps T B) (hr.mono (by decide)) (by rfl) T.g_keeps T.F_keeps.kp T.b_keeps .nil pass0 (pa_cons (pv 8) (pa_cons (pv 10) pa_nil))))
      (pss_cons (ps_set (i := 14) sc_law.nd rfl (by first | exact .inl rfl | exact .inr rfl) (pe_call (ok_is_balanced T B) (hr.mono (by decide)) (by rfl) T.g_is_balanced T.F_is_balanced.kp T.b_is_balanced .nil pass0 (pa_cons (pv 8) (pa_cons (pv 10) pa_nil))))
      (pss_cons (ps_if (PW.pt (pw_or (pt_cmpR (op_neD hr.units) (pe_call (ok_after T B) (hr.mono (by decide)) (by rfl) T.g_after T.F_after.kp T.b_after .nil pass0 (pa_cons (pv 8) (pa_cons (pv 10) pa_nil))) (pv 12) (nomark _)) (pw_or (pt_not (pt_val (pe_callB call_isi (by rfl) T.m_isinstance (by decide +kernel) (pa_cons (pv 13) (pa_cons (pe_bltn (v := .ty "bool") (by rfl) T.m_bool boot_bool rfl) pa_nil))))) (pw_or1 (pt_not (pt_val (pe_callB call_isi (by rfl) T.m_isinstance (by decide +kernel) (pa_cons (pv 14) (pa_cons (pe_bltn (v := .ty "bool") (by rfl) T.m_bool boot_bool rfl) pa_nil))))))))) (pss_one (ps_ret pe_bl)) pss_nil)
      (pss_cons (ps_if (PW.pt (pw_or (pt_cmpR op_ne (pv 13) (pe_cmpR (op_eqD hr.units) (pv 12) (pv 8) (nomark _)) (nomark _)) (pw_or1 (pt_cmpR op_ne (pv 14) (pe_call (ok_law_balanced T) (hr.mono (by decide)) (by rfl) T.g_law_balanced T.F_law_balanced.kp T.b_law_balanced .nil pass0 (pa_cons (pv 8) (pa_cons (pv 10) pa_nil))) (nomark _))))) (pss_one (ps_ret pe_bl)) pss_nil)
      (pss_cons (ps_set (i := 15) sc_law.nd rfl (by first | exact .inl rfl | exact .inr rfl) (pe_lst pa_nil))
      (pss_cons (ps_for PassesOwn.never rfl (pi_range1 (by rfl) T.m_range (pa_cons (pv 9) pa_nil)) (pg_name (i := 16) sc_law.nd rfl (by first | exact .inl rfl | exact .inr rfl)) (pss_cons (ps_set (i := 17) sc_law.nd rfl (by first | exact .inl rfl | exact .inr rfl) pe_dnewK)
      (pss_cons (ps_for PassesOwn.never rfl (pi_tup (pe_ix ix_tup (pv 10) (pv 16) (fun _ _ => rfl))) (pg_tup rfl (pgs_cons (pg_name (i := 18) sc_law.nd rfl (by first | exact .inl rfl | exact .inr rfl)) (pgs_cons (pg_name (i := 19) sc_law.nd rfl (by first | exact .inl rfl | exact .inr rfl)) pgs_nil))) (pss_one (ps_for PassesOwn.never rfl (pi_tup (pe_ix ix_tup (pv 11) (pv 18) (fun _ _ => rfl))) (pg_tup rfl (pgs_cons (pg_name (i := 20) sc_law.nd rfl (by first | exact .inl rfl | exact .inr rfl)) (pgs_cons (pg_name (i := 21) sc_law.nd rfl (by first | exact .inl rfl | exact .inr rfl)) pgs_nil))) (pss_one (ps_dput (hu_of hr) (pv 17) (pv 20) (pe_call (ok_law_add T) (hr.mono (by decide)) (by rfl) T.g_law_add T.F_law_add.kp T.b_law_add .nil pass0 (pa_cons (pe_dget2 (hu_of hr) (pv 17) (pv 20) (pe_tup (pa_cons pe_int (pa_cons pe_int pa_nil))) ⟨rfl, rfl, rfl, rfl⟩) (pa_cons (pe_call (ok_law_mul T) (hr.mono (by decide)) (by rfl) T.g_law_mul T.F_law_mul.kp T.b_law_mul .nil pass0 (pa_cons (pv 19) (pa_cons (pv 21) pa_nil))) pa_nil))) rfl)))))
      (pss_one (ps_expr (pe_bm PySem.F.plainAttrs_list PySem.F.slot_list_append PySem.F.type_list_append mt_append (pv 15) (pa_cons (pe_call (ok_law_row_of T) (hr.mono (by decide)) (by rfl) T.g_law_row_of T.F_law_row_of.kp T.b_law_row_of .nil pass0 (pa_cons (pv 17) pa_nil)) pa_nil)))))))
      (pss_cons (ps_set (i := 22) sc_law.nd rfl (by first | exact .inl rfl | exact .inr rfl) (pe_call (ok_followed T B) (hr.mono (by decide)) (by rfl) T.g_followed T.F_followed.kp T.b_followed .nil pass0 (pa_cons (pv 10) (pa_cons (pv 11) pa_nil))))
      (pss_one (ps_ret (pe_and (pe_cmpR (op_eqD hr.units) (pv 22) (pe_callTy call_tuple_of (by rfl) T.m_tuple (by decide +kernel) (pa_cons (pv 15) pa_nil)) (nomark _)) (pe_one (pe_call (ok_law_are_rows T) (hr.mono (by decide)) (by rfl) T.g_law_are_rows T.F_law_are_rows.kp T.b_law_are_rows .nil pass0 (pa_cons (pv 22) (pa_cons (pv 9) pa_nil)))))))))))))))))))))))))))), ?_⟩
  refine ⟨_, rfl, a, ns, 0, rfl, hS, cellZ ns 0, rfl, ?_⟩
  have c0 : 0 ≤ (if cellZ ns 0 < 0 then -cellZ ns 0 else cellZ ns 0) := by split <;> omega
  dsimp only [gName]
  generalize (if cellZ ns 0 < 0 then -cellZ ns 0 else cellZ ns 0) = cc at *
  refine ⟨_, rfl, a, ns, 1, 4, 0, rfl, hS, by decide, by decide, fun l1 H1 fb eb fs xs es s1 n1 hl1 nf hf ne he hes dr => ⟨l1, _, rfl, SqT.of hl1, rfl, _, _, rfl, _, _, rfl, rfl, ?_⟩⟩
  have f4 : fs.length ≤ 4 := by have := dr.most; omega
  have e21 := dr.len
  have S1 : Set1 K H H1 fb eb fs xs es := ⟨⟨s1, hf, he, edges_at hes⟩, dr.goodF (by decide), dr.goodE (by omega), by omega, fun st _ => dr.cost (by decide) st⟩
  refine ⟨_, rfl, a, ns, 4, rfl, s1.seq hS, cellZ ns 4, rfl, _, _, rfl, by split <;> omega, fun l2 H2 xa ya x y s2 hl2 hxa hya bx bY px py _ => ⟨l2, _, rfl, SqT.of hl2, rfl, _, _, rfl, _, _, rfl, rfl, ?_⟩⟩
  have S2 := S1.up s2
  dsimp only [gName]
  refine ⟨fun σ H3 => ∃ fb eb fs xs es, σ = [some (.ref a), some (.int cc), some (.ref fb), some (.ref eb), some (.ref xa), some (.ref ya), none, none, none, none, none, none, none, none, none, none, none, none, none, none, none, none, none] ∧ Set1 K H H3 fb eb fs xs es ∧ Ext H2 H3, ?_, ?_⟩
  · refine ⟨_, rfl, _, _, rfl, rfl, (by decide : (0 : Int) < 32), rfl, _, rfl, iteB (fun z1 => ?_) (fun z1 => ⟨fb, eb, fs, xs, es, rfl, S2, Ext.refl _⟩)⟩
    obtain ⟨m, em, hm⟩ : ∃ m : Nat, (6 : Int) + cc.fdiv 32 % 2 = ((m : Nat) : Int) ∧ (m = 6 ∨ m = 7) := by
      obtain e | e : cc.fdiv 32 % 2 = 0 ∨ cc.fdiv 32 % 2 = 1 := by omega
      · exact ⟨6, by rw [e]; rfl, .inl rfl⟩
      · exact ⟨7, by rw [e]; rfl, .inr rfl⟩
    refine ⟨by rw [sizeLine_eq]; simp, fun l0 hl0 => ⟨_, rfl, _, _, rfl, rfl, ⟨by decide, by decide⟩, _, _, rfl, rfl, (by decide : (0 : Int) < 2), _, _, rfl, rfl, l0, ((m : Nat) : Int), [V.int 1], rfl, congrArg V.int em, upd_same, by omega, by omega, by rw [sizeLine_eq]; show 1 * Int.toNat ((m : Nat) : Int) ≤ _; omega, fun f0 hf0 => ⟨sl_of (by simp), fun t0 ht0 => ⟨sl_of (by simp), fun e0 he0 => ?_⟩⟩⟩⟩
    have erep : (List.replicate (Int.toNat ((m : Nat) : Int)) [V.int 1]).flatten = (List.replicate m (1 : Int)).map V.int := by
      rw [Int.toNat_natCast]
      rcases hm with e | e <;> rw [e] <;> rfl
    have x1 := ext_upd (o := .lst [V.int 1]) hl0
    generalize upd H2 l0 (.lst [V.int 1]) = J1 at *
    have x2 := ext_upd (o := .lst (List.replicate (Int.toNat ((m : Nat) : Int)) [V.int 1]).flatten) hf0
    have k2 : upd J1 f0 (.lst (List.replicate (Int.toNat ((m : Nat) : Int)) [V.int 1]).flatten) f0 = some (.lst ((List.replicate m (1 : Int)).map V.int)) := by rw [upd_same, erep]
    generalize upd J1 f0 (.lst (List.replicate (Int.toNat ((m : Nat) : Int)) [V.int 1]).flatten) = J2 at *
    have x3 := ext_upd (o := .tup [V.int 0, .int 1, .int 2]) ht0
    have k3 : upd J2 t0 (.tup [V.int 0, .int 1, .int 2]) t0 = some (.tup [V.int 0, .int 1, .int 2]) := upd_same
    generalize upd J2 t0 (.tup [V.int 0, .int 1, .int 2]) = J3 at *
    have x4 := ext_upd (o := .lst [V.ref t0]) he0
    have k4 : upd J3 e0 (.lst [V.ref t0]) e0 = some (.lst [V.ref t0]) := upd_same
    generalize upd J3 e0 (.lst [V.ref t0]) = J4 at *
    have x9 := ((x1.trans x2).trans x3).trans x4
    have lr : (List.replicate m (1 : Int)).length = m := List.length_replicate
    have gfm : goodF (List.replicate m 1) := by rcases hm with e | e <;> rw [e] <;> exact ⟨by decide, by decide, by decide⟩
    have gem : goodE (List.replicate m (1 : Int)).length [(0, 1, 2)] := by
      refine ⟨by decide, fun e me => ?_, fun i x y h h2 => ?_⟩
      · rw [List.mem_singleton.mp me, lr]
        exact ⟨by decide, by decide, by show (1 : Int) < ((m : Nat) : Int); omega, by decide, by decide, by decide⟩
      · match i with
        | 0 => cases h2
        | i + 1 => cases h
    exact ⟨f0, e0, List.replicate m 1, [V.ref t0], [(0, 1, 2)], rfl, ⟨⟨S2.m.ext.trans x9, (x3.trans x4).lst k2, k4, edges_at (.cons ⟨t0, rfl, x4.at k3⟩ .nil)⟩, gfm, gem, by omega, fun st _ => Nat.le_trans (cost_le (c := 1) (fun f mf => by rw [(List.mem_replicate.mp mf).2]; decide) (fun e me => by rw [List.mem_singleton.mp me]; decide) st) (by rw [lr]; show 9 * 1 + 1 * m ≤ 62; omega)⟩, x9⟩
  rintro σ H3 ⟨fb, eb, fs, xs, es, rfl, S3, s3⟩
  have hxa3 := s3.tup hxa
  have hya3 := s3.tup hya
  refine ⟨fun σ H4 => ∃ xa ya x y, σ = [some (.ref a), some (.int cc), some (.ref fb), some (.ref eb), some (.ref xa), some (.ref ya), none, none, none, none, none, none, none, none, none, none, none, none, none, none, none, none, none] ∧ Set1 K H H4 fb eb fs xs es ∧ Fr K H4 xa (fq x) ∧ Fr K H4 ya (fq y) ∧ Bz 4 x ∧ Bz 4 y, ?_, ?_⟩
  · refine ⟨_, rfl, _, _, rfl, rfl, ⟨by decide, by decide⟩, _, _, rfl, rfl, (by decide : (0 : Int) < 8), rfl, _, rfl, iteB (fun z1 => ?_) (fun z1 => ⟨xa, ya, x, y, rfl, S3, hxa3, hya3, bx, bY⟩)⟩
    refine ⟨sl2, fun t1 h1 => ⟨_, rfl, sl2, fun t2 h2 => ⟨_, rfl, 1, rfl, sl2, fun t3 h3 => ⟨sl2, fun t4 h4 => ?_⟩⟩⟩⟩
    refine ⟨3, rfl, sl2, fun t5 h5 => ⟨sl2, fun t6 h6 => ⟨sl2, fun t7 h7 => ⟨sl_of (by simp), fun t8 h8 => ?_⟩⟩⟩⟩
    have x1 := ext_upd (o := .tup [.int 0, .int 1]) h1
    have k1 : upd H3 t1 (.tup [.int 0, .int 1]) t1 = some (.tup [.int 0, .int 1]) := upd_same
    generalize upd H3 t1 (.tup [.int 0, .int 1]) = J1 at *
    have x2 := ext_upd (o := .tup [.ref t1, .ref ya]) h2
    have k2 : upd J1 t2 (.tup [.ref t1, .ref ya]) t2 = some (.tup [.ref t1, .ref ya]) := upd_same
    generalize upd J1 t2 (.tup [.ref t1, .ref ya]) = J2 at *
    have x3 := ext_upd (o := .tup [.int (-1), .int 2]) h3
    have k3 : upd J2 t3 (.tup [.int (-1), .int 2]) t3 = some (.tup [.int (-1), .int 2]) := upd_same
    generalize upd J2 t3 (.tup [.int (-1), .int 2]) = J3 at *
    have x4 := ext_upd (o := .tup [.ref xa, .ref t3]) h4
    have k4 : upd J3 t4 (.tup [.ref xa, .ref t3]) t4 = some (.tup [.ref xa, .ref t3]) := upd_same
    generalize upd J3 t4 (.tup [.ref xa, .ref t3]) = J4 at *
    have x5 := ext_upd (o := .tup [.int (-3), .int 1]) h5
    have k5 : upd J4 t5 (.tup [.int (-3), .int 1]) t5 = some (.tup [.int (-3), .int 1]) := upd_same
    generalize upd J4 t5 (.tup [.int (-3), .int 1]) = J5 at *
    have x6 := ext_upd (o := .tup [.int 0, .int 1]) h6
    have k6 : upd J5 t6 (.tup [.int 0, .int 1]) t6 = some (.tup [.int 0, .int 1]) := upd_same
    generalize upd J5 t6 (.tup [.int 0, .int 1]) = J6 at *
    have x7 := ext_upd (o := .tup [.ref t5, .ref t6]) h7
    have k7 : upd J6 t7 (.tup [.ref t5, .ref t6]) t7 = some (.tup [.ref t5, .ref t6]) := upd_same
    generalize upd J6 t7 (.tup [.ref t5, .ref t6]) = J7 at *
    have x8 := ext_upd (o := .lst [.ref t2, .ref t4, .ref t7]) h8
    have k8 : upd J7 t8 (.lst [.ref t2, .ref t4, .ref t7]) t8 = some (.lst [.ref t2, .ref t4, .ref t7]) := upd_same
    generalize upd J7 t8 (.lst [.ref t2, .ref t4, .ref t7]) = J8 at *
    have e18 := (((((x2.trans x3).trans x4).trans x5).trans x6).trans x7).trans x8
    have e08 := x1.trans e18
    have g2 := (((((x3.trans x4).trans x5).trans x6).trans x7).trans x8).at k2
    have g3 := ((((x4.trans x5).trans x6).trans x7).trans x8).at k3
    have g4 := (((x5.trans x6).trans x7).trans x8).at k4
    have g5 := ((x6.trans x7).trans x8).at k5
    have g6 := (x7.trans x8).at k6
    have g7 := x8.at k7
    obtain ⟨tt, pa, qa, x', y', ht, htt, hpa, hqa, bx', bY'⟩ : ∃ (tt pa qa : Addr) (x' y' : Rat), atI [V.ref t2, .ref t4, .ref t7] (cc.fdiv 512 % 3) = some (.ref tt) ∧ J8 tt = some (.tup [.ref pa, .ref qa]) ∧ Fr K J8 pa (fq x') ∧ Fr K J8 qa (fq y') ∧ Bz 4 x' ∧ Bz 4 y' := by
      have : cc.fdiv 512 % 3 = 0 ∨ cc.fdiv 512 % 3 = 1 ∨ cc.fdiv 512 % 3 = 2 := by omega
      rcases this with h | h | h
      · exact ⟨t2, t1, ya, 0, y, by rw [h]; rfl, g2, SqT.of (e18.at k1), e08.tup hya3, ⟨by decide, by decide⟩, bY⟩
      · exact ⟨t4, xa, t3, x, ⟨-1, 2, by decide, by decide⟩, by rw [h]; rfl, g4, e08.tup hxa3, SqT.of g3, bx, ⟨by decide, by decide⟩⟩
      · exact ⟨t7, t5, t6, -3, 0, by rw [h]; rfl, g7, SqT.of g5, SqT.of g6, ⟨by decide, by decide⟩, ⟨by decide, by decide⟩⟩
    refine ⟨_, rfl, _, _, rfl, rfl, ⟨by decide, by decide⟩, _, _, rfl, rfl, (by decide : (0 : Int) < 3), t8, _, _, .ref tt, rfl, rfl, SqL.of k8, ht, tt, _, rfl, SqT.of htt, rfl, _, _, rfl, _, _, rfl, rfl, ?_⟩
    exact ⟨pa, qa, x', y', rfl, S3.up e08, hpa, hqa, bx', bY'⟩
  clear hxa hya hxa3 hya3 px py bx bY S1 S2 hf he hes dr s1 s2 s3 hl1 hl2
  rintro σ H4 ⟨xa, ya, x, y, rfl, S4, hxa, hya, bx, bY⟩
  have f1 := S4.gf.1
  have l7 := S4.l7
  have pow : ∃ D X : Nat, D ≠ 0 ∧ D < 2 ^ 1900 ∧ 256 * X < 2 ^ 1900 ∧ (0 < x → 0 < y → ∀ r ∈ wtL fs es x y, Iz D X r ∧ 0 < r) ∧ X ≤ 2 ^ 552 := by
    by_cases px : 0 < x
    · by_cases py : 0 < y
      · obtain ⟨h1, h2⟩ := wD_ok bx bY px py
        refine ⟨_, 2 ^ 552, h1, h2, ?_, fun _ _ => wt_izD bx bY px py l7 S4.cost, Nat.le_refl _⟩
        rw [show (256 : Nat) = 2 ^ 8 from rfl, ← Nat.pow_add]
        exact Nat.pow_lt_pow_right (by decide) (by decide)
      · exact ⟨1, 0, by decide, Nat.lt_of_lt_of_le (by decide : 1 < 2 ^ 1) (Nat.pow_le_pow_right (by decide) (by decide)), Nat.lt_of_lt_of_le (by decide : 256 * 0 < 2 ^ 1) (Nat.pow_le_pow_right (by decide) (by decide)), fun _ h => absurd h py, Nat.zero_le _⟩
    · exact ⟨1, 0, by decide, Nat.lt_of_lt_of_le (by decide : 1 < 2 ^ 1) (Nat.pow_le_pow_right (by decide) (by decide)), Nat.lt_of_lt_of_le (by decide : 256 * 0 < 2 ^ 1) (Nat.pow_le_pow_right (by decide) (by decide)), fun h => absurd h px, Nat.zero_le _⟩
  obtain ⟨D, X, hD, hD2, hX, hW, hX5⟩ := pow
  refine ⟨fun σ H5 => ∃ t zs y7, σ = [some (.ref a), some (.int cc), some (.ref fb), some (.ref eb), some (.ref xa), some (.ref ya), some (.ref t), y7, none, none, none, none, none, none, none, none, none, none, none, none, none, none, none] ∧ Ext H4 H5 ∧ 0 < x ∧ 0 < y ∧ fs.length ≤ 6 ∧ SqT K H5 t zs ∧ FrsV K H5 zs (shL fs es x y), ?_, ?_⟩
  · refine ⟨_, rfl, _, rfl, fun sp dx hx hdx hne => init_at T (fs := fs) (es := es) (.inl (SqL.of S4.m.f)) (.inl (SqL.of S4.m.e)) S4.m.ee (by have := S4.ge.1; omega) (by omega) (G.ext S4.m.ext) S4.gf S4.ge hx hdx (fun H6 s6 hsp => ⟨rfl, ?_⟩)⟩
    have hx6 := s6.tup hxa
    have hy6 := s6.tup hya
    have S6 := S4.up s6
    refine ⟨_, rfl, _, rfl, sp, xa, ya, fs, es, x, y, D, X, rfl, hsp, hx6, hy6, bx.sm (by decide), bY.sm (by decide), sm12_of bx, sm12_of bY, by omega, fun st m => Nat.le_trans (S4.cost st m) (by decide), hD, hD2, hX, fun px py _ => hW px py, G.ext S6.m.ext, fun px py l6 t H7 zs s7 ht hz => ?_, fun hn H7 s7 => ?_, fun px py l6 H7 s7 => ?_⟩
    · exact ⟨t, zs, none, rfl, s6.trans s7, px, py, l6, ht, hz⟩
    · refine ⟨true, T.xm_InvalidWeight, fun _ a0 ha0 => ⟨⟨rfl, rfl, T.ec_InvalidWeight⟩, ?_⟩, fun z => Bool.noConfusion z⟩
      have hx7 := s7.tup hx6
      have hy7 := s7.tup hy6
      refine ⟨_, rfl, xa, _, _, _, rfl, rfl, hx7, atI_nat (j := 0) rfl, _, _, rfl, rfl, _, rfl, iteB (fun z => ?_) (fun z => ?_)⟩
      · exact ⟨_, rfl, _, .ref T.f_InvalidWeight, true, rfl, fun u r => r, T.ki_InvalidWeight, q _⟩
      · have px : 0 < x := Decidable.byContradiction fun h => of_decide_eq_false z ((numpos x).mpr h)
        refine ⟨_, rfl, ya, _, _, _, rfl, rfl, hy7, atI_nat (j := 0) rfl, _, _, rfl, rfl, _, rfl, iteB (fun z2 => ?_) (fun z2 => ?_)⟩
        · exact ⟨_, rfl, _, .ref T.f_InvalidWeight, true, rfl, fun u r => r, T.ki_InvalidWeight, q _⟩
        · exact absurd ⟨px, Decidable.byContradiction fun h => of_decide_eq_false z2 ((numpos y).mpr h)⟩ hn
    · refine ⟨true, T.xm_TooLarge, fun _ a0 ha0 => ⟨⟨rfl, rfl, T.ec_TooLarge⟩, ?_⟩, fun z => Bool.noConfusion z⟩
      have hx7 := s7.tup hx6
      have hy7 := s7.tup hy6
      refine ⟨_, rfl, xa, _, _, _, rfl, rfl, hx7, atI_nat (j := 0) rfl, _, _, rfl, rfl, _, rfl, iteB (fun z => absurd px ((numpos x).mp (of_decide_eq_true z))) (fun _ => ?_)⟩
      refine ⟨_, rfl, ya, _, _, _, rfl, rfl, hy7, atI_nat (j := 0) rfl, _, _, rfl, rfl, _, rfl, iteB (fun z => absurd py ((numpos y).mp (of_decide_eq_true z))) (fun _ => ?_)⟩
      refine ⟨_, rfl, _, .ref T.f_TooLarge, true, rfl, fun u r => r, T.ki_TooLarge, _, rfl, iteT ⟨_, rfl, fb, _, rfl, .inl (SqL.of (S6.up s7).m.f), _, _, rfl, rfl, ?_⟩⟩
      show Q (V.bl (decide ((6 : Int) < (((fs.map V.int).length : Nat) : Int)))) _
      rw [List.length_map, decide_eq_true (show (6 : Int) < ((fs.length : Nat) : Int) by omega)]
      exact q _
  rintro σ H5 ⟨t, zs, y7, rfl, s5, px, py, l6, ht, hz⟩
  have hxa5 := s5.tup hxa
  have hya5 := s5.tup hya
  have S5 := S4.up s5
  refine ⟨_, rfl, xa, _, _, _, rfl, rfl, hxa5, atI_nat (j := 0) rfl, _, _, rfl, rfl, _, rfl, iteB (fun z => absurd px ((numpos x).mp (of_decide_eq_true z))) (fun _ => ?_)⟩
  refine ⟨_, rfl, ya, _, _, _, rfl, rfl, hya5, atI_nat (j := 0) rfl, _, _, rfl, rfl, _, rfl, iteB (fun z => absurd py ((numpos y).mp (of_decide_eq_true z))) (fun _ => ?_)⟩
  refine ⟨_, rfl, fb, _, rfl, .inl (SqL.of S5.m.f), _, _, rfl, rfl, _, rfl, iteB (fun z => ?_) (fun _ => ?_)⟩
  · have z : (6 : Int) < (((fs.map V.int).length : Nat) : Int) := of_decide_eq_true z
    rw [List.length_map] at z
    omega
  have nx : x ≠ 0 := fun h => Rat.lt_irrefl (h ▸ px)
  have ny : y ≠ 0 := fun h => Rat.lt_irrefl (h ▸ py)
  have lW : (wtL fs es x y).length = 2 ^ fs.length := by unfold wtL; rw [List.length_map, length_states]
  have l64 : 2 ^ fs.length ≤ 64 := Nat.pow_le_pow_right (by decide : 0 < 2) l6
  have l0 : 0 < 2 ^ fs.length := Nat.two_pow_pos _
  have hWne : wtL fs es x y ≠ [] := fun e => by
    rw [e] at lW
    simp at lW
    omega
  obtain ⟨M, hM00, hMX, hden⟩ := shares_den hD (hW px py)
  have hM0 := hM00 hWne
  have hM5 : M ≤ 2 ^ 558 := by
    refine Nat.le_trans hMX ?_
    rw [lW]
    refine Nat.le_trans (Nat.mul_le_mul l64 hX5) ?_
    rw [show (64 : Nat) = 2 ^ 6 from rfl, ← Nat.pow_add]
    exact Nat.pow_le_pow_right (by decide) (by decide)
  refine ⟨_, rfl, _, rfl, _, rfl, _, rfl, fb, eb, xa, ya, fs, xs, es, x, y, rfl, SqL.of S5.m.f, SqL.of S5.m.e, S5.m.ee, S5.gf, S5.ge, hxa5, hya5, sm12_of bx, sm12_of bY, nx, ny, by omega, fun st hm => Nat.le_trans (S5.cost st hm) (by decide), fun wl H6 ws s6 nwl hwl hws => ?_⟩
  refine ⟨wl, ws, wtL fs es x y, D, X, rfl, hwl, hws, hW px py, hWne, by omega, hD, hD2, hX, fun sh H7 ys s7 hsh hys => ?_⟩
  have s57 := s6.trans s7
  have ht7 := s57.tup ht
  have hz7 := frs_up s57 hz
  have eSh : (wtL fs es x y).map (fun r => r / sumR (wtL fs es x y)) = shL fs es x y := rfl
  rw [eSh] at hys hden
  have lS : (shL fs es x y).length = 2 ^ fs.length := by
    rw [← eSh, List.length_map, lW]
  have hGH := (S5.m.ext.trans s57)
  have hS7 := hGH.seq hS
  clear hW hX hMX hws hwl nwl hWne lW hM00
  generalize shL fs es x y = ss at *
  obtain ⟨n, hn⟩ : ∃ n, n = 2 ^ fs.length := ⟨_, rfl⟩
  rw [← hn] at lS l64 l0
  have ly := hys.length
  refine ⟨_, rfl, _, _, _, _, _, rfl, .ty _, sqt_ty ht7, kit_ty (r := true) (by decide +kernel), _, rfl, iteF ?_⟩
  refine ⟨_, rfl, _, rfl, frsD ss, frsD ss, frs_dpT ht7 hz7, frs_dpT hsh hys, (gd_frsD _).sh, (gd_frsD _).sh, ?_⟩
  rw [eqv_self (gd_frsD _)]
  refine ⟨_, rfl, iteF ?_⟩
  refine ⟨_, rfl, _, frsD ss, rfl, frs_dpT ht7 hz7, frs_tup (by omega), fun H8 s8 => ⟨_, rfl, iteF ?_⟩⟩
  have x8 := s8.ext
  have hsh8 := x8.tup hsh
  have hys8 := frs_up x8 hys
  have hS8 := x8.seq hS7
  have hGH8 := hGH.trans x8
  clear ht hz hsh hys hS7 hGH ht7 hz7 S5 hxa5 hya5 S4 hxa hya
  refine ⟨_, rfl, sh, ys, rfl, .inr hsh8, ?_⟩
  dsimp only [gName]
  rw [ly, lS]
  refine ⟨_, rfl, _, _, rfl, rfl, _, rfl, iteB (fun z => q _) (fun z => ?_)⟩
  have n16 : n ≤ 16 := by
    have : ¬ (16 : Int) < ((n : Nat) : Int) := of_decide_eq_false z
    omega
  clear hD hD2 hX5
  have G8 := G.ext hGH8
  refine ⟨_, rfl, a, ns, 5, rfl, hS8, cellZ ns 5, rfl, _, rfl, _, n, rfl, by split <;> omega, n16, ⟨fs.length, hn⟩, G8, fun f1 H9 ts1 tab1 s9 hf1 ht1 T1 => ?_⟩
  have hS9 := s9.seq hS8
  refine ⟨_, rfl, a, ns, 6, rfl, hS9, cellZ ns 6, rfl, _, rfl, _, n, rfl, by split <;> omega, n16, ⟨fs.length, hn⟩, G8.ext s9, fun f2 H10 ts2 tab2 s10 hf2 ht2 T2 => ?_⟩
  have hf1 := s10.tup hf1
  have ht1 := rows_up s10 ht1
  have hsh10 := (s9.trans s10).tup hsh8
  have hys10 := frs_up (s9.trans s10) hys8
  have hGH10 := hGH8.trans (s9.trans s10)
  clear hS9 hS8 hsh8 hys8 hGH8 G8 s9 s10
  have ok1 : TabOk 3 ss.length tab1 := by rw [lS]; exact T1.ok
  have l1 : tab1.length = ss.length := by rw [lS]; exact T1.len
  have b3 : M * 3 < 2 ^ 700 := Nat.lt_of_le_of_lt (Nat.mul_le_mul hM5 (by decide : 3 ≤ 2 ^ 2)) (by rw [← Nat.pow_add]; exact Nat.pow_lt_pow_right (by decide) (by decide))
  have p700 : ∀ {k : Nat}, k < 2 ^ 700 → k < 2 ^ 1900 := fun h => Nat.lt_of_lt_of_le h (Nat.pow_le_pow_right (by decide) (by decide))
  have b3b : 2 ^ 20 * (M * 3) < 2 ^ 1900 := Nat.lt_of_lt_of_le (Nat.mul_lt_mul_of_pos_left b3 (by decide)) (by rw [← Nat.pow_add]; exact Nat.pow_le_pow_right (by decide) (by decide))
  have bM : M < 2 ^ 1900 := p700 (Nat.lt_of_le_of_lt (Nat.le_mul_of_pos_right M (by decide)) b3)
  have b33 : (3 : Nat) < 2 ^ 1900 := Nat.lt_of_lt_of_le (by decide : 3 < 2 ^ 2) (Nat.pow_le_pow_right (by decide) (by decide))
  refine ⟨_, rfl, _, rfl, sh, f1, ys, ts1, ss, tab1, M, 3, rfl, hsh10, hys10, hf1, ht1, l1, hden, ok1, hM0, by decide, b3b, by omega, by omega, fun mv H11 zm s11 hmv hzm => ?_⟩
  refine ⟨_, rfl, _, rfl, sh, f1, ys, ts1, ss, tab1, M, 3, rfl, s11.tup hsh10, frs_up s11 hys10, s11.tup hf1, rows_up s11 ht1, l1, hden, ok1, hM0, by decide, p700 b3, by omega, G.ext (hGH10.trans s11), fun H12 s12 => ?_⟩
  have t12 := s11.trans s12
  refine ⟨_, rfl, _, rfl, sh, f1, ys, ts1, ss, tab1, M, 3, rfl, t12.tup hsh10, frs_up t12 hys10, t12.tup hf1, rows_up t12 ht1, l1, hden, ok1, T1.nd, hM0, by decide, bM, b33, by omega, G.ext (hGH10.trans t12), fun H13 ev s13 hev => ?_⟩
  have t13 := t12.trans s13
  refine ⟨_, rfl, _, rfl, sh, f1, ys, ts1, ss, tab1, M, 3, rfl, t13.tup hsh10, frs_up t13 hys10, t13.tup hf1, rows_up t13 ht1, l1, hden, ok1, hM0, by decide, p700 b3, by omega, G.ext (hGH10.trans t13), fun af H14 za s14 haf hza => ?_⟩
  have t14 := t13.trans s14
  have u14 := (s12.trans s13).trans s14
  refine ⟨_, rfl, frsD _, frsD _, frs_dpT haf hza, frs_dpT (u14.tup hmv) (frs_up u14 hzm), (gd_frsD _).sh, (gd_frsD _).sh, ?_⟩
  rw [eqv_self (gd_frsD _)]
  refine ⟨_, rfl, iteF ?_⟩
  refine ⟨_, rfl, _, _, _, _, _, rfl, .ty _, .base (.bl _), kit_ty (r := true) (by decide +kernel), _, rfl, iteF ?_⟩
  refine ⟨_, rfl, _, _, _, _, _, rfl, .ty _, .base (.bl _), kit_ty (r := true) (by decide +kernel), _, rfl, iteF ?_⟩
  refine ⟨_, rfl, _, rfl, _, rfl, frsD _, frsD _, frs_dpT (u14.tup hmv) (frs_up u14 hzm), frs_dpT (t14.tup hsh10) (frs_up t14 hys10), (gd_frsD _).sh, (gd_frsD _).sh, ?_⟩
  rw [eqv_frs]
  refine ⟨rfl, _, rfl, iteB (fun z => absurd z (by simp)) (fun _ => ?_)⟩
  refine ⟨_, rfl, _, rfl, _, rfl, sh, f1, ys, ts1, ss, tab1, M, 3, rfl, t14.tup hsh10, frs_up t14 hys10, t14.tup hf1, rows_up t14 ht1, l1, hden, ok1, T1.nd, hM0, by decide, bM, b33, by omega, fun H15 ev2 s15 hev2 => ?_⟩
  obtain rfl : ev = ev2 := Bool.eq_iff_iff.mpr (hev.trans hev2.symm)
  refine ⟨rfl, _, rfl, iteB (fun z => absurd z (by simp)) (fun _ => ?_)⟩
  have t15 := t14.trans s15
  have hf1 := t15.tup hf1
  have ht1 := rows_up t15 ht1
  have hf2 := t15.tup hf2
  have ht2 := rows_up t15 ht2
  have G15 := G.ext (hGH10.trans t15)
  have lt1 := ht1.length
  have lt2 := ht2.length
  have n1 := T1.len
  have n2 := T2.len
  clear hev hev2 hza haf hzm hmv hys10 hsh10 t15 s15 u14 t14 s14 t13 s13 t12 s12 s11 hGH10 b3 p700 b3b bM b33 hM0 hM5 hden
  refine ⟨by rw [sizeLine_eq]; simp, fun rl hrl => ?_⟩
  have x0 := ext_upd (o := .lst []) hrl
  have k0 : upd H15 rl (.lst []) rl = some (.lst []) := upd_same
  dsimp only [gName]
  generalize upd H15 rl (.lst []) = H16 at *
  refine ⟨_, rfl, _, rfl, by omega, by omega, for_range (n := n) (fun k σ HA => (∃ v13 z16 z17 z18 z19 z20 z21 z22, σ = [some (.ref a), some (.int cc), some (.ref fb), some (.ref eb), some (.ref xa), some (.ref ya), some (.ref t), y7, some (.ref sh), some (.int ((n : Nat) : Int)), some (.ref f1), some (.ref f2), some (.ref mv), some v13, some (.bl ev), some (.ref rl), z16, z17, z18, z19, z20, z21, z22]) ∧ Ext H15 HA ∧ ∃ vs, HA rl = some (.lst vs) ∧ Paired (RowV K HA) vs ((List.range k).map fun k => rowR n (behF tab2 (rowAt tab1 k)))) ⟨⟨_, _, _, _, _, _, _, _, rfl⟩, x0, [], k0, .nil⟩ (fun k σ HA hk hP => ?_) (fun σ HA hP => ?_)⟩
  · obtain ⟨⟨v13, z16, z17, z18, z19, z20, z21, z22, rfl⟩, sA, vs, hvs, hrows⟩ := hP
    rw [Int.zero_add]
    dsimp only [gName]
    refine fun dd hdd => ?_
    have y1 := ext_upd (o := .dK []) hdd
    have m1 : upd HA dd (.dK []) dd = some (.dK []) := upd_same
    dsimp only [gName]
    generalize upd HA dd (.dK []) = HB at *
    have hyk := List.getElem?_eq_getElem (show k < ts1.length by omega)
    obtain ⟨row0, hrow, p1, zs1, ev1, hp1, hzs1⟩ := paired_at ht1 hyk
    have erw := rowAt_at hrow
    have hrm := List.mem_of_getElem? hrow
    obtain ⟨r1, r2⟩ := T1.ok _ hrm
    have lz1 := hzs1.length
    have sAB := sA.trans y1
    refine ⟨_, rfl, _, rfl, f1, ts1, ((k : Nat) : Int), .ref p1, rfl, rfl, sAB.tup hf1, atI_nat (ev1 ▸ hyk), p1, rfl, ⟨_, sAB.tup hp1⟩, for_tup (xs := zs1) (fun i σ HC => (∃ z18 z19 z20 z21 z22, σ = [some (.ref a), some (.int cc), some (.ref fb), some (.ref eb), some (.ref xa), some (.ref ya), some (.ref t), y7, some (.ref sh), some (.int ((n : Nat) : Int)), some (.ref f1), some (.ref f2), some (.ref mv), some v13, some (.bl ev), some (.ref rl), some (.int ((k : Nat) : Int)), some (.ref dd), z18, z19, z20, z21, z22]) ∧ Ext HA HC ∧ ∃ kv, HC dd = some (.dK kv) ∧ KvsG (intR K) HC kv (addAll [] (prodsR tab2 (row0.take i)))) ⟨⟨_, _, _, _, _, rfl⟩, y1, [], m1, .nil⟩ (fun i σ HC _ h => (sA.trans h.2.1).tup hp1) (fun i x1 σ HC hi hP2 => ?_) (fun σ HC hP2 => ?_)⟩
    · obtain ⟨⟨z18, z19, z20, z21, z22, rfl⟩, sC, kv, hdC, hkC⟩ := hP2
      obtain ⟨⟨md, c⟩, hei, a3, wv, rfl, ha3, c5, rfl, hc5⟩ := paired_at hzs1 hi
      obtain ⟨q1, q2, q3, q4⟩ := r2 _ (List.mem_of_getElem? hei)
      have mdl : md < n := q4
      have sAC := sA.trans sC
      refine ⟨a3, _, rfl, sAC.tup ha3, rfl, _, _, rfl, _, _, rfl, rfl, ?_⟩
      dsimp only [gName]
      have hym := List.getElem?_eq_getElem (show md < ts2.length by omega)
      obtain ⟨row2, hrow2, p2, zs2, ev2, hp2, hzs2⟩ := paired_at ht2 hym
      have erw2 := rowAt_at hrow2
      obtain ⟨r3, r4⟩ := T2.ok _ (List.mem_of_getElem? hrow2)
      have lz2 := hzs2.length
      have epr : prodR tab2 (md, c) = row2.map fun f => (f.1, c * f.2) := by
        unfold prodR
        rw [erw2]
      refine ⟨_, rfl, _, rfl, f2, ts2, ((md : Nat) : Int), .ref p2, rfl, rfl, sAC.tup hf2, atI_nat (ev2 ▸ hym), p2, rfl, ⟨_, sAC.tup hp2⟩, for_tup (xs := zs2) (fun j σ HD => (∃ z20 z21 z22, σ = [some (.ref a), some (.int cc), some (.ref fb), some (.ref eb), some (.ref xa), some (.ref ya), some (.ref t), y7, some (.ref sh), some (.int ((n : Nat) : Int)), some (.ref f1), some (.ref f2), some (.ref mv), some v13, some (.bl ev), some (.ref rl), some (.int ((k : Nat) : Int)), some (.ref dd), some (.int ((md : Nat) : Int)), some (.ref c5), z20, z21, z22]) ∧ Ext HA HD ∧ ∃ kv, HD dd = some (.dK kv) ∧ KvsG (intR K) HD kv (addAll [] (prodsR tab2 (row0.take i) ++ (prodR tab2 (md, c)).take j))) ⟨⟨_, _, _, rfl⟩, sC, kv, hdC, by rw [List.take_zero, List.append_nil]; exact hkC⟩ (fun j σ HD _ h => (sA.trans h.2.1).tup hp2) (fun j x2 σ HD hj hP3 => ?_) (fun σ HD hP3 => ?_)⟩
      · obtain ⟨⟨z20, z21, z22, rfl⟩, sD, kv2, hdD, hkD⟩ := hP3
        obtain ⟨⟨en, f⟩, hfj, a4, wv, rfl, ha4, c6, rfl, hc6⟩ := paired_at hzs2 hj
        obtain ⟨g1, g2, g3, g4⟩ := r4 _ (List.mem_of_getElem? hfj)
        have enl : en < n := g4
        have hpj : (prodR tab2 (md, c))[j]? = some (en, c * f) := by
          rw [epr, List.getElem?_map, hfj]
          rfl
        have sAD := sA.trans sD
        refine ⟨a4, _, rfl, sAD.tup ha4, rfl, _, _, rfl, _, _, rfl, rfl, ?_⟩
        dsimp only [gName]
        refine ⟨_, rfl, dd, rfl, (intR K).isD hdD, _, rfl, sl2, fun t3 h3 => ⟨_, (intR K).get (k := en) ((ext_upd h3).keep _ _ hdD (fun _ z => by cases z)) rfl, ?_⟩⟩
        have w3 := ext_upd (o := .tup [.int 0, .int 1]) h3
        obtain ⟨a0, ea0, ha0⟩ := kvsg_get (R := intR K) (H := upd HD t3 (.tup [.int 0, .int 1])) (zv := .ref t3) ⟨t3, rfl, SqT.of upd_same⟩ en (kvsg_up w3 hkD)
        rw [ea0]
        have hkD3 := kvsg_up w3 hkD
        generalize upd HD t3 (.tup [.int 0, .int 1]) = HE at *
        have sAE := sAD.trans w3
        have hem : ∀ e ∈ prodsR tab2 (row0.take i) ++ (prodR tab2 (md, c)).take j, Iz 9 9 e.2 ∧ e.1 < n := fun e me => by
          have hpe : ∀ a ∈ row0, ∀ e ∈ prodR tab2 a, Iz 9 9 e.2 ∧ e.1 < n := fun a ma e me => by
            obtain ⟨f, mf, rfl⟩ := List.mem_map.mp me
            obtain ⟨p1, p2, p3, p4⟩ := r2 a ma
            obtain ⟨q1, q2, q3, q4⟩ := (T2.ok _ (rowAt_mem (show a.1 < tab2.length by omega))).2 f mf
            exact ⟨SM.Iz.mul (iz_part p1 p2 p3) (iz_part q1 q2 q3), q4⟩
          rcases List.mem_append.mp me with me | me
          · obtain ⟨a, ma, me⟩ := List.mem_flatMap.mp me
            exact hpe a (List.mem_of_mem_take ma) e me
          · exact hpe _ (List.mem_of_getElem? hei) e (List.mem_of_mem_take me)
        have hll : (prodsR tab2 (row0.take i) ++ (prodR tab2 (md, c)).take j).length ≤ 91000 := by
          have f1 := flat_len (F := prodR tab2) (c := 300) (l := row0.take i) fun e me => by
            unfold prodR
            rw [List.length_map]
            obtain ⟨_, _, _, p4⟩ := r2 e (List.mem_of_mem_take me)
            exact (T2.ok _ (rowAt_mem (show e.1 < tab2.length by omega))).1
          have f2 : (row0.take i).length ≤ 300 := Nat.le_trans (List.length_take_le' _ _) r1
          have f3 : 300 * (row0.take i).length ≤ 300 * 300 := Nat.mul_le_mul_left _ f2
          have f4 : ((prodR tab2 (md, c)).take j).length ≤ 300 := Nat.le_trans (List.length_take_le' _ _) (by rw [epr, List.length_map]; exact r3)
          have f1 : (prodsR tab2 (row0.take i)).length ≤ 300 * (row0.take i).length := f1
          rw [List.length_append]
          omega
        have c9 : (9 : Nat) < 2 ^ 1900 := Nat.lt_of_lt_of_le (by decide : 9 < 2 ^ 4) (Nat.pow_le_pow_right (by decide) (by decide))
        have smG : Sm (getG (addAll [] (prodsR tab2 (row0.take i) ++ (prodR tab2 (md, c)).take j)) en) := by
          rw [getG_all]
          exact sm_izs ((colR_iz (k := en) _ fun e me => (hem e me).1).le (Nat.mul_le_mul_right _ hll)) (by decide) c9 (Nat.lt_of_lt_of_le (by decide : 91000 * 9 < 2 ^ 30) (Nat.pow_le_pow_right (by decide) (by decide)))
        have smM : Sm (c * f) := sm_izs (SM.Iz.mul (iz_part q1 q2 q3) (iz_part g1 g2 g3)) (by decide) c9 c9
        have lkv := hkD3.length
        have lad := addAll_length (prodsR tab2 (row0.take i) ++ (prodR tab2 (md, c)).take j) []
        have esn : addAll [] (prodsR tab2 (row0.take i) ++ (prodR tab2 (md, c)).take (j + 1)) = addG (addAll [] (prodsR tab2 (row0.take i) ++ (prodR tab2 (md, c)).take j)) en (c * f) := by
          rw [take_snoc hpj, ← List.append_assoc]
          exact addAll_snoc _ _ _
        rw [esn]
        generalize addAll [] (prodsR tab2 (row0.take i) ++ (prodR tab2 (md, c)).take j) = LL at *
        refine ⟨_, rfl, _, rfl, c5, c6, _, _, rfl, sAE.tup hc5, sAE.tup hc6, okA_of (sm_part q1 (by decide) (Nat.lt_of_lt_of_le (by decide : 3 < 2 ^ 2) (Nat.pow_le_pow_right (by decide) (by decide))) q2 q3) (sm_part g1 (by decide) (Nat.lt_of_lt_of_le (by decide : 3 < 2 ^ 2) (Nat.pow_le_pow_right (by decide) (by decide))) g2 g3), fun p2 HF sF nF hpF => ?_⟩
        rw [SM.mulF_fq] at hpF
        refine ⟨a0, p2, _, _, rfl, sF.ext.tup ha0, SqT.of hpF, okA_of smG smM, fun pn HM sM nM hpn => ?_⟩
        rw [SM.addF_fq] at hpn
        have wM := sF.ext.trans sM.ext
        have hdM := (w3.trans wM).keep _ _ hdD (fun _ z => by cases z)
        simp only [List.length_nil] at lad
        refine ⟨_, rfl, _, rfl, dd, _, rfl, (intR K).put (k := en) hdM rfl (sl_lt (by omega)), ⟨_, _, _, rfl⟩, (sD.trans (w3.trans wM)).own hdd, _, upd_same, ?_⟩
        exact kvsg_upd (R := intR K) hdM (kvsg_put (R := intR K) _ ⟨pn, rfl, SqT.of hpn⟩ (kvsg_up wM hkD3))
      · obtain ⟨⟨z20, z21, z22, rfl⟩, sD, kv2, hdD, hkD⟩ := hP3
        have e1 : zs2.length = (prodR tab2 (md, c)).length := by rw [epr, List.length_map, lz2]
        rw [e1, List.take_length] at hkD
        refine ⟨⟨_, _, _, _, _, rfl⟩, sD, kv2, hdD, ?_⟩
        rw [take_snoc hei]
        have e2 : prodsR tab2 (row0.take i ++ [(md, c)]) = prodsR tab2 (row0.take i) ++ prodR tab2 (md, c) := by
          unfold prodsR
          rw [List.flatMap_append]
          simp
        rw [e2]
        exact hkD
    · obtain ⟨⟨z18, z19, z20, z21, z22, rfl⟩, sC, kv, hdC, hkC⟩ := hP2
      rw [lz1, List.take_length] at hkC
      have sAC := sA.trans sC
      have hvsC := sC.lst hvs
      have hkeys : ∀ e ∈ prodsR tab2 row0, e.1 < n := fun e me => by
        obtain ⟨a, ma, me⟩ := List.mem_flatMap.mp me
        obtain ⟨f, mf, rfl⟩ := List.mem_map.mp me
        obtain ⟨_, _, _, p4⟩ := r2 a ma
        exact ((T2.ok _ (rowAt_mem (show a.1 < tab2.length by omega))).2 f mf).2.2.2
      have nn : (keysG ([] : List (Nat × Rat))).Nodup := List.nodup_nil
      have nd5 : (keysG (addAll [] (prodsR tab2 row0))).Nodup := addAll_nodup nn _
      have lt5 : ∀ i ∈ keysG (addAll [] (prodsR tab2 row0)), i < n := fun i hi => by
        rcases keys_all _ _ _ hi with h | ⟨e, me, rfl⟩
        · exact absurd h List.not_mem_nil
        · exact hkeys e me
      refine ⟨_, rfl, .inl ⟨rfl, _, SqL.of hvsC⟩, _, rfl, dd, _, _, n, rfl, dfr_of hdC hkC nd5, ?_, lt5, fun k hk => getG_none hk, G15.ext sAC, fun rv HQ sQ hrv => ?_⟩
      · have := List.Nodup.length_le_of_subset nd5 (l₂ := List.range n) fun k hk => List.mem_range.mpr (lt5 k hk)
        rw [List.length_range] at this
        omega
      · have sCQ := sC.trans sQ
        have hvsQ := sCQ.lst hvs
        have lr := hrows.length
        rw [List.length_map, List.length_range] at lr
        refine ⟨rl, vs, rv, rfl, rfl, hvsQ, sl_lt (by omega), ⟨_, _, _, _, _, _, _, _, rfl⟩, (sA.trans sCQ).own hrl, vs ++ [rv], upd_same, ?_⟩
        have eg : getG (addAll [] (prodsR tab2 row0)) = behF tab2 (rowAt tab1 k) := funext fun i => by rw [getG_all, colR_prods, erw]
        rw [eg] at hrv
        rw [List.range_succ, List.map_append]
        exact rows_upd hvsQ (paired_app (rows_up sCQ hrows) (.cons hrv .nil))
  · obtain ⟨⟨v13, z16, z17, z18, z19, z20, z21, z22, rfl⟩, sA, vs, hvs, hrows⟩ := hP
    rw [map_rowAt n1 (fun row => rowR n (behF tab2 row))] at hrows
    have c9 : (3 * 3 : Nat) < 2 ^ 1900 := Nat.lt_of_lt_of_le (by decide : 3 * 3 < 2 ^ 4) (Nat.pow_le_pow_right (by decide) (by decide))
    refine ⟨_, rfl, _, rfl, f1, f2, ts1, ts2, tab1, tab2, 3, 3, n, rfl, sA.tup hf1, rows_up sA ht1, sA.tup hf2, rows_up sA ht2, by rw [n2]; exact T1.ok, T2.ok, by decide, by decide, c9, by omega, by omega, by omega, G15.ext sA, fun tb zb HB sB htb hzb => ?_⟩
    have hvsB := sB.lst hvs
    refine ⟨_, rfl, _, rfl, rl, vs, rfl, .inl ⟨SqL.of hvsB, fun u1 hu1 => ?_⟩⟩
    have xu := ext_upd (o := .tup vs) hu1
    refine ⟨tabD _, tabD _, tab_dp (xu.tup htb) (rows_up xu hzb), tab_dp (SqT.of upd_same) (rows_up (sB.trans xu) hrows), (gd_tab _).sh, (gd_tab _).sh, ?_⟩
    rw [eqv_self (gd_tab _)]
    refine ⟨_, rfl, iteT ⟨_, rfl, _, rfl, tb, zb, _, n, rfl, xu.tup htb, rows_up xu hzb, by rw [List.length_map]; exact n1, by omega, fun row m => ?_, fun H9 _ => q _⟩⟩
    obtain ⟨r, mr, rfl⟩ := List.mem_map.mp m
    exact follow_ok T1 T2 n16 mr
theorem tabG0 {H : Hp} {p : Addr} (h : H p = some (.tbl #[])) : GxR.TabG H p := ⟨#[], h, by simp [TriplesOk]⟩
end
theorem all_mk {l : PySem.W.OpenLaw} {q : Program} {w : World} {K : PySem.W.Frag} {h : Heap} {mg : Str → Option Value} {fa : Addr} (X : K.In h) (G : h.Ns mainGlobals mg) (hfa : mg "law" = some (.ref fa)) (AT : LamX.AllTab q K h)
    {f0 f1 f2 f3 f4 f5 f6 f7 C_Spins c7 P7 f8 c8 P8 f9 f10 f11 c11 P11 f12 f13 f14 c14 P14 f15 f16 f17 c17 P17 f18 f19 c19 P19 f20 c20 P20 f21 f22 f23 c23 P23 f24 f25 f26 f27 f28 f29 f30 f31 f32 f33 f34 f35 f36 f37 f38 f39 f40 f41 f42 f43 f44 f45 X_FieldError X_InvalidSpins X_InvalidWeight X_TooLarge : Addr}
    {oc0 kV0 dc0 pm0 ct0 cd0 oc1 kV1 dc1 pm1 ct1 cd1 oc2 kV2 dc2 pm2 ct2 cd2 oc3 kV3 dc3 pm3 ct3 cd3 oc4 kV4 dc4 pm4 ct4 cd4 oc5 kV5 dc5 pm5 ct5 cd5 oc6 kV6 dc6 pm6 ct6 cd6 oc7 kV7 dc7 pm7 ct7 ge7 oc8 kV8 dc8 pm8 ct8 ge8 oc9 kV9 dc9 pm9 ct9 cd9 oc10 kV10 dc10 pm10 ct10 cd10 oc11 kV11 dc11 pm11 ct11 ge11 oc12 kV12 dc12 pm12 ct12 cd12 oc13 kV13 dc13 pm13 ct13 cd13 oc14 kV14 dc14 pm14 ct14 ge14 oc15 kV15 dc15 pm15 ct15 cd15 oc16 kV16 dc16 pm16 ct16 cd16 oc17 kV17 dc17 pm17 ct17 ge17 oc18 kV18 dc18 pm18 ct18 cd18 oc19 kV19 dc19 pm19 ct19 ge19 oc20 kV20 dc20 pm20 ct20 ge20 oc21 kV21 dc21 pm21 ct21 cd21 oc22 kV22 dc22 pm22 ct22 cd22 oc23 kV23 dc23 pm23 ct23 ge23 oc24 kV24 dc24 pm24 ct24 cd24 oc25 kV25 dc25 pm25 ct25 cd25 oc26 kV26 dc26 pm26 ct26 cd26 oc27 kV27 dc27 pm27 ct27 cd27 oc28 kV28 dc28 pm28 ct28 cd28 oc29 kV29 dc29 pm29 ct29 cd29 oc30 kV30 dc30 pm30 ct30 cd30 oc31 kV31 dc31 pm31 ct31 cd31 oc32 kV32 dc32 pm32 ct32 cd32 oc33 kV33 dc33 pm33 ct33 cd33 oc34 kV34 dc34 pm34 ct34 cd34 oc35 kV35 dc35 pm35 ct35 cd35 oc36 kV36 dc36 pm36 ct36 cd36 oc37 kV37 dc37 pm37 ct37 cd37 oc38 kV38 dc38 pm38 ct38 cd38 oc39 kV39 dc39 pm39 ct39 cd39 oc40 kV40 dc40 pm40 ct40 cd40 oc41 kV41 dc41 pm41 ct41 cd41 oc42 kV42 dc42 pm42 ct42 cd42 oc43 kV43 dc43 pm43 ct43 cd43 oc44 kV44 dc44 pm44 ct44 cd44 oc45 kV45 dc45 pm45 ct45 cd45 : Value}
    {od0 an0 od1 an1 od2 an2 od3 an3 od4 an4 od5 an5 od6 an6 od7 an7 gd7 od8 an8 gd8 od9 an9 od10 an10 od11 an11 gd11 od12 an12 od13 an13 od14 an14 gd14 od15 an15 od16 an16 od17 an17 gd17 od18 an18 od19 an19 gd19 od20 an20 gd20 od21 an21 od22 an22 od23 an23 gd23 od24 an24 od25 an25 od26 an26 od27 an27 od28 an28 od29 an29 od30 an30 od31 an31 od32 an32 od33 an33 od34 an34 od35 an35 od36 an36 od37 an37 od38 an38 od39 an39 od40 an40 od41 an41 od42 an42 od43 an43 od44 an44 od45 an45 : Option Addr}
    {sl0 sl1 sl2 sl3 sl4 sl5 sl6 sl7 gs7 sl8 gs8 sl9 sl10 sl11 gs11 sl12 sl13 sl14 gs14 sl15 sl16 sl17 gs17 sl18 sl19 gs19 sl20 gs20 sl21 sl22 sl23 gs23 sl24 sl25 sl26 sl27 sl28 sl29 sl30 sl31 sl32 sl33 sl34 sl35 sl36 sl37 sl38 sl39 sl40 sl41 sl42 sl43 sl44 sl45 : Array (Option Value)}
    {gv7 gv8 gv11 gv14 gv17 gv19 gv20 gv23 : Array Value}
    {tk_MOST_VERTICES_spins tk_MOST_EDGES tk_MOST_SIZE tk_MOST_VERTICES_distributions : Tok}
    (a0 : PySem.W.nsIn K mainGlobals "fraction" = some (some (.ref f0)))
    (l0 : K.lookup f0 = some ⟨oc0, od0, .func (PySem.W.fnOf "fraction" "fraction" (defArgs s_fraction) (defBody s_fraction) (defScope s_fraction) .none kV0 dc0 pm0 an0 cd0 ct0), sl0⟩)
    (x0 : PySem.W.codeIn K cd0 "fraction" = true)
    (k0 : PySem.W.keepIn K (.ref f0) = true)
    (a1 : PySem.W.nsIn K mainGlobals "add" = some (some (.ref f1)))
    (l1 : K.lookup f1 = some ⟨oc1, od1, .func (PySem.W.fnOf "add" "add" (defArgs s_add) (defBody s_add) (defScope s_add) .none kV1 dc1 pm1 an1 cd1 ct1), sl1⟩)
    (x1 : PySem.W.codeIn K cd1 "add" = true)
    (k1 : PySem.W.keepIn K (.ref f1) = true)
    (a2 : PySem.W.nsIn K mainGlobals "multiply" = some (some (.ref f2)))
    (l2 : K.lookup f2 = some ⟨oc2, od2, .func (PySem.W.fnOf "multiply" "multiply" (defArgs s_multiply) (defBody s_multiply) (defScope s_multiply) .none kV2 dc2 pm2 an2 cd2 ct2), sl2⟩)
    (x2 : PySem.W.codeIn K cd2 "multiply" = true)
    (k2 : PySem.W.keepIn K (.ref f2) = true)
    (a3 : PySem.W.nsIn K mainGlobals "divide" = some (some (.ref f3)))
    (l3 : K.lookup f3 = some ⟨oc3, od3, .func (PySem.W.fnOf "divide" "divide" (defArgs s_divide) (defBody s_divide) (defScope s_divide) .none kV3 dc3 pm3 an3 cd3 ct3), sl3⟩)
    (x3 : PySem.W.codeIn K cd3 "divide" = true)
    (k3 : PySem.W.keepIn K (.ref f3) = true)
    (a4 : PySem.W.nsIn K mainGlobals "compare" = some (some (.ref f4)))
    (l4 : K.lookup f4 = some ⟨oc4, od4, .func (PySem.W.fnOf "compare" "compare" (defArgs s_compare) (defBody s_compare) (defScope s_compare) .none kV4 dc4 pm4 an4 cd4 ct4), sl4⟩)
    (x4 : PySem.W.codeIn K cd4 "compare" = true)
    (k4 : PySem.W.keepIn K (.ref f4) = true)
    (a5 : PySem.W.nsIn K mainGlobals "raised" = some (some (.ref f5)))
    (l5 : K.lookup f5 = some ⟨oc5, od5, .func (PySem.W.fnOf "raised" "raised" (defArgs s_raised) (defBody s_raised) (defScope s_raised) .none kV5 dc5 pm5 an5 cd5 ct5), sl5⟩)
    (x5 : PySem.W.codeIn K cd5 "raised" = true)
    (k5 : PySem.W.keepIn K (.ref f5) = true)
    (a6 : PySem.W.nsIn K mainGlobals "repeated" = some (some (.ref f6)))
    (l6 : K.lookup f6 = some ⟨oc6, od6, .func (PySem.W.fnOf "repeated" "repeated" (defArgs s_repeated) (defBody s_repeated) (defScope s_repeated) .none kV6 dc6 pm6 an6 cd6 ct6), sl6⟩)
    (x6 : PySem.W.codeIn K cd6 "repeated" = true)
    (k6 : PySem.W.keepIn K (.ref f6) = true)
    (ac_Spins : PySem.W.nsIn K mainGlobals "Spins" = some (some (.ref C_Spins)))
    (a7 : PySem.W.findIn K (.ref C_Spins) "__init__" = some (some (.ref f7)))
    (i7 : PySem.W.isFn K (.ref f7) = true)
    (l7 : K.lookup f7 = some ⟨oc7, od7, .func (PySem.W.fnOf "__init__" "Spins.__init__" (defArgs s_Spins_init) (defBody s_Spins_init) (defScope s_Spins_init) .none kV7 dc7 pm7 an7 (.ref c7) ct7), sl7⟩)
    (x7 : PySem.W.codeIn K (.ref c7) "Spins.__init__" = true)
    (k7 : PySem.W.keepIn K (.ref f7) = true)
    (h7 : K.lookup c7 = some ⟨ge7, gd7, .fields gv7, gs7⟩)
    (v7 : gv7[11]? = some (.ref P7))
    (n7 : K.lookup P7 = none)
    (e7 : PySem.W.codeHdIn K c7 P7 = true)
    (t7 : h.get? P7 = some { cls := .none, data := .fields #[] })
    (a8 : PySem.W.nsIn K mainGlobals "_check_fields" = some (some (.ref f8)))
    (l8 : K.lookup f8 = some ⟨oc8, od8, .func (PySem.W.fnOf "_check_fields" "_check_fields" (defArgs s_check_fields) (defBody s_check_fields) (defScope s_check_fields) .none kV8 dc8 pm8 an8 (.ref c8) ct8), sl8⟩)
    (x8 : PySem.W.codeIn K (.ref c8) "_check_fields" = true)
    (k8 : PySem.W.keepIn K (.ref f8) = true)
    (h8 : K.lookup c8 = some ⟨ge8, gd8, .fields gv8, gs8⟩)
    (v8 : gv8[11]? = some (.ref P8))
    (n8 : K.lookup P8 = none)
    (e8 : PySem.W.codeHdIn K c8 P8 = true)
    (r8 : ((recsOf q).any fun r => r.name == ("_check_fields" : Str)) = true)
    (a9 : PySem.W.nsIn K mainGlobals "_check_edges" = some (some (.ref f9)))
    (l9 : K.lookup f9 = some ⟨oc9, od9, .func (PySem.W.fnOf "_check_edges" "_check_edges" (defArgs s_check_edges) (defBody s_check_edges) (defScope s_check_edges) .none kV9 dc9 pm9 an9 cd9 ct9), sl9⟩)
    (x9 : PySem.W.codeIn K cd9 "_check_edges" = true)
    (k9 : PySem.W.keepIn K (.ref f9) = true)
    (a10 : PySem.W.nsIn K mainGlobals "all_states" = some (some (.ref f10)))
    (l10 : K.lookup f10 = some ⟨oc10, od10, .func (PySem.W.fnOf "all_states" "all_states" (defArgs s_all_states) (defBody s_all_states) (defScope s_all_states) .none kV10 dc10 pm10 an10 cd10 ct10), sl10⟩)
    (x10 : PySem.W.codeIn K cd10 "all_states" = true)
    (k10 : PySem.W.keepIn K (.ref f10) = true)
    (a11 : PySem.W.nsIn K mainGlobals "cost" = some (some (.ref f11)))
    (l11 : K.lookup f11 = some ⟨oc11, od11, .func (PySem.W.fnOf "cost" "cost" (defArgs s_cost) (defBody s_cost) (defScope s_cost) .none kV11 dc11 pm11 an11 (.ref c11) ct11), sl11⟩)
    (x11 : PySem.W.codeIn K (.ref c11) "cost" = true)
    (k11 : PySem.W.keepIn K (.ref f11) = true)
    (h11 : K.lookup c11 = some ⟨ge11, gd11, .fields gv11, gs11⟩)
    (v11 : gv11[11]? = some (.ref P11))
    (n11 : K.lookup P11 = none)
    (e11 : PySem.W.codeHdIn K c11 P11 = true)
    (r11 : ((recsOf q).any fun r => r.name == ("cost" : Str)) = true)
    (a12 : PySem.W.nsIn K mainGlobals "ups" = some (some (.ref f12)))
    (l12 : K.lookup f12 = some ⟨oc12, od12, .func (PySem.W.fnOf "ups" "ups" (defArgs s_ups) (defBody s_ups) (defScope s_ups) .none kV12 dc12 pm12 an12 cd12 ct12), sl12⟩)
    (x12 : PySem.W.codeIn K cd12 "ups" = true)
    (k12 : PySem.W.keepIn K (.ref f12) = true)
    (a13 : PySem.W.nsIn K mainGlobals "check_above_zero" = some (some (.ref f13)))
    (l13 : K.lookup f13 = some ⟨oc13, od13, .func (PySem.W.fnOf "check_above_zero" "check_above_zero" (defArgs s_check_above_zero) (defBody s_check_above_zero) (defScope s_check_above_zero) .none kV13 dc13 pm13 an13 cd13 ct13), sl13⟩)
    (x13 : PySem.W.codeIn K cd13 "check_above_zero" = true)
    (k13 : PySem.W.keepIn K (.ref f13) = true)
    (a14 : PySem.W.nsIn K mainGlobals "distribution_of" = some (some (.ref f14)))
    (l14 : K.lookup f14 = some ⟨oc14, od14, .func (PySem.W.fnOf "distribution_of" "distribution_of" (defArgs s_distribution_of) (defBody s_distribution_of) (defScope s_distribution_of) .none kV14 dc14 pm14 an14 (.ref c14) ct14), sl14⟩)
    (x14 : PySem.W.codeIn K (.ref c14) "distribution_of" = true)
    (k14 : PySem.W.keepIn K (.ref f14) = true)
    (h14 : K.lookup c14 = some ⟨ge14, gd14, .fields gv14, gs14⟩)
    (v14 : gv14[11]? = some (.ref P14))
    (n14 : K.lookup P14 = none)
    (e14 : PySem.W.codeHdIn K c14 P14 = true)
    (r14 : ((recsOf q).any fun r => r.name == ("distribution_of" : Str)) = true)
    (a15 : PySem.W.nsIn K mainGlobals "check_small" = some (some (.ref f15)))
    (l15 : K.lookup f15 = some ⟨oc15, od15, .func (PySem.W.fnOf "check_small" "check_small" (defArgs s_check_small) (defBody s_check_small) (defScope s_check_small) .none kV15 dc15 pm15 an15 cd15 ct15), sl15⟩)
    (x15 : PySem.W.codeIn K cd15 "check_small" = true)
    (k15 : PySem.W.keepIn K (.ref f15) = true)
    (a16 : PySem.W.nsIn K mainGlobals "weights_of" = some (some (.ref f16)))
    (l16 : K.lookup f16 = some ⟨oc16, od16, .func (PySem.W.fnOf "weights_of" "weights_of" (defArgs s_weights_of) (defBody s_weights_of) (defScope s_weights_of) .none kV16 dc16 pm16 an16 cd16 ct16), sl16⟩)
    (x16 : PySem.W.codeIn K cd16 "weights_of" = true)
    (k16 : PySem.W.keepIn K (.ref f16) = true)
    (a17 : PySem.W.nsIn K mainGlobals "after" = some (some (.ref f17)))
    (l17 : K.lookup f17 = some ⟨oc17, od17, .func (PySem.W.fnOf "after" "after" (defArgs s_after) (defBody s_after) (defScope s_after) .none kV17 dc17 pm17 an17 (.ref c17) ct17), sl17⟩)
    (x17 : PySem.W.codeIn K (.ref c17) "after" = true)
    (k17 : PySem.W.keepIn K (.ref f17) = true)
    (h17 : K.lookup c17 = some ⟨ge17, gd17, .fields gv17, gs17⟩)
    (v17 : gv17[11]? = some (.ref P17))
    (n17 : K.lookup P17 = none)
    (e17 : PySem.W.codeHdIn K c17 P17 = true)
    (r17 : ((recsOf q).any fun r => r.name == ("after" : Str)) = true)
    (a18 : PySem.W.nsIn K mainGlobals "keeps" = some (some (.ref f18)))
    (l18 : K.lookup f18 = some ⟨oc18, od18, .func (PySem.W.fnOf "keeps" "keeps" (defArgs s_keeps) (defBody s_keeps) (defScope s_keeps) .none kV18 dc18 pm18 an18 cd18 ct18), sl18⟩)
    (x18 : PySem.W.codeIn K cd18 "keeps" = true)
    (k18 : PySem.W.keepIn K (.ref f18) = true)
    (a19 : PySem.W.nsIn K mainGlobals "is_balanced" = some (some (.ref f19)))
    (l19 : K.lookup f19 = some ⟨oc19, od19, .func (PySem.W.fnOf "is_balanced" "is_balanced" (defArgs s_is_balanced) (defBody s_is_balanced) (defScope s_is_balanced) .none kV19 dc19 pm19 an19 (.ref c19) ct19), sl19⟩)
    (x19 : PySem.W.codeIn K (.ref c19) "is_balanced" = true)
    (k19 : PySem.W.keepIn K (.ref f19) = true)
    (h19 : K.lookup c19 = some ⟨ge19, gd19, .fields gv19, gs19⟩)
    (v19 : gv19[11]? = some (.ref P19))
    (n19 : K.lookup P19 = none)
    (e19 : PySem.W.codeHdIn K c19 P19 = true)
    (r19 : ((recsOf q).any fun r => r.name == ("is_balanced" : Str)) = true)
    (a20 : PySem.W.nsIn K mainGlobals "followed" = some (some (.ref f20)))
    (l20 : K.lookup f20 = some ⟨oc20, od20, .func (PySem.W.fnOf "followed" "followed" (defArgs s_followed) (defBody s_followed) (defScope s_followed) .none kV20 dc20 pm20 an20 (.ref c20) ct20), sl20⟩)
    (x20 : PySem.W.codeIn K (.ref c20) "followed" = true)
    (k20 : PySem.W.keepIn K (.ref f20) = true)
    (h20 : K.lookup c20 = some ⟨ge20, gd20, .fields gv20, gs20⟩)
    (v20 : gv20[11]? = some (.ref P20))
    (n20 : K.lookup P20 = none)
    (e20 : PySem.W.codeHdIn K c20 P20 = true)
    (r20 : ((recsOf q).any fun r => r.name == ("followed" : Str)) = true)
    (a21 : PySem.W.nsIn K mainGlobals "_rows_of_integers" = some (some (.ref f21)))
    (l21 : K.lookup f21 = some ⟨oc21, od21, .func (PySem.W.fnOf "_rows_of_integers" "_rows_of_integers" (defArgs s_rows_of_integers) (defBody s_rows_of_integers) (defScope s_rows_of_integers) .none kV21 dc21 pm21 an21 cd21 ct21), sl21⟩)
    (x21 : PySem.W.codeIn K cd21 "_rows_of_integers" = true)
    (k21 : PySem.W.keepIn K (.ref f21) = true)
    (a22 : PySem.W.nsIn K mainGlobals "_over_one_number" = some (some (.ref f22)))
    (l22 : K.lookup f22 = some ⟨oc22, od22, .func (PySem.W.fnOf "_over_one_number" "_over_one_number" (defArgs s_over_one_number) (defBody s_over_one_number) (defScope s_over_one_number) .none kV22 dc22 pm22 an22 cd22 ct22), sl22⟩)
    (x22 : PySem.W.codeIn K cd22 "_over_one_number" = true)
    (k22 : PySem.W.keepIn K (.ref f22) = true)
    (a23 : PySem.W.nsIn K mainGlobals "_row_behind" = some (some (.ref f23)))
    (l23 : K.lookup f23 = some ⟨oc23, od23, .func (PySem.W.fnOf "_row_behind" "_row_behind" (defArgs s_row_behind) (defBody s_row_behind) (defScope s_row_behind) .none kV23 dc23 pm23 an23 (.ref c23) ct23), sl23⟩)
    (x23 : PySem.W.codeIn K (.ref c23) "_row_behind" = true)
    (k23 : PySem.W.keepIn K (.ref f23) = true)
    (h23 : K.lookup c23 = some ⟨ge23, gd23, .fields gv23, gs23⟩)
    (v23 : gv23[11]? = some (.ref P23))
    (n23 : K.lookup P23 = none)
    (e23 : PySem.W.codeHdIn K c23 P23 = true)
    (r23 : ((recsOf q).any fun r => r.name == ("_row_behind" : Str)) = true)
    (a24 : PySem.W.nsIn K mainGlobals "_law_cell" = some (some (.ref f24)))
    (l24 : K.lookup f24 = some ⟨oc24, od24, .func (PySem.W.fnOf "_law_cell" "_law_cell" (defArgs s_law_cell) (defBody s_law_cell) (defScope s_law_cell) .none kV24 dc24 pm24 an24 cd24 ct24), sl24⟩)
    (x24 : PySem.W.codeIn K cd24 "_law_cell" = true)
    (k24 : PySem.W.keepIn K (.ref f24) = true)
    (a25 : PySem.W.nsIn K mainGlobals "_law_mix" = some (some (.ref f25)))
    (l25 : K.lookup f25 = some ⟨oc25, od25, .func (PySem.W.fnOf "_law_mix" "_law_mix" (defArgs s_law_mix) (defBody s_law_mix) (defScope s_law_mix) .none kV25 dc25 pm25 an25 cd25 ct25), sl25⟩)
    (x25 : PySem.W.codeIn K cd25 "_law_mix" = true)
    (k25 : PySem.W.keepIn K (.ref f25) = true)
    (a26 : PySem.W.nsIn K mainGlobals "_law_row" = some (some (.ref f26)))
    (l26 : K.lookup f26 = some ⟨oc26, od26, .func (PySem.W.fnOf "_law_row" "_law_row" (defArgs s_law_row) (defBody s_law_row) (defScope s_law_row) .none kV26 dc26 pm26 an26 cd26 ct26), sl26⟩)
    (x26 : PySem.W.codeIn K cd26 "_law_row" = true)
    (k26 : PySem.W.keepIn K (.ref f26) = true)
    (a27 : PySem.W.nsIn K mainGlobals "_law_tuples" = some (some (.ref f27)))
    (l27 : K.lookup f27 = some ⟨oc27, od27, .func (PySem.W.fnOf "_law_tuples" "_law_tuples" (defArgs s_law_tuples) (defBody s_law_tuples) (defScope s_law_tuples) .none kV27 dc27 pm27 an27 cd27 ct27), sl27⟩)
    (x27 : PySem.W.codeIn K cd27 "_law_tuples" = true)
    (k27 : PySem.W.keepIn K (.ref f27) = true)
    (a28 : PySem.W.nsIn K mainGlobals "_law_gcd" = some (some (.ref f28)))
    (l28 : K.lookup f28 = some ⟨oc28, od28, .func (PySem.W.fnOf "_law_gcd" "_law_gcd" (defArgs s_law_gcd) (defBody s_law_gcd) (defScope s_law_gcd) .none kV28 dc28 pm28 an28 cd28 ct28), sl28⟩)
    (x28 : PySem.W.codeIn K cd28 "_law_gcd" = true)
    (k28 : PySem.W.keepIn K (.ref f28) = true)
    (a29 : PySem.W.nsIn K mainGlobals "_law_frac" = some (some (.ref f29)))
    (l29 : K.lookup f29 = some ⟨oc29, od29, .func (PySem.W.fnOf "_law_frac" "_law_frac" (defArgs s_law_frac) (defBody s_law_frac) (defScope s_law_frac) .none kV29 dc29 pm29 an29 cd29 ct29), sl29⟩)
    (x29 : PySem.W.codeIn K cd29 "_law_frac" = true)
    (k29 : PySem.W.keepIn K (.ref f29) = true)
    (a30 : PySem.W.nsIn K mainGlobals "_law_add" = some (some (.ref f30)))
    (l30 : K.lookup f30 = some ⟨oc30, od30, .func (PySem.W.fnOf "_law_add" "_law_add" (defArgs s_law_add) (defBody s_law_add) (defScope s_law_add) .none kV30 dc30 pm30 an30 cd30 ct30), sl30⟩)
    (x30 : PySem.W.codeIn K cd30 "_law_add" = true)
    (k30 : PySem.W.keepIn K (.ref f30) = true)
    (a31 : PySem.W.nsIn K mainGlobals "_law_mul" = some (some (.ref f31)))
    (l31 : K.lookup f31 = some ⟨oc31, od31, .func (PySem.W.fnOf "_law_mul" "_law_mul" (defArgs s_law_mul) (defBody s_law_mul) (defScope s_law_mul) .none kV31 dc31 pm31 an31 cd31 ct31), sl31⟩)
    (x31 : PySem.W.codeIn K cd31 "_law_mul" = true)
    (k31 : PySem.W.keepIn K (.ref f31) = true)
    (a32 : PySem.W.nsIn K mainGlobals "_law_pow" = some (some (.ref f32)))
    (l32 : K.lookup f32 = some ⟨oc32, od32, .func (PySem.W.fnOf "_law_pow" "_law_pow" (defArgs s_law_pow) (defBody s_law_pow) (defScope s_law_pow) .none kV32 dc32 pm32 an32 cd32 ct32), sl32⟩)
    (x32 : PySem.W.codeIn K cd32 "_law_pow" = true)
    (k32 : PySem.W.keepIn K (.ref f32) = true)
    (a33 : PySem.W.nsIn K mainGlobals "_law_spins" = some (some (.ref f33)))
    (l33 : K.lookup f33 = some ⟨oc33, od33, .func (PySem.W.fnOf "_law_spins" "_law_spins" (defArgs s_law_spins) (defBody s_law_spins) (defScope s_law_spins) .none kV33 dc33 pm33 an33 cd33 ct33), sl33⟩)
    (x33 : PySem.W.codeIn K cd33 "_law_spins" = true)
    (k33 : PySem.W.keepIn K (.ref f33) = true)
    (a34 : PySem.W.nsIn K mainGlobals "_law_states" = some (some (.ref f34)))
    (l34 : K.lookup f34 = some ⟨oc34, od34, .func (PySem.W.fnOf "_law_states" "_law_states" (defArgs s_law_states) (defBody s_law_states) (defScope s_law_states) .none kV34 dc34 pm34 an34 cd34 ct34), sl34⟩)
    (x34 : PySem.W.codeIn K cd34 "_law_states" = true)
    (k34 : PySem.W.keepIn K (.ref f34) = true)
    (a35 : PySem.W.nsIn K mainGlobals "_law_cost" = some (some (.ref f35)))
    (l35 : K.lookup f35 = some ⟨oc35, od35, .func (PySem.W.fnOf "_law_cost" "_law_cost" (defArgs s_law_cost) (defBody s_law_cost) (defScope s_law_cost) .none kV35 dc35 pm35 an35 cd35 ct35), sl35⟩)
    (x35 : PySem.W.codeIn K cd35 "_law_cost" = true)
    (k35 : PySem.W.keepIn K (.ref f35) = true)
    (a36 : PySem.W.nsIn K mainGlobals "_law_weights" = some (some (.ref f36)))
    (l36 : K.lookup f36 = some ⟨oc36, od36, .func (PySem.W.fnOf "_law_weights" "_law_weights" (defArgs s_law_weights) (defBody s_law_weights) (defScope s_law_weights) .none kV36 dc36 pm36 an36 cd36 ct36), sl36⟩)
    (x36 : PySem.W.codeIn K cd36 "_law_weights" = true)
    (k36 : PySem.W.keepIn K (.ref f36) = true)
    (a37 : PySem.W.nsIn K mainGlobals "_law_shares" = some (some (.ref f37)))
    (l37 : K.lookup f37 = some ⟨oc37, od37, .func (PySem.W.fnOf "_law_shares" "_law_shares" (defArgs s_law_shares) (defBody s_law_shares) (defScope s_law_shares) .none kV37 dc37 pm37 an37 cd37 ct37), sl37⟩)
    (x37 : PySem.W.codeIn K cd37 "_law_shares" = true)
    (k37 : PySem.W.keepIn K (.ref f37) = true)
    (a38 : PySem.W.nsIn K mainGlobals "_law_fractions" = some (some (.ref f38)))
    (l38 : K.lookup f38 = some ⟨oc38, od38, .func (PySem.W.fnOf "_law_fractions" "_law_fractions" (defArgs s_law_fractions) (defBody s_law_fractions) (defScope s_law_fractions) .none kV38 dc38 pm38 an38 cd38 ct38), sl38⟩)
    (x38 : PySem.W.codeIn K cd38 "_law_fractions" = true)
    (k38 : PySem.W.keepIn K (.ref f38) = true)
    (a39 : PySem.W.nsIn K mainGlobals "_law_are_rows" = some (some (.ref f39)))
    (l39 : K.lookup f39 = some ⟨oc39, od39, .func (PySem.W.fnOf "_law_are_rows" "_law_are_rows" (defArgs s_law_are_rows) (defBody s_law_are_rows) (defScope s_law_are_rows) .none kV39 dc39 pm39 an39 cd39 ct39), sl39⟩)
    (x39 : PySem.W.codeIn K cd39 "_law_are_rows" = true)
    (k39 : PySem.W.keepIn K (.ref f39) = true)
    (a40 : PySem.W.nsIn K mainGlobals "_law_row_of" = some (some (.ref f40)))
    (l40 : K.lookup f40 = some ⟨oc40, od40, .func (PySem.W.fnOf "_law_row_of" "_law_row_of" (defArgs s_law_row_of) (defBody s_law_row_of) (defScope s_law_row_of) .none kV40 dc40 pm40 an40 cd40 ct40), sl40⟩)
    (x40 : PySem.W.codeIn K cd40 "_law_row_of" = true)
    (k40 : PySem.W.keepIn K (.ref f40) = true)
    (a41 : PySem.W.nsIn K mainGlobals "_law_some_table" = some (some (.ref f41)))
    (l41 : K.lookup f41 = some ⟨oc41, od41, .func (PySem.W.fnOf "_law_some_table" "_law_some_table" (defArgs s_law_some_table) (defBody s_law_some_table) (defScope s_law_some_table) .none kV41 dc41 pm41 an41 cd41 ct41), sl41⟩)
    (x41 : PySem.W.codeIn K cd41 "_law_some_table" = true)
    (k41 : PySem.W.keepIn K (.ref f41) = true)
    (a42 : PySem.W.nsIn K mainGlobals "_law_behind" = some (some (.ref f42)))
    (l42 : K.lookup f42 = some ⟨oc42, od42, .func (PySem.W.fnOf "_law_behind" "_law_behind" (defArgs s_law_behind) (defBody s_law_behind) (defScope s_law_behind) .none kV42 dc42 pm42 an42 cd42 ct42), sl42⟩)
    (x42 : PySem.W.codeIn K cd42 "_law_behind" = true)
    (k42 : PySem.W.keepIn K (.ref f42) = true)
    (a43 : PySem.W.nsIn K mainGlobals "_law_chance" = some (some (.ref f43)))
    (l43 : K.lookup f43 = some ⟨oc43, od43, .func (PySem.W.fnOf "_law_chance" "_law_chance" (defArgs s_law_chance) (defBody s_law_chance) (defScope s_law_chance) .none kV43 dc43 pm43 an43 cd43 ct43), sl43⟩)
    (x43 : PySem.W.codeIn K cd43 "_law_chance" = true)
    (k43 : PySem.W.keepIn K (.ref f43) = true)
    (a44 : PySem.W.nsIn K mainGlobals "_law_balanced" = some (some (.ref f44)))
    (l44 : K.lookup f44 = some ⟨oc44, od44, .func (PySem.W.fnOf "_law_balanced" "_law_balanced" (defArgs s_law_balanced) (defBody s_law_balanced) (defScope s_law_balanced) .none kV44 dc44 pm44 an44 cd44 ct44), sl44⟩)
    (x44 : PySem.W.codeIn K cd44 "_law_balanced" = true)
    (k44 : PySem.W.keepIn K (.ref f44) = true)
    (a45 : PySem.W.nsIn K mainGlobals "law" = some (some (.ref f45)))
    (l45 : K.lookup f45 = some ⟨oc45, od45, .func (PySem.W.fnOf "law" "law" (defArgs s_law) (defBody s_law) (defScope s_law) .none kV45 dc45 pm45 an45 cd45 ct45), sl45⟩)
    (x45 : PySem.W.codeIn K cd45 "law" = true)
    (k45 : PySem.W.keepIn K (.ref f45) = true)
    (n_MOST_VERTICES_spins : PySem.W.nsIn K mainGlobals "MOST_VERTICES_spins" = some (some (.int 12 tk_MOST_VERTICES_spins)))
    (n_MOST_EDGES : PySem.W.nsIn K mainGlobals "MOST_EDGES" = some (some (.int 24 tk_MOST_EDGES)))
    (n_MOST_SIZE : PySem.W.nsIn K mainGlobals "MOST_SIZE" = some (some (.int 9 tk_MOST_SIZE)))
    (n_MOST_VERTICES_distributions : PySem.W.nsIn K mainGlobals "MOST_VERTICES_distributions" = some (some (.int 6 tk_MOST_VERTICES_distributions)))
    (ax_FieldError : PySem.W.nsIn K mainGlobals "FieldError" = some (some (.ref X_FieldError)))
    (q_FieldError : PySem.W.excIn K X_FieldError veB "ValueError.__new__" = true)
    (kx_FieldError : PySem.W.keepIn K (.ref X_FieldError) = true)
    (bx_FieldError : PySem.W.subIn K (.ref X_FieldError) (.type "BaseException") = some true)
    (yx_FieldError : PySem.W.typeIn K (.ref X_FieldError) = some (.type "type"))
    (ax_InvalidSpins : PySem.W.nsIn K mainGlobals "InvalidSpins" = some (some (.ref X_InvalidSpins)))
    (q_InvalidSpins : PySem.W.excIn K X_InvalidSpins veB "ValueError.__new__" = true)
    (kx_InvalidSpins : PySem.W.keepIn K (.ref X_InvalidSpins) = true)
    (bx_InvalidSpins : PySem.W.subIn K (.ref X_InvalidSpins) (.type "BaseException") = some true)
    (yx_InvalidSpins : PySem.W.typeIn K (.ref X_InvalidSpins) = some (.type "type"))
    (ax_InvalidWeight : PySem.W.nsIn K mainGlobals "InvalidWeight" = some (some (.ref X_InvalidWeight)))
    (q_InvalidWeight : PySem.W.excIn K X_InvalidWeight veB "ValueError.__new__" = true)
    (kx_InvalidWeight : PySem.W.keepIn K (.ref X_InvalidWeight) = true)
    (bx_InvalidWeight : PySem.W.subIn K (.ref X_InvalidWeight) (.type "BaseException") = some true)
    (yx_InvalidWeight : PySem.W.typeIn K (.ref X_InvalidWeight) = some (.type "type"))
    (ax_TooLarge : PySem.W.nsIn K mainGlobals "TooLarge" = some (some (.ref X_TooLarge)))
    (q_TooLarge : PySem.W.excIn K X_TooLarge veB "ValueError.__new__" = true)
    (kx_TooLarge : PySem.W.keepIn K (.ref X_TooLarge) = true)
    (bx_TooLarge : PySem.W.subIn K (.ref X_TooLarge) (.type "BaseException") = some true)
    (yx_TooLarge : PySem.W.typeIn K (.ref X_TooLarge) = some (.type "type"))
    (pg_Spins : PySem.W.plainGet K C_Spins Str.empty = true)
    (hd_Spins : PySem.W.hasDictIn K C_Spins = true)
    (po_Spins : PySem.W.plainOver K C_Spins = true)
    (sa_Spins : PySem.W.findIn K (.ref C_Spins) "__setattr__" = some (some (.builtin "object.__setattr__")))
    (mk_Spins : PySem.W.makesIn K C_Spins = true)
    (kc_Spins : PySem.W.keepIn K (.ref C_Spins) = true)
    (na_Spins_fields : PySem.W.findIn K (.ref C_Spins) "fields" = some none)
    (na_Spins_edges : PySem.W.findIn K (.ref C_Spins) "edges" = some none)
    (i_gcd : PySem.W.nsIn K mainGlobals "gcd" = some (some (.builtin "math.gcd")))
    (i_lcm : PySem.W.nsIn K mainGlobals "lcm" = some (some (.builtin "math.lcm")))
    (z_abs : PySem.W.nsIn K mainGlobals "abs" = some none)
    (z_all : PySem.W.nsIn K mainGlobals "all" = some none)
    (z_bool : PySem.W.nsIn K mainGlobals "bool" = some none)
    (z_dict : PySem.W.nsIn K mainGlobals "dict" = some none)
    (z_enumerate : PySem.W.nsIn K mainGlobals "enumerate" = some none)
    (z_int : PySem.W.nsIn K mainGlobals "int" = some none)
    (z_isinstance : PySem.W.nsIn K mainGlobals "isinstance" = some none)
    (z_len : PySem.W.nsIn K mainGlobals "len" = some none)
    (z_list : PySem.W.nsIn K mainGlobals "list" = some none)
    (z_range : PySem.W.nsIn K mainGlobals "range" = some none)
    (z_sorted : PySem.W.nsIn K mainGlobals "sorted" = some none)
    (z_sum : PySem.W.nsIn K mainGlobals "sum" = some none)
    (z_tuple : PySem.W.nsIn K mainGlobals "tuple" = some none)
    (z_zip : PySem.W.nsIn K mainGlobals "zip" = some none)
    (xm_InvalidWeight : PySem.W.exmOne K (.ref X_InvalidWeight) (.ref X_FieldError) = some true)
    (ki_InvalidWeight : PySem.W.kitOne K (.ref X_InvalidWeight) (.ref X_InvalidWeight) = some true)
    (ehg_InvalidWeight : PySem.W.findIn K (.ref X_InvalidWeight) "__getattribute__" = some (some (.builtin "BaseException.__getattribute__")))
    (ehk_InvalidWeight : PySem.W.findIn K (.ref X_InvalidWeight) "__getattr__" = some none)
    (ehd_InvalidWeight : PySem.W.hasDictIn K X_InvalidWeight = true)
    (eha_InvalidWeight : PySem.W.findIn K (.ref X_InvalidWeight) "__class__" = some (some (.builtin "object.__class__")))
    (ehn_InvalidWeight : PySem.W.specialIn K (.builtin "object.__class__") "__get__" = some (some (.builtin "getset_descriptor.__get__")))
    (eht_InvalidWeight : PySem.W.takesIn K (.builtin "object.__class__") = some true)
    (ehm_InvalidWeight : PySem.W.mroIn K X_InvalidWeight (.type "object") = some true)
    (xm_TooLarge : PySem.W.exmOne K (.ref X_TooLarge) (.ref X_FieldError) = some true)
    (ki_TooLarge : PySem.W.kitOne K (.ref X_TooLarge) (.ref X_TooLarge) = some true)
    (kn_TooLarge : PySem.W.kitOne K (.ref X_TooLarge) (.ref X_InvalidWeight) = some false)
    (ehg_TooLarge : PySem.W.findIn K (.ref X_TooLarge) "__getattribute__" = some (some (.builtin "BaseException.__getattribute__")))
    (ehk_TooLarge : PySem.W.findIn K (.ref X_TooLarge) "__getattr__" = some none)
    (ehd_TooLarge : PySem.W.hasDictIn K X_TooLarge = true)
    (eha_TooLarge : PySem.W.findIn K (.ref X_TooLarge) "__class__" = some (some (.builtin "object.__class__")))
    (ehn_TooLarge : PySem.W.specialIn K (.builtin "object.__class__") "__get__" = some (some (.builtin "getset_descriptor.__get__")))
    (eht_TooLarge : PySem.W.takesIn K (.builtin "object.__class__") = some true)
    (ehm_TooLarge : PySem.W.mroIn K X_TooLarge (.type "object") = some true) :
    LamX.LawAtS l w K CX0 8 63 "script" mg fa h := by
  have e := hfa.symm.trans (PySem.W.mg_of X G a45)
  cases e
  have F0 := fun_mk (st := s_fraction) l0 x0 k0
  have b0 := F0.binds (ps := ["numerator", "denominator"]) fun _ _ _ _ _ _ us hl => match us, hl with | [_, _], _ => rfl
  have F1 := fun_mk (st := s_add) l1 x1 k1
  have b1 := F1.binds (ps := ["a", "b"]) fun _ _ _ _ _ _ us hl => match us, hl with | [_, _], _ => rfl
  have F2 := fun_mk (st := s_multiply) l2 x2 k2
  have b2 := F2.binds (ps := ["a", "b"]) fun _ _ _ _ _ _ us hl => match us, hl with | [_, _], _ => rfl
  have F3 := fun_mk (st := s_divide) l3 x3 k3
  have b3 := F3.binds (ps := ["a", "b"]) fun _ _ _ _ _ _ us hl => match us, hl with | [_, _], _ => rfl
  have F4 := fun_mk (st := s_compare) l4 x4 k4
  have b4 := F4.binds (ps := ["a", "b"]) fun _ _ _ _ _ _ us hl => match us, hl with | [_, _], _ => rfl
  have F5 := fun_mk (st := s_raised) l5 x5 k5
  have b5 := F5.binds (ps := ["a", "exponent"]) fun _ _ _ _ _ _ us hl => match us, hl with | [_, _], _ => rfl
  have F6 := fun_mk (st := s_repeated) l6 x6 k6
  have b6 := F6.binds (ps := ["base", "exponent", "one", "combine"]) fun _ _ _ _ _ _ us hl => match us, hl with | [_, _, _, _], _ => rfl
  have F7 := funC_mk (st := s_Spins_init) l7 x7 k7
  have b7 := F7.binds (ps := ["self", "fields", "edges"]) fun _ _ _ _ _ _ us hl => match us, hl with | [_, _, _], _ => rfl
  have F8 := funC_mk (st := s_check_fields) l8 x8 k8
  have b8 := F8.binds (ps := ["fields"]) fun _ _ _ _ _ _ us hl => match us, hl with | [_], _ => rfl
  have F9 := fun_mk (st := s_check_edges) l9 x9 k9
  have b9 := F9.binds (ps := ["edges", "count"]) fun _ _ _ _ _ _ us hl => match us, hl with | [_, _], _ => rfl
  have F10 := fun_mk (st := s_all_states) l10 x10 k10
  have b10 := F10.binds (ps := ["spins"]) fun _ _ _ _ _ _ us hl => match us, hl with | [_], _ => rfl
  have F11 := funC_mk (st := s_cost) l11 x11 k11
  have b11 := F11.binds (ps := ["spins", "state"]) fun _ _ _ _ _ _ us hl => match us, hl with | [_, _], _ => rfl
  have F12 := fun_mk (st := s_ups) l12 x12 k12
  have b12 := F12.binds (ps := ["state"]) fun _ _ _ _ _ _ us hl => match us, hl with | [_], _ => rfl
  have F13 := fun_mk (st := s_check_above_zero) l13 x13 k13
  have b13 := F13.binds (ps := ["x", "y"]) fun _ _ _ _ _ _ us hl => match us, hl with | [_, _], _ => rfl
  have F14 := funC_mk (st := s_distribution_of) l14 x14 k14
  have b14 := F14.binds (ps := ["spins", "x", "y"]) fun _ _ _ _ _ _ us hl => match us, hl with | [_, _, _], _ => rfl
  have F15 := fun_mk (st := s_check_small) l15 x15 k15
  have b15 := F15.binds (ps := ["spins", "x", "y"]) fun _ _ _ _ _ _ us hl => match us, hl with | [_, _, _], _ => rfl
  have F16 := fun_mk (st := s_weights_of) l16 x16 k16
  have b16 := F16.binds (ps := ["spins", "x", "y"]) fun _ _ _ _ _ _ us hl => match us, hl with | [_, _, _], _ => rfl
  have F17 := funC_mk (st := s_after) l17 x17 k17
  have b17 := F17.binds (ps := ["distribution", "table"]) fun _ _ _ _ _ _ us hl => match us, hl with | [_, _], _ => rfl
  have F18 := fun_mk (st := s_keeps) l18 x18 k18
  have b18 := F18.binds (ps := ["distribution", "table"]) fun _ _ _ _ _ _ us hl => match us, hl with | [_, _], _ => rfl
  have F19 := funC_mk (st := s_is_balanced) l19 x19 k19
  have b19 := F19.binds (ps := ["distribution", "table"]) fun _ _ _ _ _ _ us hl => match us, hl with | [_, _], _ => rfl
  have F20 := funC_mk (st := s_followed) l20 x20 k20
  have b20 := F20.binds (ps := ["first", "second"]) fun _ _ _ _ _ _ us hl => match us, hl with | [_, _], _ => rfl
  have F21 := fun_mk (st := s_rows_of_integers) l21 x21 k21
  have b21 := F21.binds (ps := ["table"]) fun _ _ _ _ _ _ us hl => match us, hl with | [_], _ => rfl
  have F22 := fun_mk (st := s_over_one_number) l22 x22 k22
  have b22 := F22.binds (ps := ["pairs"]) fun _ _ _ _ _ _ us hl => match us, hl with | [_], _ => rfl
  have F23 := funC_mk (st := s_row_behind) l23 x23 k23
  have b23 := F23.binds (ps := ["pairs", "rows"]) fun _ _ _ _ _ _ us hl => match us, hl with | [_, _], _ => rfl
  have F24 := fun_mk (st := s_law_cell) l24 x24 k24
  have b24 := F24.binds (ps := ["script", "k"]) fun _ _ _ _ _ _ us hl => match us, hl with | [_, _], _ => rfl
  have F25 := fun_mk (st := s_law_mix) l25 x25 k25
  have b25 := F25.binds (ps := ["cell", "k"]) fun _ _ _ _ _ _ us hl => match us, hl with | [_, _], _ => rfl
  have F26 := fun_mk (st := s_law_row) l26 x26 k26
  have b26 := F26.binds (ps := ["cell", "count", "bound"]) fun _ _ _ _ _ _ us hl => match us, hl with | [_, _, _], _ => rfl
  have F27 := fun_mk (st := s_law_tuples) l27 x27 k27
  have b27 := F27.binds (ps := ["thing"]) fun _ _ _ _ _ _ us hl => match us, hl with | [_], _ => rfl
  have F28 := fun_mk (st := s_law_gcd) l28 x28 k28
  have b28 := F28.binds (ps := ["a", "b"]) fun _ _ _ _ _ _ us hl => match us, hl with | [_, _], _ => rfl
  have F29 := fun_mk (st := s_law_frac) l29 x29 k29
  have b29 := F29.binds (ps := ["a", "b"]) fun _ _ _ _ _ _ us hl => match us, hl with | [_, _], _ => rfl
  have F30 := fun_mk (st := s_law_add) l30 x30 k30
  have b30 := F30.binds (ps := ["p", "q"]) fun _ _ _ _ _ _ us hl => match us, hl with | [_, _], _ => rfl
  have F31 := fun_mk (st := s_law_mul) l31 x31 k31
  have b31 := F31.binds (ps := ["p", "q"]) fun _ _ _ _ _ _ us hl => match us, hl with | [_, _], _ => rfl
  have F32 := fun_mk (st := s_law_pow) l32 x32 k32
  have b32 := F32.binds (ps := ["p", "n"]) fun _ _ _ _ _ _ us hl => match us, hl with | [_, _], _ => rfl
  have F33 := fun_mk (st := s_law_spins) l33 x33 k33
  have b33 := F33.binds (ps := ["script", "first", "most", "kind"]) fun _ _ _ _ _ _ us hl => match us, hl with | [_, _, _, _], _ => rfl
  have F34 := fun_mk (st := s_law_states) l34 x34 k34
  have b34 := F34.binds (ps := ["count"]) fun _ _ _ _ _ _ us hl => match us, hl with | [_], _ => rfl
  have F35 := fun_mk (st := s_law_cost) l35 x35 k35
  have b35 := F35.binds (ps := ["fields", "edges", "state"]) fun _ _ _ _ _ _ us hl => match us, hl with | [_, _, _], _ => rfl
  have F36 := fun_mk (st := s_law_weights) l36 x36 k36
  have b36 := F36.binds (ps := ["fields", "edges", "x", "y"]) fun _ _ _ _ _ _ us hl => match us, hl with | [_, _, _, _], _ => rfl
  have F37 := fun_mk (st := s_law_shares) l37 x37 k37
  have b37 := F37.binds (ps := ["weights"]) fun _ _ _ _ _ _ us hl => match us, hl with | [_], _ => rfl
  have F38 := fun_mk (st := s_law_fractions) l38 x38 k38
  have b38 := F38.binds (ps := ["cell", "unit"]) fun _ _ _ _ _ _ us hl => match us, hl with | [_, _], _ => rfl
  have F39 := fun_mk (st := s_law_are_rows) l39 x39 k39
  have b39 := F39.binds (ps := ["table", "count"]) fun _ _ _ _ _ _ us hl => match us, hl with | [_, _], _ => rfl
  have F40 := fun_mk (st := s_law_row_of) l40 x40 k40
  have b40 := F40.binds (ps := ["chances"]) fun _ _ _ _ _ _ us hl => match us, hl with | [_], _ => rfl
  have F41 := fun_mk (st := s_law_some_table) l41 x41 k41
  have b41 := F41.binds (ps := ["cell", "count"]) fun _ _ _ _ _ _ us hl => match us, hl with | [_, _], _ => rfl
  have F42 := fun_mk (st := s_law_behind) l42 x42 k42
  have b42 := F42.binds (ps := ["shares", "table"]) fun _ _ _ _ _ _ us hl => match us, hl with | [_, _], _ => rfl
  have F43 := fun_mk (st := s_law_chance) l43 x43 k43
  have b43 := F43.binds (ps := ["table", "start", "end"]) fun _ _ _ _ _ _ us hl => match us, hl with | [_, _, _], _ => rfl
  have F44 := fun_mk (st := s_law_balanced) l44 x44 k44
  have b44 := F44.binds (ps := ["shares", "table"]) fun _ _ _ _ _ _ us hl => match us, hl with | [_, _], _ => rfl
  have F45 := fun_mk (st := s_law) l45 x45 k45
  let T : Top K mg := ⟨f0, _, F0, b0, PySem.W.mg_of X G a0, f1, _, F1, b1, PySem.W.mg_of X G a1, f2, _, F2, b2, PySem.W.mg_of X G a2, f3, _, F3, b3, PySem.W.mg_of X G a3, f4, _, F4, b4, PySem.W.mg_of X G a4, f5, _, F5, b5, PySem.W.mg_of X G a5, f6, _, F6, b6, PySem.W.mg_of X G a6, f8, _, c8, P8, F8, b8, PySem.W.mg_of X G a8, f9, _, F9, b9, PySem.W.mg_of X G a9, f10, _, F10, b10, PySem.W.mg_of X G a10, f11, _, c11, P11, F11, b11, PySem.W.mg_of X G a11, f12, _, F12, b12, PySem.W.mg_of X G a12, f13, _, F13, b13, PySem.W.mg_of X G a13, f14, _, c14, P14, F14, b14, PySem.W.mg_of X G a14, f15, _, F15, b15, PySem.W.mg_of X G a15, f16, _, F16, b16, PySem.W.mg_of X G a16, f17, _, c17, P17, F17, b17, PySem.W.mg_of X G a17, f18, _, F18, b18, PySem.W.mg_of X G a18, f19, _, c19, P19, F19, b19, PySem.W.mg_of X G a19, f20, _, c20, P20, F20, b20, PySem.W.mg_of X G a20, f21, _, F21, b21, PySem.W.mg_of X G a21, f22, _, F22, b22, PySem.W.mg_of X G a22, f23, _, c23, P23, F23, b23, PySem.W.mg_of X G a23, f24, _, F24, b24, PySem.W.mg_of X G a24, f25, _, F25, b25, PySem.W.mg_of X G a25, f26, _, F26, b26, PySem.W.mg_of X G a26, f27, _, F27, b27, PySem.W.mg_of X G a27, f28, _, F28, b28, PySem.W.mg_of X G a28, f29, _, F29, b29, PySem.W.mg_of X G a29, f30, _, F30, b30, PySem.W.mg_of X G a30, f31, _, F31, b31, PySem.W.mg_of X G a31, f32, _, F32, b32, PySem.W.mg_of X G a32, f33, _, F33, b33, PySem.W.mg_of X G a33, f34, _, F34, b34, PySem.W.mg_of X G a34, f35, _, F35, b35, PySem.W.mg_of X G a35, f36, _, F36, b36, PySem.W.mg_of X G a36, f37, _, F37, b37, PySem.W.mg_of X G a37, f38, _, F38, b38, PySem.W.mg_of X G a38, f39, _, F39, b39, PySem.W.mg_of X G a39, f40, _, F40, b40, PySem.W.mg_of X G a40, f41, _, F41, b41, PySem.W.mg_of X G a41, f42, _, F42, b42, PySem.W.mg_of X G a42, f43, _, F43, b43, PySem.W.mg_of X G a43, f44, _, F44, b44, PySem.W.mg_of X G a44, tk_MOST_VERTICES_spins, PySem.W.mg_of X G n_MOST_VERTICES_spins, tk_MOST_EDGES, PySem.W.mg_of X G n_MOST_EDGES, tk_MOST_SIZE, PySem.W.mg_of X G n_MOST_SIZE, tk_MOST_VERTICES_distributions, PySem.W.mg_of X G n_MOST_VERTICES_distributions, X_FieldError, PySem.W.mg_of X G ax_FieldError, q_FieldError, kx_FieldError, bx_FieldError, yx_FieldError, X_InvalidSpins, PySem.W.mg_of X G ax_InvalidSpins, q_InvalidSpins, kx_InvalidSpins, bx_InvalidSpins, yx_InvalidSpins, X_InvalidWeight, PySem.W.mg_of X G ax_InvalidWeight, q_InvalidWeight, kx_InvalidWeight, bx_InvalidWeight, yx_InvalidWeight, X_TooLarge, PySem.W.mg_of X G ax_TooLarge, q_TooLarge, kx_TooLarge, bx_TooLarge, yx_TooLarge, C_Spins, PySem.W.mg_of X G ac_Spins, ⟨pg_Spins, hd_Spins, po_Spins, sa_Spins⟩, f7, _, c7, P7, F7, b7, ⟨mk_Spins, a7, i7, kc_Spins⟩, na_Spins_fields, na_Spins_edges, PySem.W.mg_of X G i_gcd, PySem.W.mg_of X G i_lcm, PySem.W.mg_none_of X G z_abs, PySem.W.mg_none_of X G z_all, PySem.W.mg_none_of X G z_bool, PySem.W.mg_none_of X G z_dict, PySem.W.mg_none_of X G z_enumerate, PySem.W.mg_none_of X G z_int, PySem.W.mg_none_of X G z_isinstance, PySem.W.mg_none_of X G z_len, PySem.W.mg_none_of X G z_list, PySem.W.mg_none_of X G z_range, PySem.W.mg_none_of X G z_sorted, PySem.W.mg_none_of X G z_sum, PySem.W.mg_none_of X G z_tuple, PySem.W.mg_none_of X G z_zip, xm_InvalidWeight, ki_InvalidWeight, ⟨ehg_InvalidWeight, ehk_InvalidWeight, bx_InvalidWeight, ehd_InvalidWeight, eha_InvalidWeight, ehn_InvalidWeight, eht_InvalidWeight, ehm_InvalidWeight⟩, xm_TooLarge, ki_TooLarge, kn_TooLarge, ⟨ehg_TooLarge, ehk_TooLarge, bx_TooLarge, ehd_TooLarge, eha_TooLarge, ehn_TooLarge, eht_TooLarge, ehm_TooLarge⟩⟩
  refine ⟨_, [(c7, P7), (c8, P8), (c11, P11), (c14, P14), (c17, P17), (c19, P19), (c20, P20), (c23, P23)], spLaw T, ?_, ?_, ?_, fun s u => .of_eq rfl, fun H a ns hl hb ht hS => law_in T H a ns hl hb ⟨tabG0 (ht (c7, P7) (by simp)), tabG0 (ht (c8, P8) (by simp)), tabG0 (ht (c11, P11) (by simp)), tabG0 (ht (c14, P14) (by simp)), tabG0 (ht (c17, P17) (by simp)), tabG0 (ht (c19, P19) (by simp)), tabG0 (ht (c20, P20) (by simp)), tabG0 (ht (c23, P23) (by simp))⟩ hS, fun base _ _ tb => ok_law F45 T ⟨tb (c7, P7) (by simp), tb (c8, P8) (by simp), tb (c11, P11) (by simp), tb (c14, P14) (by simp), tb (c17, P17) (by simp), tb (c19, P19) (by simp), tb (c20, P20) (by simp), tb (c23, P23) (by simp)⟩⟩
  · intro p hp
    simp only [List.mem_cons, List.not_mem_nil, or_false] at hp
    rcases hp with rfl | rfl | rfl | rfl | rfl | rfl | rfl | rfl
    · exact t7
    · exact AT "_check_fields" f8 c8 P8 _ _ _ _ _ _ r8 a8 l8 rfl rfl h8 v8
    · exact AT "cost" f11 c11 P11 _ _ _ _ _ _ r11 a11 l11 rfl rfl h11 v11
    · exact AT "distribution_of" f14 c14 P14 _ _ _ _ _ _ r14 a14 l14 rfl rfl h14 v14
    · exact AT "after" f17 c17 P17 _ _ _ _ _ _ r17 a17 l17 rfl rfl h17 v17
    · exact AT "is_balanced" f19 c19 P19 _ _ _ _ _ _ r19 a19 l19 rfl rfl h19 v19
    · exact AT "followed" f20 c20 P20 _ _ _ _ _ _ r20 a20 l20 rfl rfl h20 v20
    · exact AT "_row_behind" f23 c23 P23 _ _ _ _ _ _ r23 a23 l23 rfl rfl h23 v23
  · intro p hp
    simp only [List.mem_cons, List.not_mem_nil, or_false] at hp
    rcases hp with rfl | rfl | rfl | rfl | rfl | rfl | rfl | rfl
    · exact n7
    · exact n8
    · exact n11
    · exact n14
    · exact n17
    · exact n19
    · exact n20
    · exact n23
  · intro p hp
    simp only [List.mem_cons, List.not_mem_nil, or_false] at hp
    rcases hp with rfl | rfl | rfl | rfl | rfl | rfl | rfl | rfl
    · exact PySem.W.codeHd_of_K X e7
    · exact PySem.W.codeHd_of_K X e8
    · exact PySem.W.codeHd_of_K X e11
    · exact PySem.W.codeHd_of_K X e14
    · exact PySem.W.codeHd_of_K X e17
    · exact PySem.W.codeHd_of_K X e19
    · exact PySem.W.codeHd_of_K X e20
    · exact PySem.W.codeHd_of_K X e23
end KP
open PySem PySem.W PyProof.Rows
local macro_rules | `(tactic| o_head ($f:ident $k $a $e)) => `(tactic| o_head (kmHook $k $a $e [149]))
set_option maxHeartbeats 0 in
theorem PySem.Challenge.cw_spinfield_k45_distributions_holds : PySem.Challenge.rw_spinfield_k45_distributions.Holds := by
  w_on; o_law; k_head; (case hw => w_witness2)
  k_fill
  refine LamX.walk_ofAll (l := PySem.Challenge.rw_spinfield_k45_distributions) (n := 63) (k := 8) (x := "script") (CX := fun _ => L2.CX0) rfl (by decide) rfl ⟨rfl, by decide, by decide⟩ (fun w h Y => PySem.W.km_in_of Y) ?F (fun _ _ _ _ _ h => h)
  case F =>
    intro w mg fa h Y KX G hmg AT
    refine' KP.all_mk KX G hmg AT ?a0 ?l0 ?x0 ?k0 ?a1 ?l1 ?x1 ?k1 ?a2 ?l2 ?x2 ?k2 ?a3 ?l3 ?x3 ?k3 ?a4 ?l4 ?x4 ?k4 ?a5 ?l5 ?x5 ?k5 ?a6 ?l6 ?x6 ?k6 ?ac_Spins ?a7 ?i7 ?l7 ?x7 ?k7 ?h7 ?v7 ?n7 ?e7 ?t7 ?a8 ?l8 ?x8 ?k8 ?h8 ?v8 ?n8 ?e8 ?r8 ?a9 ?l9 ?x9 ?k9 ?a10 ?l10 ?x10 ?k10 ?a11 ?l11 ?x11 ?k11 ?h11 ?v11 ?n11 ?e11 ?r11 ?a12 ?l12 ?x12 ?k12 ?a13 ?l13 ?x13 ?k13 ?a14 ?l14 ?x14 ?k14 ?h14 ?v14 ?n14 ?e14 ?r14 ?a15 ?l15 ?x15 ?k15 ?a16 ?l16 ?x16 ?k16 ?a17 ?l17 ?x17 ?k17 ?h17 ?v17 ?n17 ?e17 ?r17 ?a18 ?l18 ?x18 ?k18 ?a19 ?l19 ?x19 ?k19 ?h19 ?v19 ?n19 ?e19 ?r19 ?a20 ?l20 ?x20 ?k20 ?h20 ?v20 ?n20 ?e20 ?r20 ?a21 ?l21 ?x21 ?k21 ?a22 ?l22 ?x22 ?k22 ?a23 ?l23 ?x23 ?k23 ?h23 ?v23 ?n23 ?e23 ?r23 ?a24 ?l24 ?x24 ?k24 ?a25 ?l25 ?x25 ?k25 ?a26 ?l26 ?x26 ?k26 ?a27 ?l27 ?x27 ?k27 ?a28 ?l28 ?x28 ?k28 ?a29 ?l29 ?x29 ?k29 ?a30 ?l30 ?x30 ?k30 ?a31 ?l31 ?x31 ?k31 ?a32 ?l32 ?x32 ?k32 ?a33 ?l33 ?x33 ?k33 ?a34 ?l34 ?x34 ?k34 ?a35 ?l35 ?x35 ?k35 ?a36 ?l36 ?x36 ?k36 ?a37 ?l37 ?x37 ?k37 ?a38 ?l38 ?x38 ?k38 ?a39 ?l39 ?x39 ?k39 ?a40 ?l40 ?x40 ?k40 ?a41 ?l41 ?x41 ?k41 ?a42 ?l42 ?x42 ?k42 ?a43 ?l43 ?x43 ?k43 ?a44 ?l44 ?x44 ?k44 ?a45 ?l45 ?x45 ?k45 ?n_MOST_VERTICES_spins ?n_MOST_EDGES ?n_MOST_SIZE ?n_MOST_VERTICES_distributions ?ax_FieldError ?q_FieldError ?kx_FieldError ?bx_FieldError ?yx_FieldError ?ax_InvalidSpins ?q_InvalidSpins ?kx_InvalidSpins ?bx_InvalidSpins ?yx_InvalidSpins ?ax_InvalidWeight ?q_InvalidWeight ?kx_InvalidWeight ?bx_InvalidWeight ?yx_InvalidWeight ?ax_TooLarge ?q_TooLarge ?kx_TooLarge ?bx_TooLarge ?yx_TooLarge ?pg_Spins ?hd_Spins ?po_Spins ?sa_Spins ?mk_Spins ?kc_Spins ?na_Spins_fields ?na_Spins_edges ?i_gcd ?i_lcm ?z_abs ?z_all ?z_bool ?z_dict ?z_enumerate ?z_int ?z_isinstance ?z_len ?z_list ?z_range ?z_sorted ?z_sum ?z_tuple ?z_zip ?xm_InvalidWeight ?ki_InvalidWeight ?ehg_InvalidWeight ?ehk_InvalidWeight ?ehd_InvalidWeight ?eha_InvalidWeight ?ehn_InvalidWeight ?eht_InvalidWeight ?ehm_InvalidWeight ?xm_TooLarge ?ki_TooLarge ?kn_TooLarge ?ehg_TooLarge ?ehk_TooLarge ?ehd_TooLarge ?eha_TooLarge ?ehn_TooLarge ?eht_TooLarge ?ehm_TooLarge
    (case a0 => k_is); (case l0 => k_is); (case x0 => k_is); (case k0 => k_is); (case a1 => k_is); (case l1 => k_is); (case x1 => k_is); (case k1 => k_is); (case a2 => k_is); (case l2 => k_is); (case x2 => k_is); (case k2 => k_is); (case a3 => k_is); (case l3 => k_is); (case x3 => k_is); (case k3 => k_is); (case a4 => k_is); (case l4 => k_is); (case x4 => k_is); (case k4 => k_is); (case a5 => k_is); (case l5 => k_is); (case x5 => k_is); (case k5 => k_is); (case a6 => k_is); (case l6 => k_is); (case x6 => k_is); (case k6 => k_is); (case ac_Spins => k_is); (case a7 => k_is); (case i7 => k_is); (case l7 => k_is); (case x7 => k_is); (case k7 => k_is); (case h7 => k_is); (case v7 => exact rfl); (case n7 => kernel_rfl); (case e7 => kernel_rfl); (case t7 => exact PySem.W.km_tabs_of Y 149 (by simp)); (case a8 => k_is); (case l8 => k_is); (case x8 => k_is); (case k8 => k_is); (case h8 => k_is); (case v8 => exact rfl); (case n8 => kernel_rfl); (case e8 => kernel_rfl); (case r8 => kernel_rfl); (case a9 => k_is); (case l9 => k_is); (case x9 => k_is); (case k9 => k_is); (case a10 => k_is); (case l10 => k_is); (case x10 => k_is); (case k10 => k_is); (case a11 => k_is); (case l11 => k_is); (case x11 => k_is); (case k11 => k_is); (case h11 => k_is); (case v11 => exact rfl); (case n11 => kernel_rfl); (case e11 => kernel_rfl); (case r11 => kernel_rfl); (case a12 => k_is); (case l12 => k_is); (case x12 => k_is); (case k12 => k_is); (case a13 => k_is); (case l13 => k_is); (case x13 => k_is); (case k13 => k_is); (case a14 => k_is); (case l14 => k_is); (case x14 => k_is); (case k14 => k_is); (case h14 => k_is); (case v14 => exact rfl); (case n14 => kernel_rfl); (case e14 => kernel_rfl); (case r14 => kernel_rfl); (case a15 => k_is); (case l15 => k_is); (case x15 => k_is); (case k15 => k_is); (case a16 => k_is); (case l16 => k_is); (case x16 => k_is); (case k16 => k_is); (case a17 => k_is); (case l17 => k_is); (case x17 => k_is); (case k17 => k_is); (case h17 => k_is); (case v17 => exact rfl); (case n17 => kernel_rfl); (case e17 => kernel_rfl); (case r17 => kernel_rfl); (case a18 => k_is); (case l18 => k_is); (case x18 => k_is); (case k18 => k_is); (case a19 => k_is); (case l19 => k_is); (case x19 => k_is); (case k19 => k_is); (case h19 => k_is); (case v19 => exact rfl); (case n19 => kernel_rfl); (case e19 => kernel_rfl); (case r19 => kernel_rfl); (case a20 => k_is); (case l20 => k_is); (case x20 => k_is); (case k20 => k_is); (case h20 => k_is); (case v20 => exact rfl); (case n20 => kernel_rfl); (case e20 => kernel_rfl); (case r20 => kernel_rfl); (case a21 => k_is); (case l21 => k_is); (case x21 => k_is); (case k21 => k_is); (case a22 => k_is); (case l22 => k_is); (case x22 => k_is); (case k22 => k_is); (case a23 => k_is); (case l23 => k_is); (case x23 => k_is); (case k23 => k_is); (case h23 => k_is); (case v23 => exact rfl); (case n23 => kernel_rfl); (case e23 => kernel_rfl); (case r23 => kernel_rfl); (case a24 => k_is); (case l24 => k_is); (case x24 => k_is); (case k24 => k_is); (case a25 => k_is); (case l25 => k_is); (case x25 => k_is); (case k25 => k_is); (case a26 => k_is); (case l26 => k_is); (case x26 => k_is); (case k26 => k_is); (case a27 => k_is); (case l27 => k_is); (case x27 => k_is); (case k27 => k_is); (case a28 => k_is); (case l28 => k_is); (case x28 => k_is); (case k28 => k_is); (case a29 => k_is); (case l29 => k_is); (case x29 => k_is); (case k29 => k_is); (case a30 => k_is); (case l30 => k_is); (case x30 => k_is); (case k30 => k_is); (case a31 => k_is); (case l31 => k_is); (case x31 => k_is); (case k31 => k_is); (case a32 => k_is); (case l32 => k_is); (case x32 => k_is); (case k32 => k_is); (case a33 => k_is); (case l33 => k_is); (case x33 => k_is); (case k33 => k_is); (case a34 => k_is); (case l34 => k_is); (case x34 => k_is); (case k34 => k_is); (case a35 => k_is); (case l35 => k_is); (case x35 => k_is); (case k35 => k_is); (case a36 => k_is); (case l36 => k_is); (case x36 => k_is); (case k36 => k_is); (case a37 => k_is); (case l37 => k_is); (case x37 => k_is); (case k37 => k_is); (case a38 => k_is); (case l38 => k_is); (case x38 => k_is); (case k38 => k_is); (case a39 => k_is); (case l39 => k_is); (case x39 => k_is); (case k39 => k_is); (case a40 => k_is); (case l40 => k_is); (case x40 => k_is); (case k40 => k_is); (case a41 => k_is); (case l41 => k_is); (case x41 => k_is); (case k41 => k_is); (case a42 => k_is); (case l42 => k_is); (case x42 => k_is); (case k42 => k_is); (case a43 => k_is); (case l43 => k_is); (case x43 => k_is); (case k43 => k_is); (case a44 => k_is); (case l44 => k_is); (case x44 => k_is); (case k44 => k_is); (case a45 => k_is); (case l45 => k_is); (case x45 => k_is); (case k45 => k_is); (case n_MOST_VERTICES_spins => k_is); (case n_MOST_EDGES => k_is); (case n_MOST_SIZE => k_is); (case n_MOST_VERTICES_distributions => k_is); (case ax_FieldError => k_is); (case q_FieldError => kernel_rfl); (case kx_FieldError => k_is); (case bx_FieldError => k_is); (case yx_FieldError => k_is); (case ax_InvalidSpins => k_is); (case q_InvalidSpins => kernel_rfl); (case kx_InvalidSpins => k_is); (case bx_InvalidSpins => k_is); (case yx_InvalidSpins => k_is); (case ax_InvalidWeight => k_is); (case q_InvalidWeight => kernel_rfl); (case kx_InvalidWeight => k_is); (case bx_InvalidWeight => k_is); (case yx_InvalidWeight => k_is); (case ax_TooLarge => k_is); (case q_TooLarge => kernel_rfl); (case kx_TooLarge => k_is); (case bx_TooLarge => k_is); (case yx_TooLarge => k_is); (case pg_Spins => k_is); (case hd_Spins => k_is); (case po_Spins => k_is); (case sa_Spins => k_is); (case mk_Spins => k_is); (case kc_Spins => k_is); (case na_Spins_fields => k_is); (case na_Spins_edges => k_is); (case i_gcd => k_is); (case i_lcm => k_is); (case z_abs => k_is); (case z_all => k_is); (case z_bool => k_is); (case z_dict => k_is); (case z_enumerate => k_is); (case z_int => k_is); (case z_isinstance => k_is); (case z_len => k_is); (case z_list => k_is); (case z_range => k_is); (case z_sorted => k_is); (case z_sum => k_is); (case z_tuple => k_is); (case z_zip => k_is); (case xm_InvalidWeight => kernel_rfl); (case ki_InvalidWeight => kernel_rfl); (case ehg_InvalidWeight => k_is); (case ehk_InvalidWeight => k_is); (case ehd_InvalidWeight => k_is); (case eha_InvalidWeight => k_is); (case ehn_InvalidWeight => k_is); (case eht_InvalidWeight => k_is); (case ehm_InvalidWeight => k_is); (case xm_TooLarge => kernel_rfl); (case ki_TooLarge => kernel_rfl); (case kn_TooLarge => kernel_rfl); (case ehg_TooLarge => k_is); (case ehk_TooLarge => k_is); (case ehd_TooLarge => k_is); (case eha_TooLarge => k_is); (case ehn_TooLarge => k_is); (case eht_TooLarge => k_is); (case ehm_TooLarge => k_is)
