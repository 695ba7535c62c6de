import PyProof.Rows.All
import Wide.All
import OpenK.AllK
import Wide.FinOn
import HandS.ForMost
import HandS.AnyAll
import HandS.GenList
import HandS.EndTab
import PyProof.TupleOfGen
import HandS.SortRule
import HandS.Conv
import HandS.NamedTupSort
import KE.KSortTup
import HandS.EndOwn
import HandS.EndBits
import HandS.Zip
import HandS.TupLe
import HandS.ForExc
import HandS.ExcIs
import HandS.Style
import HandS.TupAny
import HandS.IsInst
import HandS.CallLocal
import HandS.Wide
import HandS.Codes
import HandS.DictComp
import KE.KBits
import PyProof.SumWalkG
import KE.GoesEnum
import PyProof.Walks
import PyProof.MinMaxWalk
import HandS.TupSets
import HandS.Deep
import HandS.Text
import HandS.Gcd
import HandS.TupMul
import KE.KDictDisplayH
import HandS.TupLen
import KE.KDictWalk
import KE.KPairComp
import HandS.DictTup
import HandS.ExcCtx
import HandS.HotCalls
import HandS.SetFor
import HandS.Strs
import KE.GoesZip
import KE.GoesMore
import KE.KMathG
import KE.KMathGC
import KE.KDictPairs
import KE.KDictZip
import HandS.SortInts
import PySem.Challenge.RW_spinfield_k17_more_edges
set_option Elab.async false
set_option linter.all false
set_option maxRecDepth 100000
set_option maxHeartbeats 4000000
/-! Generator expressions over the layer: the generator's own frame as a context, its turns, what wakes it. -/
namespace GXP
open PySem PySem.Spec PyProof.Rows L2
/-- the generator's frame while its consumer stands at A -/
abbrev gcx (X : Cx) (A : Around) (s : Shared) (H : Hp) (ce : Env) (fp : List Addr) : Cx :=
  { X with A := A, s_0 := s, H_0 := H, env := ce, outer := X.stack, stack := ce :: X.stack, ex := fp, fn := fun _ => false, calm := true, pn := [], xe := fun _ _ => False }
/-- the cells of the frame that are taken over -/
theorem clo_look {cells : List (Str × Addr)} {names : List (Str × NameKind)} (hf : ∀ y ∈ names, y.2 = .free → ∃ c, cells.lookup y.1 = some c) {y : Str} {c : Addr} (e : (cloFrom cells names []).lookup y = some c) : cells.lookup y = some c ∧ (y, NameKind.free) ∈ names := by
  rcases cloFrom_mem (PySem.mem_of_lookup e) with z | ⟨z, rfl⟩
  · cases z
  · obtain ⟨d, hd⟩ := hf _ z rfl
    have hd : cells.lookup y = some d := hd
    rw [hd]
    exact ⟨rfl, z⟩
theorem gcx_start {X : Cx} {pins : List (Addr × Obj)} {σ : L2.St} {H : Hp} {s s5 : Shared} {A : Around} {ce : Env} {scope : Scope} {own : List (Str × Nat)} {fp : List Addr} {m0 : Str → Option Value}
    (I : Inv X pins σ H s) (ok : BlkOk X.N X.env.scope scope own) (hN : X.N.Nodup) (nocell : ∀ y ∈ scope.names, y.2 ≠ .cell) (hfp : ∀ b ∈ fp, FpOk X pins H b ∧ b < s.heap.objs.size)
    (hsc : ce.scope = scope) (hL : ce.locals = s.heap.objs.size) (hgl : ce.globals = mainGlobals) (hbl : ce.builtins = builtinsNs) (hcl : ce.cells = cloFrom X.env.cells scope.names []) (hfr : ce.frame = some ce.locals)
    (hA : A.frames = some (ce :: X.stack)) (hh : A.handled = none) (kp : ∀ b o, s.heap.get? b = some o → s5.heap.get? b = some o) (ns : s5.heap.Ns ce.locals m0) (hos : s5.os = s.os) (hb : AllBare s5.gens) :
    Inv (gcx X A s H ce fp) [] (wipe σ (own.map (·.2))) H s5 := by
  have hfree : ∀ y ∈ scope.names, y.2 = .free → ∃ c, X.env.cells.lookup y.1 = some c := fun y hy e => (ok.free y hy e).elim (fun k => I.ok.has _ (.inl k)) (fun k => I.ok.has _ (.inr k))
  have look : ∀ {y c}, ce.cells.lookup y = some c → X.env.cells.lookup y = some c ∧ (y, NameKind.free) ∈ scope.names := fun {y c} e => clo_look hfree (by rw [← hcl]; exact e)
  have cellLt : ∀ {y c}, X.env.cells.lookup y = some c → c < s.heap.objs.size := fun {y c} e => let ⟨_, z⟩ := I.cell y c e; z.lt
  have freeHas : ∀ {y}, scope.names.lookup y = some .free → ∃ c, ce.cells.lookup y = some c ∧ X.env.cells.lookup y = some c := fun {y} e => by
    obtain ⟨c, hc⟩ := mem_lookup (cloFrom_has (cells := X.env.cells) (acc := []) (PySem.mem_of_lookup e))
    rw [← hcl] at hc
    exact ⟨c, hc, (look hc).1⟩
  have okG : (gcx X A s H ce fp).Ok := by
    refine { mod := I.ok.mod, kind := ?kd, glob := hgl, blt := hbl, above := Nat.le_of_eq hL.symm, inj := ?inj, has := ?has, cab := fun _ _ z _ => (by cases z), hd := fun _ => hh, frames := hA, stk := .inr ⟨rfl, hfr⟩, exf := ?exf, bs := I.bs, bsz := Nat.le_trans I.ok.bsz I.sz, noex := ?noex, exfs := ?exfs, funs := I.stack, frf := I.stkFree }
    case kd =>
      show ce.scope.kind = _
      rw [hsc]
      exact ok.kind
    case inj => exact fun y z c e1 e2 => I.ok.inj y z c (look e1).1 (look e2).1
    case has =>
      intro y hy
      have hy : ce.scope.names.lookup y = some .cell ∨ ce.scope.names.lookup y = some .free := hy
      rw [hsc] at hy
      rcases hy with hy | hy
      · exact absurd rfl (nocell _ (PySem.mem_of_lookup hy))
      · exact let ⟨c, h, _⟩ := freeHas hy; ⟨c, h⟩
    case exf =>
      refine fun b hb => ⟨?_, fun y c e z => (hfp b hb).1.2.2.2.2.1 y c (look e).1 z⟩
      show b ≠ ce.locals
      rw [hL]
      exact Nat.ne_of_lt (hfp b hb).2
    case noex =>
      intro b o e hb
      rcases (hfp b hb).1.2.2.2.1 with z | z
      · exact I.ok.noex b o e z
      · have h1 := Heap.lt_size e
        have h2 := I.ok.bsz
        exact absurd (Nat.lt_of_lt_of_le h1 (Nat.le_trans h2 z)) (Nat.lt_irrefl _)
    case exfs =>
      intro b hb z
      rcases List.mem_cons.mp (I.stkSub b z) with z | z
      · exact (hfp b hb).1.2.1 z
      · exact (hfp b hb).1.2.2.1 z
  refine { ok := okG, os := hos, bare := hb, base := Un.kept kp, loc := ⟨m0, ns, ?loc⟩, cell := ?cell, free := ?free, freeC := fun y c e => I.freeC y c (look e).1, pin := fun p hp => absurd (show p ∈ ([] : List (Addr × Obj)) ++ [] from hp) (by simp), hok := I.hok.kept kp, len := by rw [wipe_length]; exact I.len }
  case loc =>
    intro i y v e1 e2 e3
    obtain ⟨e2, hne⟩ := wipe_some e2
    have e3 : ce.scope.names.lookup y = some .local ∨ ce.scope.names.lookup y = some .cell ∨ ce.scope.names.lookup y = some .free := e3
    rw [hsc] at e3
    have hfr : scope.names.lookup y = some .free := by
      rcases e3 with k | k | k
      · exfalso
        rcases ok.own _ (PySem.mem_of_lookup k) (.inl rfl) with h | h
        · obtain ⟨p, hp, hpy⟩ := List.mem_map.mp h
          have h3 := ok.ix p hp
          have : p.1 = y := hpy
          rw [this] at h3
          exact hne (List.mem_map.mpr ⟨p, hp, nodup_ix hN h3 e1⟩)
        · exact h (List.mem_of_getElem? e1)
      · exact absurd rfl (nocell _ (PySem.mem_of_lookup k))
      · exact k
    obtain ⟨c, h1, h2⟩ := freeHas hfr
    have hvis : Vis X.env.scope y := (ok.free _ (PySem.mem_of_lookup hfr) rfl).elim (fun k => .inr (.inl k)) (fun k => .inr (.inr k))
    obtain ⟨m, hn, hl⟩ := I.loc
    obtain ⟨u, r, q⟩ := hl i y v e1 e2 hvis
    refine ⟨u, r, .inr ⟨.inr (by show ce.scope.names.lookup y = _; rw [hsc]; exact hfr), ?_⟩⟩
    rcases q with ⟨k, _⟩ | ⟨_, d, hd, z⟩
    · have k : X.env.scope.names.lookup y = some .local := k
      rcases ok.free _ (PySem.mem_of_lookup hfr) rfl with k' | k' <;> rw [show X.env.scope.names.lookup y = _ from k'] at k <;> cases k
    · rw [h2] at hd
      cases hd
      exact ⟨c, h1, z.keeps kp⟩
  case cell =>
    intro y c e
    obtain ⟨v, z⟩ := I.cell y c (look e).1
    exact ⟨v, z.keeps kp⟩
  case free =>
    show H ce.locals = none
    rw [hL]
    exact I.hok.fresh (Nat.le_refl _)
/-- while the generator sleeps, its consumer writes at cw alone -/
structure Doz (cw : List Addr) (s s' : Shared) : Prop where
  os : s'.os = s.os
  bare : AllBare s'.gens
  keep : ∀ b o, b ∉ cw → s.heap.get? b = some o → s'.heap.get? b = some o
  there : ∀ b ∈ cw, ∃ o, s'.heap.get? b = some o ∧ ∀ v, o.data ≠ .cell v
/-- what stands at cw is left alone by a turn -/
def KeptAt (cw : List Addr) (s₀ s : Shared) : Prop := ∀ b ∈ cw, ∀ o, s₀.heap.get? b = some o → s.heap.get? b = some o
/-- what a consumer does with an item: the items so far, the item, the heap, and what the generator wants to go on -/
abbrev Cy := List V → V → Hp → (List V → Hp → Prop) → Prop
/-- how the items so far show in what the consumer keeps at cw -/
structure Lnk (cw : List Addr) (Lk : List V → Heap → Prop) : Prop where
  st : ∀ ys h h', Lk ys h → (∀ b ∈ cw, ∀ o, h.get? b = some o → h'.get? b = some o) → Lk ys h'
def GYld (Y : Cx) (gp : List (Addr × Obj)) (cw : List Addr) (Lk : List V → Heap → Prop) (cy : Cy) : Protocol := fun _ s₀ v s kap =>
  ∃ (ys : List V) (y : V) (σ : L2.St) (H : Hp) (Nx : List V → Hp → Prop), Inv Y gp σ H s ∧ RelV y v ∧ KeptAt cw s₀ s ∧ (∀ b ∈ cw, H b = none) ∧ Lk ys s.heap ∧ cy ys y H Nx ∧ ∀ ys', Nx ys' H → ∀ s', Doz cw s s' → Lk ys' s'.heap → kap (.send .none) s'
def GFin (Y : Cx) (gp : List (Addr × Obj)) (cw : List Addr) (Lk : List V → Heap → Prop) (Qe : List V → Hp → Prop) : GenEnd := fun _ s₀ r s =>
  r = .ok .next ∧ ∃ (ys : List V) (σ : L2.St) (H : Hp), Inv Y gp σ H s ∧ KeptAt cw s₀ s ∧ (∀ b ∈ cw, H b = none) ∧ Lk ys s.heap ∧ Qe ys H
/-- the turns of a generator expression: W by the turn, a measure and the items so far -/
def Turns (J : It) (g : TG) (tt : TT) (te : TE) (vs : List Nat) (σ : L2.St) (cy : Cy) (Qe : List V → Hp → Prop) (W : Nat → Nat → List V → Hp → Prop) : Prop :=
  ∀ i m ys H, W i m ys H → (J.stop i H ∧ Qe ys H) ∨ (J.go i H ∧ 0 < m ∧ ∃ Nx : List V → Hp → Prop, (∀ ys' H', Nx ys' H' → ∃ m', m' < m ∧ W (i + 1) m' ys' H') ∧
    ∀ x H', J.yld i H x H' → g x (wipe σ vs) H' fun σ2 H2 => wipe σ2 vs = wipe σ vs ∧ tt σ2 H2 fun b H3 => if b = true then te σ2 H3 fun y H4 => cy ys y H4 Nx else Nx ys H3)
/-- the iterator's and the consumer's objects in the generator's frame -/
structure GPlace (Y : Cx) (gp : List (Addr × Obj)) (fp cw : List Addr) : Prop where
  fx : ∀ b ∈ fp, b ∈ Y.ex ∧ b ≠ Y.env.locals ∧ b ∉ Y.fs ∧ (∀ x c, Y.env.cells.lookup x = some c → c ≠ b) ∧ (∀ p ∈ Y.pn ++ gp, p.1 ≠ b) ∧ b ∉ cw
  cx : ∀ b ∈ cw, Y.s_0.heap.objs.size ≤ b ∧ b ≠ Y.env.locals ∧ b ∉ Y.fs ∧ (∀ x c, Y.env.cells.lookup x = some c → c ≠ b) ∧ ∀ p ∈ Y.pn ++ gp, p.1 ≠ b
theorem GPlace.fpOk {Y : Cx} {gp : List (Addr × Obj)} {fp cw : List Addr} (G : GPlace Y gp fp cw) {s₀ : Shared} {H : Hp} (n : ∀ b ∈ fp, H b = none) : ∀ b ∈ fp, FpOk Y (gp ++ pinsAt cw s₀.heap) H b := fun b hb => by
  obtain ⟨h1, h2, h3, h4, h5, h6⟩ := G.fx b hb
  refine ⟨n b hb, h2, h3, .inl h1, h4, fun p hp => ?_⟩
  rw [← List.append_assoc] at hp
  rcases List.mem_append.mp hp with hp | hp
  · exact h5 p hp
  · intro z
    have h7 := (of_pinsAt hp).1
    rw [z] at h7
    exact h6 h7
/-- the consumer's objects are pinned as they stand -/
theorem GPlace.pin {Y : Cx} {gp : List (Addr × Obj)} {fp cw : List Addr} (G : GPlace Y gp fp cw) {σ : L2.St} {H : Hp} {s : Shared} (I : Inv Y gp σ H s) (n : ∀ b ∈ cw, H b = none) (t : ∀ b ∈ cw, ∃ o, s.heap.get? b = some o ∧ ∀ v, o.data ≠ .cell v) :
    Inv Y (gp ++ pinsAt cw s.heap) σ H s :=
  I.pinned (fun b hb => let ⟨h1, h2, h3, h4, h5⟩ := G.cx b hb; ⟨n b hb, h2, h3, .inr h1, h4, h5⟩) t
theorem kept_of {Y : Cx} {gp pl : List (Addr × Obj)} {cw : List Addr} {σ : L2.St} {H : Hp} {s₀ s : Shared} (I : Inv Y ((gp ++ pinsAt cw s₀.heap) ++ pl) σ H s) : KeptAt cw s₀ s := fun b hb o e =>
  (I.pin (b, o) (List.mem_append_right _ (List.mem_append_left _ (List.mem_append_right _ (mem_pinsAt hb e))))).1
/-- asleep: only cw is written -/
theorem GPlace.doz {Y : Cx} {gp : List (Addr × Obj)} {fp cw : List Addr} (G : GPlace Y gp fp cw) {σ : L2.St} {H : Hp} {s s' : Shared} (I : Inv Y gp σ H s) (n : ∀ b ∈ cw, H b = none) (z : Doz cw s s') : Inv Y gp σ H s' := by
  obtain ⟨z1, z2, z3, _⟩ := z
  have nt : ∀ b u, H b = some u → b ∉ cw := fun b u q hb => by
    rw [n b hb] at q
    cases q
  obtain ⟨hh, g, d, t, o⟩ := s'
  have ho : o = s.os := z1
  subst ho
  refine I.step (g' := g) (t' := t) (d' := d) (ch := cw) (fun b hb => ?_) (fun b ob _ _ hc q _ => z3 b ob hc q) (fun b ob _ _ hc q _ => ⟨ob.slots, z3 b ob hc q⟩) (fun _ _ _ _ k => k) (fun b ob hc q => ⟨ob, z3 b ob hc q⟩) (fun _ _ q => q) (fun _ _ _ q => q)
    (fun b ps q => ⟨#[], by rw [q]; simp⟩) (fun m hm => ?_) (fun b u q => ?_) z2
  · obtain ⟨h1, h2, h3, h4, h5⟩ := G.cx b hb
    exact ⟨.inr h1, h2, h4, h5⟩
  · obtain ⟨ob, es, ep, ho, r⟩ := hm
    exact ⟨ob, es, ep, z3 _ ob (fun hb => (G.cx _ hb).2.1 rfl) ho, r⟩
  · refine (I.hok b u q).stay (fun c v hc y => z3 c v ?_ y) (fun _ y => y) fun _ _ y => y
    rcases hc with y | y
    · rw [y]
      exact nt b u q
    · exact nt c _ y
section
variable {Y : Cx} {Aw : Around} {elt tg iter : Expr} {ifs : List Expr} {scope : Scope} {pos : Pos} {it : Addr} {fp cw : List Addr} {gp : List (Addr × Obj)} {tn : Nat → Heap → Prop} {J : It} {g : TG} {tt : TT} {te : TE} {vs : List Nat} {σ : L2.St} {cy : Cy} {Qe : List V → Hp → Prop} {Lk : List V → Heap → Prop}
  {W : Nat → Nat → List V → Hp → Prop}
abbrev gxE (elt tg iter : Expr) (ifs : List Expr) (scope : Scope) (pos : Pos) : Expr := .GeneratorExp elt [⟨tg, iter, ifs, 0⟩] scope pos
theorem gx_loop (hA : Aw.over (.compLoop (gxE elt tg iter ifs scope pos) 0 (.ref it) .none Y.env) [] = Y.A) (hx : Y.xe = fun _ _ => False) (hco : Y.env.scope.isCoroutine = false) (hc : Y.calm = true)
    (T : Turn Y.prog Y.w Y.K tg J fp it tn) (pg : PG Y tg g) (pt : PTs Y ifs tt) (pe : PE Y elt te) (G : GPlace Y gp fp cw) (hLk : Lnk cw Lk) (hW : Turns J g tt te vs σ cy Qe W) :
    ∀ (m n i : Nat) (ys : List V) (s₀ s : Shared) (H : Hp), m ≤ n → Inv Y (gp ++ pinsAt cw s₀.heap) (wipe σ vs) H s → (∀ b ∈ cw, ∃ o, s₀.heap.get? b = some o) → Lk ys s₀.heap → tn i s.heap → (∀ b ∈ fp, H b = none) → W i m ys H →
      Seg (model Y.prog Y.w) Aw (GFin Y gp cw Lk Qe) (GYld Y gp cw Lk cy) n s₀ (.compLoop (gxE elt tg iter ifs scope pos) 0 (.ref it) .none Y.env) ((model Y.prog Y.w).den (.compLoop (gxE elt tg iter ifs scope pos) 0 (.ref it) .none Y.env)) [] s := by
  have cwn : ∀ {s₀ s : Shared} {pl : List (Addr × Obj)} {σ' : L2.St} {H : Hp}, (∀ b ∈ cw, ∃ o, s₀.heap.get? b = some o) → Inv Y ((gp ++ pinsAt cw s₀.heap) ++ pl) σ' H s → ∀ b ∈ cw, H b = none := fun {s₀ s pl σ' H} h I b hb => by
    obtain ⟨o, e⟩ := h b hb
    exact (I.pin (b, o) (List.mem_append_right _ (List.mem_append_left _ (List.mem_append_right _ (mem_pinsAt hb e))))).2.1
  have nil : ∀ {l : List (Addr × Obj)} {σ' : L2.St} {H : Hp} {s : Shared}, Inv Y l σ' H s → Inv Y (l ++ []) σ' H s := fun {l σ' H s} I => by
    rw [List.append_nil]
    exact I
  intro m
  induction m using Nat.strongRecOn with
  | ind m ih =>
    intro n i ys s₀ s H hmn I hcw lk st nf w
    have fk := G.fpOk (s₀ := s₀) nf
    show Seg _ _ _ _ _ _ _ ((compTurn (gxE elt tg iter ifs scope pos) 0 (.ref it) .none Y.env).onRaise (leaving Y.env)) [] s
    rw [compTurn_gen elt tg iter ifs scope pos, Sem.onRaise_eq_wrap]
    refine seg_bind_wrap (wpAny_standAt (seg_bind_wrap ?_))
    rw [hA]
    rcases hW i m ys H w with ⟨stop, q⟩ | ⟨go, m0, Nx, hNx, step⟩
    · refine thnF (T.done Y rfl rfl rfl hc i _ s _ H _ I fk st stop) fun r s6 ⟨hr, I6⟩ => ?_
      subst hr
      exact seg_end (.ok .next) ⟨rfl, ys, _, H, I6.unpinned, kept_of (nil I6), cwn hcw (nil I6), hLk.st _ _ _ lk (kept_of (nil I6)), q⟩
    · refine thnF (T.item Y rfl rfl rfl hc i _ s _ H _ I fk st go) fun r s6 ⟨u, hr, h6⟩ => ?_
      subst hr
      refine seg_bind_wrap ?_
      rw [hA]
      refine thnF h6 fun _ s7 ⟨x, H7, I7, r7, y7, st7, n7⟩ => ?_
      have I7' := I7.pinned (G.fpOk n7) (T.obj _ _ st7)
      have kfp : ∀ {s' : Shared} {σ' : L2.St} {H' : Hp}, Inv Y ((gp ++ pinsAt cw s₀.heap) ++ pinsAt fp s7.heap) σ' H' s' → ∀ b ∈ fp, (∀ o, s7.heap.get? b = some o → s'.heap.get? b = some o) ∧ H' b = none := fun {s' σ' H'} I' b hb => by
        obtain ⟨o, e, _⟩ := T.obj _ _ st7 b hb
        obtain ⟨z1, z2, _⟩ := I'.pin (b, o) (List.mem_append_right _ (List.mem_append_right _ (mem_pinsAt hb e)))
        refine ⟨fun o' e' => ?_, z2⟩
        rw [e] at e'
        cases e'
        exact z1
      have exF : ∀ {e : Value} {s' : Shared} {Z : Prop}, Y.xe e s' → Z := fun {e s' Z} h => by
        rw [hx] at h
        exact False.elim h
      refine seg_bind_wrap ?_
      rw [hA]
      refine wpAny_mono (pg.run _ s7 _ H7 x u _ I7' r7 (step x H7 y7)) (fun _ s8 ⟨σ8, H8, I8, hw8, q8⟩ => ?_) fun _ _ h => exF h
      refine seg_bind_wrap ?_
      rw [hA]
      refine wpAny_mono (pt.run _ s8 σ8 H8 _ I8 q8) (fun b s9 ⟨H9, I9, q9⟩ => ?_) fun _ _ h => exF h
      have hl : (wipe σ vs).length = σ8.length := by rw [← hw8, wipe_length]
      have weak : ∀ {l : List (Addr × Obj)} {H' : Hp} {s' : Shared}, Inv Y l σ8 H' s' → Inv Y l (wipe σ vs) H' s' := fun {l H' s'} I' => I'.weak hl fun j v e => by
        rw [← hw8] at e
        exact (wipe_some e).1
      cases b with
      | false =>
        rw [if_neg Bool.false_ne_true] at q9
        obtain ⟨m', hm, w'⟩ := hNx _ _ q9
        simp only [Bool.false_eq_true, if_false]
        exact seg_again rfl (ih m' hm n (i + 1) ys s₀ s9 H9 (by omega) (weak I9.unpinned) hcw lk (T.keep _ _ _ st7 fun b hb => (kfp I9 b hb).1) (fun b hb => (kfp I9 b hb).2) w')
      | true =>
        rw [if_pos rfl] at q9
        simp only [if_true]
        have hy : ∀ v, yieldOut Y.env v = yieldValue v := fun v => by
          unfold yieldOut
          rw [hco]
          rfl
        simp only [hy]
        rw [Sem.bind_eq_wrap', Sem.bind_eq_wrap', Sem.wrap_wrap, Sem.wrap_wrap]
        refine seg_wrap ?_
        rw [hA]
        refine wpAny_mono (pe.run _ s9 σ8 H9 _ I9 q9) (fun v s10 ⟨y, H10, I10, r10, q10⟩ => ?_) fun _ _ h => exF h
        obtain ⟨n', rfl⟩ : ∃ n', n = n' + 1 := ⟨n - 1, by omega⟩
        have Ig : Inv Y gp σ8 H10 s10 := I10.pins_of fun p hp => I10.pin p (List.mem_append_right _ (List.mem_append_left _ (List.mem_append_left _ hp)))
        refine seg_at (seg_yield rfl rfl rfl ⟨ys, y, σ8, H10, Nx, Ig, r10, kept_of I10, cwn hcw I10, hLk.st _ _ _ lk (kept_of I10), q10, fun ys' hys s' hz lk' => ?_⟩)
        obtain ⟨m', hm, w'⟩ := hNx ys' H10 hys
        have nc := cwn hcw I10
        have Iz := G.doz Ig nc hz
        refine seg_again rfl (ih m' hm n' (i + 1) ys' s' s' H10 (by omega) (weak (G.pin Iz nc hz.there)) (fun b hb => let ⟨o, e, _⟩ := hz.there b hb; ⟨o, e⟩) lk' (T.keep _ _ _ st7 fun b hb o e => ?_) (fun b hb => (kfp I10 b hb).2) w')
        exact hz.keep b o (G.fx b hb).2.2.2.2.2 ((kfp I10 b hb).1 o e)
end
section
variable {Y : Cx} {Aw : Around} {elt tg iter : Expr} {ifs : List Expr} {scope : Scope} {pos : Pos} {it : Addr} {fp cw : List Addr} {gp : List (Addr × Obj)} {tn : Nat → Heap → Prop} {J : It} {g : TG} {tt : TT} {te : TE} {vs : List Nat} {σ : L2.St} {cy : Cy} {Qe : List V → Hp → Prop} {Lk : List V → Heap → Prop}
  {W : Nat → Nat → List V → Hp → Prop}
theorem gx_first (hA : Aw.over (.compLoop (gxE elt tg iter ifs scope pos) 0 (.ref it) .none Y.env) [] = Y.A) (hx : Y.xe = fun _ _ => False) (hco : Y.env.scope.isCoroutine = false) (hc : Y.calm = true)
    (T : Turn Y.prog Y.w Y.K tg J fp it tn) (pg : PG Y tg g) (pt : PTs Y ifs tt) (pe : PE Y elt te) (G : GPlace Y gp fp cw) (hLk : Lnk cw Lk) (hW : Turns J g tt te vs σ cy Qe W)
    {m : Nat} {s : Shared} {H : Hp} (I : Inv Y gp (wipe σ vs) H s) (nc : ∀ b ∈ cw, H b = none) (hcw : ∀ b ∈ cw, ∃ o, s.heap.get? b = some o ∧ ∀ v, o.data ≠ .cell v) (lk : Lk [] s.heap) (st : tn 0 s.heap) (nf : ∀ b ∈ fp, H b = none) (w : W 0 m [] H) :
    Seg (model Y.prog Y.w) Aw (GFin Y gp cw Lk Qe) (GYld Y gp cw Lk cy) m s (.compStart (gxE elt tg iter ifs scope pos) 0 (.ref it) .none Y.env) ((model Y.prog Y.w).den (.compStart (gxE elt tg iter ifs scope pos) 0 (.ref it) .none Y.env)) [] s := by
  have go := gx_loop (pos := pos) hA hx hco hc T pg pt pe G hLk hW m m 0 [] s s H (Nat.le_refl _) (G.pin I nc hcw) (fun b hb => let ⟨o, e, _⟩ := hcw b hb; ⟨o, e⟩) lk st nf w
  show Seg _ _ _ _ _ _ _ ((compStart (gxE elt tg iter ifs scope pos) 0 (.ref it) .none Y.env).onRaise (leaving Y.env)) [] s
  unfold compStart
  rw [Sem.onRaise_eq_wrap]
  show Seg _ _ _ _ _ _ _ ((ask >>= _).wrap _ _ _ _) [] s
  refine seg_bind_wrap (wpAny_askSetting ?_)
  split
  · exact seg_again rfl go
  · have last := T.self (Aw.over (.compStart (gxE elt tg iter ifs scope pos) 0 (.ref it) .none Y.env) []) 0 s
    first
      | exact seg_bind_wrap (wpAny_rule (seg_bind_wrap (wpAny_standAt (seg_bind_wrap (last _ _ st (seg_again rfl go))))))
      | (refine seg_bind_wrap (wpAny_rule ?_); show Seg _ _ _ _ _ _ _ ((standAt iter.pos >>= _).wrap _ _ _ _) [] s; exact seg_bind_wrap (wpAny_standAt (seg_bind_wrap (last _ _ st (seg_again rfl go)))))
end
/-- a generator that was made in X's code: what stood then, its frame's objects, its own object -/
structure GMk (X : Cx) (pins : List (Addr × Obj)) (σ : L2.St) (sg : Shared) (Hg : Hp) (fp : List Addr) (a g : Addr) (go : Obj) : Prop where
  inv : Inv X pins σ Hg sg
  fx : ∀ b ∈ fp, FpOk X pins Hg b
  isGen : ∀ h : Heap, h.get? a = some go → h.IsGen a g
/-- it sleeps; ys is out, at most n more come -/
structure GRun (Y : Cx) (cw : List Addr) (Lk : List V → Heap → Prop) (cy : Cy) (Qe : List V → Hp → Prop) (a g : Addr) (go : Obj) (Aw : Around) (n : Nat) (ys : List V) (s : Shared) : Prop where
  here : s.heap.get? a = some go
  lim : s.heap.NoLimit
  run : ∃ gs, s.gens[g]? = some gs ∧ ∀ s', Doz cw s s' → Lk ys s'.heap → gs.Goes (model Y.prog Y.w) Aw (GFin Y [(a, go)] cw Lk Qe) (GYld Y [(a, go)] cw Lk cy) n (.send .none) s'
theorem Doz.turn {cw : List Addr} {s s' s'' : Shared} (x : Doz cw s s') (y : Doz cw s' s'') : Doz cw s s'' :=
  ⟨y.os.trans x.os, y.bare, fun b o hb e => y.keep b o hb (x.keep b o hb e), y.there⟩
theorem GRun.doz {Y : Cx} {cw : List Addr} {Lk : List V → Heap → Prop} {cy : Cy} {Qe : List V → Hp → Prop} {a g : Addr} {go : Obj} {Aw : Around} {n : Nat} {ys : List V} {s s' : Shared} (R : GRun Y cw Lk cy Qe a g go Aw n ys s) (z : Doz cw s s') (ha : a ∉ cw) (hs : cStatics ∉ cw) (hg : s'.gens = s.gens) :
    GRun Y cw Lk cy Qe a g go Aw n ys s' := by
  obtain ⟨h1, ⟨mc, hn, hnn⟩, gs, h3, h4⟩ := R
  exact ⟨z.keep _ _ ha h1, ⟨mc, hn.at' fun o e => z.keep _ o hs e, hnn⟩, gs, by rw [hg]; exact h3, fun s2 y lk => h4 s2 (z.turn y) lk⟩
section
variable {X : Cx} {pins : List (Addr × Obj)} {σ : L2.St} {sg : Shared} {Hg : Hp} {fp cw : List Addr} {a g : Addr} {go : Obj} {A A1 : Around} {ce : Env} {cy : Cy} {Qe : List V → Hp → Prop} {Lk : List V → Heap → Prop} {s : Shared} {E : Value → Shared → Prop}
/-- back in the consumer's frame -/
theorem GMk.back (M : GMk X pins σ sg Hg fp a g go) {σ' : L2.St} {H : Hp} {s1 s' : Shared} (I : Inv (gcx X A1 sg Hg ce fp) [(a, go)] σ' H s1) (ho : s'.os = s1.os) (kp : ∀ b o, s1.heap.get? b = some o → s'.heap.get? b = some o) (hb : AllBare s'.gens) : Inv X pins σ H s' :=
  M.inv.call' (ch := fp) (ho.trans I.os) (I.base.trans (Un.kept kp)) (I.hok.kept kp) hb fun b hb => ⟨(M.fx b hb).2.2.2.1, (M.fx b hb).2.1, (M.fx b hb).2.2.2.2.1, (M.fx b hb).2.2.2.2.2⟩
/-- what next(generator) gives -/
def GNext (X : Cx) (pins : List (Addr × Obj)) (σ : L2.St) (Y : Cx) (cw : List Addr) (Lk : List V → Heap → Prop) (cy : Cy) (Qe : List V → Hp → Prop) (a g : Addr) (go : Obj) (A : Around) (n : Nat) (s : Shared) (r : Option Value) (s' : Shared) : Prop :=
  KeptAt cw s s' ∧ match r with
  | none => ∃ ys H, Inv X pins σ H s' ∧ (∀ b ∈ cw, H b = none) ∧ Lk ys s'.heap ∧ Qe ys H
  | some v => ∃ ys y H Nx, Inv X pins σ H s' ∧ RelV y v ∧ (∀ b ∈ cw, H b = none) ∧ Lk ys s'.heap ∧ cy ys y H Nx ∧ ∀ ys', Nx ys' H → ∀ s2, Doz cw s' s2 → Lk ys' s2.heap → s2.gens = s'.gens → ∃ n', n = n' + 1 ∧ GRun Y cw Lk cy Qe a g go A n' ys' s2
theorem gx_next (M : GMk X pins σ sg Hg fp a g go) (hLk : Lnk cw Lk) (ha : a ∉ cw) (hs : cStatics ∉ cw) {n : Nat} {ys : List V} (hh : A.handled = none) (hd : A.depth < recursionLimit) (R : GRun (gcx X A1 sg Hg ce fp) cw Lk cy Qe a g go A.in1 n ys s) (hb : AllBare s.gens) (hcw : ∀ b ∈ cw, ∃ o, s.heap.get? b = some o ∧ ∀ v, o.data ≠ .cell v)
    (lk : Lk ys s.heap) : wpAny (model X.prog X.w) A (pyNext (.ref a)) (GNext X pins σ (gcx X A1 sg Hg ce fp) cw Lk cy Qe a g go A.in1 n s) E s := by
  obtain ⟨h1, h2, gs, h3, h4⟩ := R
  have hgl : g < s.gens.size := (Array.getElem?_eq_some_iff.mp h3).1
  have z0 : Doz cw s (s.setGen g .running) := ⟨rfl, allBare_setGen hb rfl, fun _ _ _ e => e, hcw⟩
  refine GenW.wpAny_gsz (n := g + 1) hgl ?_
  refine wpAny_pyNext_genexpQ (P := fun _ s₀ s1 => ∃ (ys : List V) (σ' : L2.St) (H : Hp), Inv (gcx X A1 sg Hg ce fp) [(a, go)] σ' H s1 ∧ KeptAt cw s₀ s1 ∧ (∀ b ∈ cw, H b = none) ∧ Lk ys s1.heap ∧ Qe ys H)
    hh h2 hd (M.isGen _ h1) h3 (h4 _ z0 lk) (fun v s1 gs' hbare hv => ?_) fun s1 hp h' hk => ?_
  · obtain ⟨ys1, y, σ', H, Nx, I, r, kc, nc, lk1, q, wake⟩ := hv
    intro hsz
    have hsz1 : g < s1.gens.size := by
      rw [GenW.setGen_size] at hsz
      exact hsz
    refine ⟨kc, ys1, y, H, Nx, M.back I rfl (fun _ _ e => e) (allBare_setGen I.bare hbare), r, nc, lk1, q, fun ys' hN s2 z lk2 hgs => ?_⟩
    have w2 := wake ys' hN s2 ⟨z.os, z.bare, z.keep, z.there⟩ lk2
    cases n with
    | zero => exact w2.elim
    | succ n' =>
      have R1 : GRun (gcx X A1 sg Hg ce fp) cw Lk cy Qe a g go A.in1 n' ys' (s1.setGen g gs') :=
        ⟨(I.pin (a, go) (List.mem_append_right _ (List.mem_singleton.mpr rfl))).1, I.nolimit, gs', setGen_at hsz1, fun s2 z lk2 => wake ys' hN s2 ⟨z.os, z.bare, z.keep, z.there⟩ lk2⟩
      exact ⟨n', rfl, R1.doz z ha hs hgs⟩
  · obtain ⟨ys1, σ', H, I, kc, nc, lk1, q⟩ := hp
    intro _
    refine ⟨fun b hb o e => hk _ _ (kc b hb o e), ys1, H, M.back I rfl hk (allBare_setGen I.bare rfl), nc, hLk.st _ _ _ lk1 fun b _ o e => hk b o e, q⟩
end
theorem over_gx {A : Around} {elt tg iter : Expr} {ifs : List Expr} {scope : Scope} {pos : Pos} {it : Addr} {ce : Env} : A.over (.compLoop (gxE elt tg iter ifs scope pos) 0 (.ref it) .none ce) [] = A.deeper ce := by
  first
    | rfl
    | (obtain ⟨hd, d, fr, gs, u⟩ := A; simp [Around.over, Around.deeper, marksOver, frameCount, unitsOf, envsOf, guardsOf, pushEnvs, pushGuards, Code.envs, Code.env?, Code.isFrame, Code.guards, Code.isGuard, Code.weight, Code.frames, Code.isCreation, Code.isCaller, Code.cUnits])
/-- the generator has been made and has not begun; at most m items come -/
structure GReady (X : Cx) (pins : List (Addr × Obj)) (σ : L2.St) (m : Nat) (cy : Cy) (Qe : List V → Hp → Prop) (a : Addr) (s : Shared) : Prop where
  ex : ∃ (g : Addr) (go : Obj) (sg : Shared) (Hg : Hp) (fp : List Addr) (ce : Env), GMk X pins σ sg Hg fp a g go ∧ Inv X pins σ Hg s ∧ s.heap.get? a = some go ∧ s.heap.NoLimit ∧
    ∀ (cw : List Addr) (Lk : List V → Heap → Prop) (A : Around) (s2 : Shared), Lnk cw Lk → A.handled = none → A.frames = some X.stack → A.depth ≤ X.A.depth + 1 → A.units ≤ X.A.units + 8 → (∀ b ∈ cw, s.heap.objs.size ≤ b) →
      (∀ b o, s.heap.get? b = some o → s2.heap.get? b = some o) → (∀ b ∈ cw, ∃ o, s2.heap.get? b = some o ∧ ∀ v, o.data ≠ .cell v) → s2.os = s.os → s2.gens = s.gens → Lk [] s2.heap →
      GRun (gcx X (A.deeper ce) sg Hg ce fp) cw Lk cy Qe a g go A m [] s2
section
variable {X : Cx} {pins : List (Addr × Obj)} {σ : L2.St} {H : Hp} {s : Shared} {c P : Addr} {elt iter tg : Expr} {ifs : List Expr} {scope : Scope} {gpos : Pos} {own : List (Str × Nat)} {wi : TI} {g : TG} {tt : TT} {te : TE} {k : Nat} {cy : Cy} {Qe : List V → Hp → Prop}
theorem gx_make (hr : Room (k + 1) X.A) (TB : LamX.TabB X.base X.mg c P) (hcode : X.env.code = .ref c) (hco : scope.isCoroutine = false) (ok : BlkOk X.N X.env.scope scope own) (hN : X.N.Nodup) (nocell : ∀ y ∈ scope.names, y.2 ≠ .cell)
    (h0 : scope.names.lookup (".0" : Str) = some NameKind.local) (hi : PI X tg iter wi)
    (pg : ∀ (A : Around) (s : Shared) (H : Hp) (C : Addr) (cl : List (Str × Addr)) (code : Value) (bi : Addr) (fp : List Addr), Room k A → PG (gcx X A s H (genEnv scope cl C code bi X.env) fp) tg g)
    (pt : ∀ (A : Around) (s : Shared) (H : Hp) (C : Addr) (cl : List (Str × Addr)) (code : Value) (bi : Addr) (fp : List Addr), Room k A → PTs (gcx X A s H (genEnv scope cl C code bi X.env) fp) ifs tt)
    (pe : ∀ (A : Around) (s : Shared) (H : Hp) (C : Addr) (cl : List (Str × Addr)) (code : Value) (bi : Addr) (fp : List Addr), Room k A → PE (gcx X A s H (genEnv scope cl C code bi X.env) fp) elt te)
    (hs : ∀ v, genFold iter X.env v = pure v) (I : Inv X pins σ H s)
    (h : wi σ H fun J H1 => GxR.TabG H1 P ∧ ∀ H2, GxR.Tabbed P H1 H2 → ∃ W m, W 0 m [] H2 ∧ Turns J g tt te (own.map (·.2)) σ cy Qe W) :
    wpAny (model X.prog X.w) X.A (eval (gxE elt tg iter ifs scope gpos) X.env) (fun u s' => ∃ a m, u = .ref a ∧ GReady X pins σ m cy Qe a s') X.xe s := by
  have hfree : ∀ y ∈ scope.names, y.2 = .free → ∃ c, X.env.cells.lookup y.1 = some c := fun y hy e => (ok.free y hy e).elim (fun z => I.ok.has _ (.inl z)) (fun z => I.ok.has _ (.inr z))
  refine wpAny_GeneratorExp_make hco (closure_ok hfree) nocell h0 ok.kind (by have := hr.dp; omega) ?_ hs
  refine thn (hi.run pins s σ H _ I h) fun xv s1 hx => thn hx fun itv s2 h2 => ?_
  obtain ⟨it, fp, tn, J, H2, rfl, I2, T, st2, f2, ⟨ps, hP, ht⟩, q⟩ := h2
  refine ⟨I2.nolimit, ?_⟩
  have hPs : s2.heap.get? P = some { cls := .none, data := .fields ps } := I2.hok P _ hP
  have cd : PySem.W.CodeHd s2.heap c P := TB.code.keeps fun b u e => I2.bk b u e
  have sz : ∀ b ∈ fp, b < s2.heap.objs.size := fun b hb => by
    obtain ⟨o, e, _⟩ := T.obj _ _ st2 b hb
    exact Heap.lt_size e
  have nP : ∀ b ∈ fp, b ≠ P := fun b hb z => by
    have := (f2 b hb).1
    rw [z, hP] at this
    cases this
  have cont : ∀ (code : Value) (h3 : Heap) (tk : Nat) (more : Array Value), Heap.ExtBut P s2.heap h3 → s2.heap.objs.size ≤ h3.objs.size → h3.get? P = some { cls := .none, data := .fields (ps ++ more) } → TriplesOk (ps ++ more).toList →
      wpAny (model X.prog X.w) X.A (builtinsFor X.env.globals X.env.builtins) (fun bi s4 => ∀ h', h'.Ns s4.heap.objs.size (fun y => if y = ".0" then some (.ref it) else none) → Heap.SameBut s4.heap.objs.size (s4.heap.push { cls := .type "frame", data := .dict #[] }) h' →
        ∃ a m, Value.ref h'.objs.size = .ref a ∧ GReady X pins σ m cy Qe a { s4 with
            gens := s4.gens.push (.fresh (.compStart (gxE elt tg iter ifs scope gpos) 0 (.ref it) .none (genEnv scope (cloFrom X.env.cells scope.names []) s4.heap.objs.size code bi X.env))),
            toks := s4.toks + 1 + 1 + 1,
            heap := h'.push { cls := .type "generator", data := .fields #[.int s4.gens.size 0, .str "<genexpr>" (s4.toks + 1), .str (X.env.qual ++ "<genexpr>") (s4.toks + 1 + 1)] } }) X.xe { s2 with heap := h3, toks := tk } := by
    intro code h3 tk more hx3 hsz hP3 ht3
    have kp3 : ∀ b o, b ≠ P → s2.heap.get? b = some o → h3.get? b = some o := fun b o hb e => hx3 b o hb e
    have I3 : Inv X pins σ (upd H2 P (.tbl (ps ++ more))) { s2 with heap := h3, toks := tk } := GxR.inv_tab (g' := s2.gens) (d' := s2.drawn) (t' := tk) I2 hP kp3 hP3 I2.bare
    obtain ⟨W, m, w0, hW⟩ := q (upd H2 P (.tbl (ps ++ more))) ⟨⟨_, upd_same, ht3⟩, fun b hb => upd_ne hb⟩
    have f3 : ∀ b ∈ fp, FpOk X pins (upd H2 P (.tbl (ps ++ more))) b := fun b hb => ⟨by rw [upd_ne (nP b hb)]; exact (f2 b hb).1, (f2 b hb).2⟩
    have st3 : tn 0 h3 := T.keep _ _ _ st2 fun b hb o e => kp3 b o (nP b hb) e
    have sz3 : ∀ b ∈ fp, b < h3.objs.size := fun b hb => Nat.lt_of_lt_of_le (sz b hb) hsz
    obtain ⟨bm, ob, e1, e2, e3, e4, e5, e6, e7, e8⟩ := TB.bm
    refine wpAny_builtinsFor (m := X.mg) (by rw [I3.ok.glob]; exact I3.mod.glob.keeps I3.bk) e1 e2 (I3.bk _ _ e5) e6 e7 e8 ?_
    generalize upd H2 P (.tbl (ps ++ more)) = H3 at I3 w0 f3 hW
    generalize hs3 : ({ s2 with heap := h3, toks := tk } : Shared) = s3 at I3 ⊢
    have e3h : s3.heap = h3 := by rw [← hs3]
    rw [← e3h] at st3 sz3
    intro h' hn' hb'
    have hsz' : h'.objs.size = s3.heap.objs.size + 1 := by rw [hb'.1, Heap.size_push]
    have kp' : ∀ b o, s3.heap.get? b = some o → h'.get? b = some o := fun b o e => hb'.extBut b o (Nat.ne_of_lt (Heap.lt_size e)) (Heap.get?_push_of_some _ e)
    refine ⟨_, m, rfl, ?_⟩
    generalize hgo : ({ cls := .type "generator", data := .fields #[.int s3.gens.size 0, .str "<genexpr>" (s3.toks + 1), .str (X.env.qual ++ "<genexpr>") (s3.toks + 1 + 1)] } : Obj) = go
    have isg : ∀ h : Heap, h.get? h'.objs.size = some go → h.IsGen h'.objs.size s3.gens.size := fun h e => ⟨go, _, _, e, by rw [← hgo], by rw [← hgo], by rw [← hgo]⟩
    have gnc : ∀ v, go.data ≠ .cell v := fun v z => by
      rw [← hgo] at z
      cases z
    have nf : go.data ≠ .freed := fun z => by
      rw [← hgo] at z
      cases z
    have hat : (h'.push go).get? h'.objs.size = some go := by
      rw [← hgo]
      exact Heap.get?_push_size _ rfl
    generalize hce : genEnv scope (cloFrom X.env.cells scope.names []) s3.heap.objs.size code builtinsNs X.env = ce
    have ce1 : ce.scope = scope := by rw [← hce]; rfl
    have ce2 : ce.locals = s3.heap.objs.size := by rw [← hce]; rfl
    have ce3 : ce.globals = mainGlobals := by rw [← hce]; exact I3.ok.glob
    have ce4 : ce.builtins = builtinsNs := by rw [← hce]; rfl
    have ce5 : ce.cells = cloFrom X.env.cells scope.names [] := by rw [← hce]; rfl
    have ce6 : ce.frame = some ce.locals := by rw [← hce]; rfl
    generalize hs5 : ({ s3 with gens := s3.gens.push (.fresh (.compStart (gxE elt tg iter ifs scope gpos) 0 (.ref it) .none ce)), toks := s3.toks + 1 + 1 + 1, heap := h'.push go } : Shared) = s5
    have h5 : s5.heap = h'.push go := by rw [← hs5]
    have g5 : s5.gens = s3.gens.push (.fresh (.compStart (gxE elt tg iter ifs scope gpos) 0 (.ref it) .none ce)) := by rw [← hs5]
    have o5 : s5.os = s3.os := by rw [← hs5]
    have kp5 : ∀ b o, s3.heap.get? b = some o → s5.heap.get? b = some o := fun b o e => by rw [h5]; exact Heap.get?_push_of_some _ (kp' b o e)
    have b5 : AllBare s5.gens := by rw [g5]; exact I3.bare.push rfl
    have M : GMk X pins σ s3 H3 fp h'.objs.size s3.gens.size go := ⟨I3, f3, isg⟩
    have lim5 : s5.heap.NoLimit := I3.nolimit.keeps kp5
    have I5 : Inv X pins σ H3 s5 := I3.call' (ch := []) o5 (Un.kept kp5) (I3.hok.kept kp5) b5 fun b z => by simp at z
    have at5 : s5.heap.get? h'.objs.size = some go := by rw [h5]; exact hat
    have sz5 : s5.heap.objs.size = s3.heap.objs.size + 2 := by rw [h5, Heap.size_push, hsz']
    refine ⟨⟨s3.gens.size, go, s3, H3, fp, ce, M, I5, at5, lim5, fun cw Lk A s6 hLk hh hfr hdp hun hcw kp6 tc os6 gs6 lk => ?_⟩⟩
    have kp36 : ∀ b o, s3.heap.get? b = some o → s6.heap.get? b = some o := fun b o e => kp6 b o (kp5 b o e)
    have hrA : Room k (A.deeper ce) := by
      refine ⟨hh, ?_, ?_⟩
      · have := hr.dp
        show A.depth + 1 + 3 * k + 5 < _
        omega
      · have := hr.un
        show A.units + 3 + 16 * k + 200 < _
        omega
    have nsC : s6.heap.Ns ce.locals (fun y => if y = ".0" then some (.ref it) else none) := by
      rw [ce2]
      exact (hn'.push go).keeps fun b o e => kp6 b o (by rw [h5]; exact e)
    have b6 : AllBare s6.gens := by rw [gs6]; exact b5
    have I6 : Inv (gcx X (A.deeper ce) s3 H3 ce fp) [] (wipe σ (own.map (·.2))) H3 s6 :=
      gcx_start I3 ok hN nocell (fun b hb => ⟨f3 b hb, sz3 b hb⟩) ce1 ce2 ce3 ce4 ce5 ce6 (Around.frames_deeper hfr) hh kp36 nsC (os6.trans o5) b6
    have young : ∀ b, s3.heap.objs.size < b → H3 b = none ∧ b ≠ ce.locals ∧ b ∉ frs X.stack ∧ (∀ x c, ce.cells.lookup x = some c → c ≠ b) := fun b hb => by
      refine ⟨I3.hok.fresh (Nat.le_of_lt hb), by rw [ce2]; exact Nat.ne_of_gt hb, fun z => ?_, fun x d e z => ?_⟩
      · rcases List.mem_cons.mp (I3.stkSub b z) with z | z
        · exact absurd (Nat.lt_trans (by rw [z]; exact I3.lt) hb) (Nat.lt_irrefl _)
        · exact I3.nofs (Nat.le_of_lt hb) z
      · obtain ⟨v, zc⟩ := I6.cell x d e
        rw [ce5] at e
        obtain ⟨u, zd⟩ := I3.cell x d (clo_look hfree e).1
        have := zd.lt
        rw [z] at this
        exact absurd (Nat.lt_trans this hb) (Nat.lt_irrefl _)
    have ga : s3.heap.objs.size < h'.objs.size := by rw [hsz']; exact Nat.lt_succ_self _
    have I6' : Inv (gcx X (A.deeper ce) s3 H3 ce fp) [(h'.objs.size, go)] (wipe σ (own.map (·.2))) H3 s6 := I6.pins_of fun p hp => by
      rw [List.mem_singleton.mp hp]
      obtain ⟨y1, y2, y3, _⟩ := young _ ga
      exact ⟨kp6 _ _ at5, y1, y2, y3, gnc⟩
    have cwlt : ∀ b ∈ cw, s3.heap.objs.size < b ∧ b ≠ h'.objs.size := fun b hb => by
      have h1 : s3.heap.objs.size + 2 ≤ b := by rw [← sz5]; exact hcw b hb
      refine ⟨Nat.lt_of_lt_of_le (Nat.lt_succ_of_lt (Nat.lt_succ_self _)) h1, fun z => ?_⟩
      rw [z, hsz'] at h1
      exact absurd (Nat.lt_of_succ_le h1) (Nat.lt_irrefl _)
    have G : GPlace (gcx X (A.deeper ce) s3 H3 ce fp) [(h'.objs.size, go)] fp cw := by
      refine ⟨fun b hb => ⟨hb, (I6.ok.exf b hb).1, I6.ok.exfs b hb, fun x d e => (I6.ok.exf b hb).2 x d e, fun p hp => ?_, fun z => ?_⟩, fun b hb => ?_⟩
      · rw [List.mem_singleton.mp (show p ∈ [(h'.objs.size, go)] from hp)]
        exact fun z => absurd (Nat.lt_trans (sz3 b hb) (by rw [← z]; exact ga)) (Nat.lt_irrefl _)
      · exact absurd (Nat.lt_trans (sz3 b hb) (cwlt b z).1) (Nat.lt_irrefl _)
      · obtain ⟨y1, y2, y3, y4⟩ := young b (cwlt b hb).1
        refine ⟨Nat.le_of_lt (cwlt b hb).1, y2, y3, y4, fun p hp => ?_⟩
        rw [List.mem_singleton.mp (show p ∈ [(h'.objs.size, go)] from hp)]
        exact (cwlt b hb).2.symm
    have nc : ∀ b ∈ cw, H3 b = none := fun b hb => (young b (cwlt b hb).1).1
    refine ⟨kp6 _ _ at5, lim5.keeps kp6, .fresh (.compStart (gxE elt tg iter ifs scope gpos) 0 (.ref it) .none ce), by rw [gs6, g5]; exact Array.getElem?_push_size .., fun s7 z lk7 => ⟨rfl, ?_⟩⟩
    have I7 := G.doz I6' nc z
    have st7 : tn 0 s7.heap := T.keep _ _ _ st3 fun b hb o e => z.keep b o (fun hc => absurd (Nat.lt_trans (sz3 b hb) (cwlt b hc).1) (Nat.lt_irrefl _)) (kp36 b o e)
    have pg' := pg (A.deeper ce) s3 H3 s3.heap.objs.size (cloFrom X.env.cells scope.names []) code builtinsNs fp hrA
    have pt' := pt (A.deeper ce) s3 H3 s3.heap.objs.size (cloFrom X.env.cells scope.names []) code builtinsNs fp hrA
    have pe' := pe (A.deeper ce) s3 H3 s3.heap.objs.size (cloFrom X.env.cells scope.names []) code builtinsNs fp hrA
    rw [hce] at pg' pt' pe'
    exact gx_first (Y := gcx X (A.deeper ce) s3 H3 ce fp) over_gx rfl (by show ce.scope.isCoroutine = false; rw [ce1]; exact hco) rfl T pg' pt' pe' G hLk hW I7 nc z.there lk7 st7 (fun b hb => (f3 b hb).1) w0
  cases hf : codeAmong gpos ps.toList with
  | none =>
    refine wpAny_genexprCodeX hcode (cd.code hPs ht) (cd.tab hPs) hf fun c' h' tk hx hge hlt hco' _ htab' _ => ?_
    obtain ⟨o1, vs, f1, tf, fl, tg, inF, tx, tt, op, _, _, _, _, _, _, _, _, _, htr, _⟩ := hco'
    exact cont _ h' tk _ hx (Nat.le_trans hge (Nat.le_of_lt hlt)) htab'.2 htr
  | some cv =>
    refine wpAny_genexprCode_hit hcode (cd.code hPs ht) hf ?_
    exact cont cv s2.heap s2.toks #[] (Heap.ExtBut.refl _ _) (Nat.le_refl _) (by rw [Array.append_empty]; exact hPs) (by rw [Array.append_empty]; exact ht)
end
end GXP
namespace GXP
open PySem PySem.Spec PyProof.Rows L2
/-! the consumers -/
/-- the list that the consumer fills -/
abbrev tmpL (acc : Array Value) (c : Nat) : Obj := { cls := .type "list", dict := none, data := .seq acc c, slots := #[] }
def LkT (S : Addr) (ys : List V) (h : Heap) : Prop := ∃ acc c, h.get? S = some (tmpL acc c) ∧ Vals ys acc.toList ∧ ys.length ≤ sizeLine
theorem lnkT (S : Addr) : Lnk [S] (LkT S) := ⟨fun _ _ _ ⟨acc, c, e, r⟩ k => ⟨acc, c, k S (List.mem_singleton.mpr rfl) _ e, r⟩⟩
def cyT : Cy := fun ys y H Nx => ys.length < sizeLine ∧ Nx (ys ++ [y]) H
theorem lnkN : Lnk [] (fun _ _ => True) := ⟨fun _ _ _ _ _ => trivial⟩
/-- all, any: b0 ends it -/
def cyB (b0 : Bool) (Qf : Hp → Prop) : Cy := fun ys y H Nx => ∃ b, y = .bl b ∧ if b = b0 then Qf H else Nx (ys ++ [y]) H
def sumV : List V → Int
  | [] => 0
  | .int z :: r => z + sumV r
  | _ :: r => sumV r
theorem sumV_snoc : ∀ (ys : List V) (z : Int), sumV (ys ++ [.int z]) = sumV ys + z
  | [], z => by simp [sumV]
  | y :: r, z => by
    have ih := sumV_snoc r z
    cases y <;> simp only [List.cons_append, sumV, ih] <;> omega
def LkS (S : Addr) (ys : List V) (h : Heap) : Prop := ∃ t c, h.get? S = some (tmpL #[.int (sumV ys) t] c)
theorem lnkS (S : Addr) : Lnk [S] (LkS S) := ⟨fun _ _ _ ⟨t, c, e⟩ k => ⟨t, c, k S (List.mem_singleton.mpr rfl) _ e⟩⟩
def cyS : Cy := fun ys y H Nx => ∃ z, y = .int z ∧ InLong z ∧ InLong (sumV ys + z) ∧ Nx (ys ++ [y]) H
section
variable {X : Cx} {pins : List (Addr × Obj)} {σ : L2.St} {sg : Shared} {Hg : Hp} {fp : List Addr} {a g S : Addr} {go : Obj} {A A1 : Around} {ce : Env} {Qe : List V → Hp → Prop} {R : Result → Shared → Prop}
theorem gx_drain (M : GMk X pins σ sg Hg fp a g go) (hh : A.handled = none) (hd : A.depth < recursionLimit) (hSa : a ∉ [S]) (hSc : cStatics ∉ [S]) {res : Value}
    (fin : ∀ (s' : Shared) (ys : List V) (H : Hp) (acc : Array Value) (c : Nat), Inv X pins σ H s' → H S = none → s'.heap.get? S = some (tmpL acc c) → Vals ys acc.toList → ys.length ≤ sizeLine → Qe ys H → R (.ok (.ret res)) s') :
    ∀ (n : Nat) (ys : List V) (s : Shared), GRun (gcx X A1 sg Hg ce fp) [S] (LkT S) cyT Qe a g go A.in1.in1 n ys s → LkT S ys s.heap → AllBare s.gens → codeAny (model X.prog X.w) A (.builtin "list.extend.loop" ⟨[.ref S, .ref a, res], []⟩) R s := by
  have E0 := F.entry_extend_loop
  intro n
  induction n with
  | zero =>
    intro ys s G lk hb
    obtain ⟨acc, c, eS, r, hz⟩ := id lk
    refine codeAny_builtin E0 ?_
    rw [Around.under_plainId F.plain_extend_loop]
    refine wpAny_bind (thnF (gx_next M (lnkT S) hSa hSc (A := A.in1) hh hd G hb (fun b hb => ?_) lk) fun r s1 hN => ?_)
    · rw [List.mem_singleton.mp hb]
      exact ⟨_, eS, fun v z => by cases z⟩
    · obtain ⟨kc, hN⟩ := hN
      cases r with
      | none =>
        obtain ⟨ys1, H1, I1, n1, ⟨acc1, c1, e1, r1, z1⟩, q1⟩ := hN
        exact wpAny_pure (fin s1 ys1 H1 acc1 c1 I1 (n1 S (List.mem_singleton.mpr rfl)) e1 r1 z1 q1)
      | some v =>
        obtain ⟨ys1, y, H1, Nx, I1, ry, n1, ⟨acc1, c1, e1, r1, z1⟩, ⟨hlt, hN1⟩, wake⟩ := hN
        have hs : acc1.size < sizeLine := by
          have := r1.length
          simp only [Array.length_toList] at this
          omega
        show wpAny _ A.in1 (updateSeq S (·.push v) >>= _) _ _ _
        refine wpAny_bind (wpAny_updateSeq e1 rfl ?_ (Nat.le_of_lt hs) (by show (acc1.push v).size ≤ sizeLine + 1; rw [Array.size_push]; omega))
        have o1 := Heap.get?_update_self (Obj.mapSeq (·.push v)) e1 rfl
        refine (wake (ys1 ++ [y]) hN1 { s1 with heap := s1.heap.update S (Obj.mapSeq (·.push v)) } ⟨rfl, I1.bare, fun b o hb e => ?_, fun b hb => ?_⟩ ⟨_, _, o1, ?_, ?_⟩ rfl).elim (fun n' h => (Nat.succ_ne_zero n' h.1.symm).elim)
        · exact (Heap.get?_update_other _ _ (fun z => hb (List.mem_singleton.mpr z.symm))).trans e
        · rw [List.mem_singleton.mp hb]
          exact ⟨_, o1, fun v z => by cases z⟩
        · rw [Array.toList_push]
          exact r1.append (.cons ry .nil)
        · rw [List.length_append]
          exact hlt
  | succ n ih =>
    intro ys s G lk hb
    obtain ⟨acc, c, eS, r, hz⟩ := id lk
    refine codeAny_builtin E0 ?_
    rw [Around.under_plainId F.plain_extend_loop]
    refine wpAny_bind (thnF (gx_next M (lnkT S) hSa hSc (A := A.in1) hh hd G hb (fun b hb => ?_) lk) fun r s1 hN => ?_)
    · rw [List.mem_singleton.mp hb]
      exact ⟨_, eS, fun v z => by cases z⟩
    · obtain ⟨kc, hN⟩ := hN
      cases r with
      | none =>
        obtain ⟨ys1, H1, I1, n1, ⟨acc1, c1, e1, r1, z1⟩, q1⟩ := hN
        exact wpAny_pure (fin s1 ys1 H1 acc1 c1 I1 (n1 S (List.mem_singleton.mpr rfl)) e1 r1 z1 q1)
      | some v =>
        obtain ⟨ys1, y, H1, Nx, I1, ry, n1, ⟨acc1, c1, e1, r1, z1⟩, ⟨hlt, hN1⟩, wake⟩ := hN
        have hs : acc1.size < sizeLine := by
          have := r1.length
          simp only [Array.length_toList] at this
          omega
        show wpAny _ A.in1 (updateSeq S (·.push v) >>= _) _ _ _
        refine wpAny_bind (wpAny_updateSeq e1 rfl (wpAny_pure ⟨plainId_quiet F.plain_extend_loop _, ?_⟩) (Nat.le_of_lt hs) (by show (acc1.push v).size ≤ sizeLine + 1; rw [Array.size_push]; omega))
        have o1 := Heap.get?_update_self (Obj.mapSeq (·.push v)) e1 rfl
        have lk2 : LkT S (ys1 ++ [y]) (s1.heap.update S (Obj.mapSeq (·.push v))) := ⟨_, _, o1, by rw [Array.toList_push]; exact r1.append (.cons ry .nil), by rw [List.length_append]; exact hlt⟩
        obtain ⟨n', hn, G'⟩ := wake (ys1 ++ [y]) hN1 { s1 with heap := s1.heap.update S (Obj.mapSeq (·.push v)) } ⟨rfl, I1.bare, fun b o hb e => (Heap.get?_update_other _ _ (fun z => hb (List.mem_singleton.mpr z.symm))).trans e, fun b hb => by
          rw [List.mem_singleton.mp hb]
          exact ⟨_, o1, fun v z => by cases z⟩⟩ lk2 rfl
        cases hn
        exact ih (ys1 ++ [y]) _ G' lk2 I1.bare
end
end GXP
namespace GXP
open PySem PySem.Spec PyProof.Rows L2
section
variable {X : Cx} {pins : List (Addr × Obj)} {σ : L2.St} {sg : Shared} {Hg : Hp} {fp : List Addr} {a g S : Addr} {go : Obj} {A A1 : Around} {ce : Env} {Qe : List V → Hp → Prop} {Qf : Hp → Prop} {R : Result → Shared → Prop}
theorem gx_all (M : GMk X pins σ sg Hg fp a g go) (hh : A.handled = none) (hd : A.depth < recursionLimit)
    (fin : ∀ (s' : Shared) (H : Hp) (b : Bool), Inv X pins σ H s' → (b = true → ∃ ys, Qe ys H) → (b = false → Qf H) → R (.ok (.ret (.bool b))) s') :
    ∀ (n : Nat) (ys : List V) (s : Shared), GRun (gcx X A1 sg Hg ce fp) [] (fun _ _ => True) (cyB false Qf) Qe a g go A.in1.in1 n ys s → AllBare s.gens → codeAny (model X.prog X.w) A (.builtin "all.loop" ⟨[.ref a], []⟩) R s := by
  have E0 := F.entry_all_loop
  intro n
  induction n with
  | zero =>
    intro ys s G hb
    refine codeAny_builtin E0 ?_
    rw [Around.under_plainId F.plain_all_loop]
    refine wpAny_bind (thnF (gx_next M lnkN (by simp) (by simp) (A := A.in1) hh hd G hb (fun b hb => by cases hb) trivial) fun r s1 ⟨_, hN⟩ => ?_)
    cases r with
    | none =>
      obtain ⟨ys1, H1, I1, _, _, q1⟩ := hN
      exact wpAny_bind (wpAny_rule (wpAny_pure (fin s1 H1 true I1 (fun _ => ⟨ys1, q1⟩) (fun z => by cases z))))
    | some v =>
      obtain ⟨ys1, y, H1, Nx, I1, ry, _, _, ⟨b, rfl, q⟩, wake⟩ := hN
      cases ry
      refine wpAny_bind (wpAny_holding (wpAny_truthy_bool (wpAny_bind (wpAny_letGo ?_))))
      cases b with
      | true =>
        rw [if_neg (by decide)] at q
        obtain ⟨n', h, _⟩ := wake _ q s1 ⟨rfl, I1.bare, fun _ _ _ e => e, fun b hb => by cases hb⟩ trivial rfl
        cases h
      | false =>
        rw [if_pos rfl] at q
        exact wpAny_bind (wpAny_rule (wpAny_pure (fin s1 H1 false I1 (fun z => by cases z) (fun _ => q))))
  | succ n ih =>
    intro ys s G hb
    refine codeAny_builtin E0 ?_
    rw [Around.under_plainId F.plain_all_loop]
    refine wpAny_bind (thnF (gx_next M lnkN (by simp) (by simp) (A := A.in1) hh hd G hb (fun b hb => by cases hb) trivial) fun r s1 ⟨_, hN⟩ => ?_)
    cases r with
    | none =>
      obtain ⟨ys1, H1, I1, _, _, q1⟩ := hN
      exact wpAny_bind (wpAny_rule (wpAny_pure (fin s1 H1 true I1 (fun _ => ⟨ys1, q1⟩) (fun z => by cases z))))
    | some v =>
      obtain ⟨ys1, y, H1, Nx, I1, ry, _, _, ⟨b, rfl, q⟩, wake⟩ := hN
      cases ry
      refine wpAny_bind (wpAny_holding (wpAny_truthy_bool (wpAny_bind (wpAny_letGo ?_))))
      cases b with
      | true =>
        rw [if_neg (by decide)] at q
        obtain ⟨n', h, G'⟩ := wake _ q s1 ⟨rfl, I1.bare, fun _ _ _ e => e, fun b hb => by cases hb⟩ trivial rfl
        cases h
        exact wpAny_pure ⟨plainId_quiet F.plain_all_loop _, ih _ s1 G' I1.bare⟩
      | false =>
        rw [if_pos rfl] at q
        exact wpAny_bind (wpAny_rule (wpAny_pure (fin s1 H1 false I1 (fun z => by cases z) (fun _ => q))))
theorem gx_any (M : GMk X pins σ sg Hg fp a g go) (hh : A.handled = none) (hd : A.depth < recursionLimit)
    (fin : ∀ (s' : Shared) (H : Hp) (b : Bool), Inv X pins σ H s' → (b = false → ∃ ys, Qe ys H) → (b = true → Qf H) → R (.ok (.ret (.bool b))) s') :
    ∀ (n : Nat) (ys : List V) (s : Shared), GRun (gcx X A1 sg Hg ce fp) [] (fun _ _ => True) (cyB true Qf) Qe a g go A.in1.in1 n ys s → AllBare s.gens → codeAny (model X.prog X.w) A (.builtin "any.loop" ⟨[.ref a], []⟩) R s := by
  have E0 := F.entry_any_loop
  intro n
  induction n with
  | zero =>
    intro ys s G hb
    refine codeAny_builtin E0 ?_
    rw [Around.under_plainId F.plain_any_loop]
    refine wpAny_bind (thnF (gx_next M lnkN (by simp) (by simp) (A := A.in1) hh hd G hb (fun b hb => by cases hb) trivial) fun r s1 ⟨_, hN⟩ => ?_)
    cases r with
    | none =>
      obtain ⟨ys1, H1, I1, _, _, q1⟩ := hN
      exact wpAny_bind (wpAny_rule (wpAny_pure (fin s1 H1 false I1 (fun _ => ⟨ys1, q1⟩) (fun z => by cases z))))
    | some v =>
      obtain ⟨ys1, y, H1, Nx, I1, ry, _, _, ⟨b, rfl, q⟩, wake⟩ := hN
      cases ry
      refine wpAny_bind (wpAny_holding (wpAny_truthy_bool (wpAny_bind (wpAny_letGo ?_))))
      cases b with
      | false =>
        rw [if_neg (by decide)] at q
        obtain ⟨n', h, _⟩ := wake _ q s1 ⟨rfl, I1.bare, fun _ _ _ e => e, fun b hb => by cases hb⟩ trivial rfl
        cases h
      | true =>
        rw [if_pos rfl] at q
        exact wpAny_bind (wpAny_rule (wpAny_pure (fin s1 H1 true I1 (fun z => by cases z) (fun _ => q))))
  | succ n ih =>
    intro ys s G hb
    refine codeAny_builtin E0 ?_
    rw [Around.under_plainId F.plain_any_loop]
    refine wpAny_bind (thnF (gx_next M lnkN (by simp) (by simp) (A := A.in1) hh hd G hb (fun b hb => by cases hb) trivial) fun r s1 ⟨_, hN⟩ => ?_)
    cases r with
    | none =>
      obtain ⟨ys1, H1, I1, _, _, q1⟩ := hN
      exact wpAny_bind (wpAny_rule (wpAny_pure (fin s1 H1 false I1 (fun _ => ⟨ys1, q1⟩) (fun z => by cases z))))
    | some v =>
      obtain ⟨ys1, y, H1, Nx, I1, ry, _, _, ⟨b, rfl, q⟩, wake⟩ := hN
      cases ry
      refine wpAny_bind (wpAny_holding (wpAny_truthy_bool (wpAny_bind (wpAny_letGo ?_))))
      cases b with
      | false =>
        rw [if_neg (by decide)] at q
        obtain ⟨n', h, G'⟩ := wake _ q s1 ⟨rfl, I1.bare, fun _ _ _ e => e, fun b hb => by cases hb⟩ trivial rfl
        cases h
        exact wpAny_pure ⟨plainId_quiet F.plain_any_loop _, ih _ s1 G' I1.bare⟩
      | true =>
        rw [if_pos rfl] at q
        exact wpAny_bind (wpAny_rule (wpAny_pure (fin s1 H1 true I1 (fun z => by cases z) (fun _ => q))))
theorem gx_sum (M : GMk X pins σ sg Hg fp a g go) (hh : A.handled = none) (hd : A.depth < recursionLimit) (hSa : a ∉ [S]) (hSc : cStatics ∉ [S])
    (fin : ∀ (s' : Shared) (ys : List V) (H : Hp) (t : Tok), Inv X pins σ H s' → H S = none → Qe ys H → R (.ok (.ret (.int (sumV ys) t))) s') :
    ∀ (n : Nat) (ys : List V) (s : Shared), GRun (gcx X A1 sg Hg ce fp) [S] (LkS S) cyS Qe a g go A.in1.in1 n ys s → LkS S ys s.heap → AllBare s.gens → codeAny (model X.prog X.w) A (.builtin "sum.loop" ⟨[.ref a, .ref S, rawInt 0, rawInt 0], []⟩) R s := by
  have E0 := F.entry_sum_loop
  have cwt : ∀ {ys : List V} {s : Shared}, LkS S ys s.heap → ∀ b ∈ [S], ∃ o, s.heap.get? b = some o ∧ ∀ v, o.data ≠ .cell v := fun {ys s} lk b hb => by
    obtain ⟨t, c, e⟩ := lk
    rw [List.mem_singleton.mp hb]
    exact ⟨_, e, fun v z => by cases z⟩
  have turn : ∀ (n : Nat) (ys : List V) (s : Shared), GRun (gcx X A1 sg Hg ce fp) [S] (LkS S) cyS Qe a g go A.in1.in1 n ys s → LkS S ys s.heap → AllBare s.gens →
      (∀ ys2 s2, (∃ n', n = n' + 1 ∧ GRun (gcx X A1 sg Hg ce fp) [S] (LkS S) cyS Qe a g go A.in1.in1 n' ys2 s2) → LkS S ys2 s2.heap → AllBare s2.gens → codeAny (model X.prog X.w) A (.builtin "sum.loop" ⟨[.ref a, .ref S, rawInt 0, rawInt 0], []⟩) R s2) →
      codeAny (model X.prog X.w) A (.builtin "sum.loop" ⟨[.ref a, .ref S, rawInt 0, rawInt 0], []⟩) R s := by
    intro n ys s G lk hb next
    obtain ⟨t, c, eS⟩ := id lk
    refine codeAny_builtin E0 ?_
    rw [Around.under_plainId F.plain_sum_loop]
    show wpAny _ A.in1 (seqItems? (.ref S) >>= _) _ _ s
    refine wpAny_bind (wpAny_seqItems eS rfl ?_)
    show wpAny _ A.in1 (tryCatch (pyNext (.ref a)) _ >>= _) _ _ s
    refine wpAny_bind (wpAny_tryCatch (thnF (gx_next M (lnkS S) hSa hSc (A := A.in1) hh hd G hb (cwt lk) lk) fun r s1 ⟨kc, hN⟩ => ?_))
    have eS1 := kc S (List.mem_singleton.mpr rfl) _ eS
    cases r with
    | none =>
      obtain ⟨ys1, H1, I1, n1, ⟨t1, c1, e1⟩, q1⟩ := hN
      have hd1 := congrArg Obj.data (Option.some.inj (eS1.symm.trans e1))
      simp only [Data.seq.injEq, Array.mk.injEq, List.cons.injEq, Value.int.injEq, and_true] at hd1
      rw [hd1.1.1]
      exact wpAny_pure (fin s1 ys1 H1 _ I1 (n1 S (List.mem_singleton.mpr rfl)) q1)
    | some v =>
      obtain ⟨ys1, y, H1, Nx, I1, ry, n1, ⟨t1, c1, e1⟩, ⟨z, rfl, ⟨f1, f2⟩, ⟨f3, f4⟩, hN1⟩, wake⟩ := hN
      obtain ⟨tz, rfl⟩ := ry
      have hd1 := congrArg Obj.data (Option.some.inj (eS1.symm.trans e1))
      simp only [Data.seq.injEq, Array.mk.injEq, List.cons.injEq, Value.int.injEq, and_true] at hd1
      rw [hd1.1.1]
      have hc : ((decide (-(2 ^ 63) ≤ z) && decide (z < 2 ^ 63)) && (decide (-(2 ^ 63) ≤ sumV ys1 + z) && decide (sumV ys1 + z < 2 ^ 63))) = true := by
        simp only [Bool.and_eq_true, decide_eq_true_eq]
        exact ⟨⟨f1, f2⟩, f3, f4⟩
      show wpAny _ A.in1 (if (_ : Bool) = true then (mkInt (sumV ys1 + z) >>= _) else _) _ _ _
      split
      · refine wpAny_bind (wpAny_mkInt ?_)
        show wpAny _ A.in1 (updateSeq S (fun _ => #[.int (sumV ys1 + z) s1.toks]) >>= _) _ _ _
        have o1 := Heap.get?_update_self (Obj.mapSeq (fun _ => #[Value.int (sumV ys1 + z) s1.toks])) e1 rfl
        have lk2 : LkS S (ys1 ++ [.int z]) (s1.heap.update S (Obj.mapSeq (fun _ => #[Value.int (sumV ys1 + z) s1.toks]))) := ⟨s1.toks, _, by rw [sumV_snoc]; exact o1⟩
        refine wpAny_bind (wpAny_updateSeq e1 rfl (wpAny_pure ⟨plainId_quiet F.plain_sum_loop _, ?_⟩))
        refine next (ys1 ++ [.int z]) _ (wake _ hN1 { s1 with heap := s1.heap.update S (Obj.mapSeq (fun _ => #[Value.int (sumV ys1 + z) s1.toks])), toks := s1.toks + 1 } ⟨rfl, I1.bare, fun b o hb e => (Heap.get?_update_other _ _ (fun q => hb (List.mem_singleton.mpr q.symm))).trans e, cwt lk2⟩ lk2 rfl) lk2 I1.bare
      · rename_i hneg
        exact absurd hc hneg
  intro n
  induction n with
  | zero =>
    intro ys s G lk hb
    exact turn 0 ys s G lk hb fun ys2 s2 ⟨n', h, _⟩ => by cases h
  | succ n ih =>
    intro ys s G lk hb
    refine turn (n + 1) ys s G lk hb fun ys2 s2 ⟨n', h, G'⟩ lk2 hb2 => ?_
    cases h
    exact ih ys2 s2 G' lk2 hb2
end
end GXP
namespace GXP
open PySem PySem.Spec PyProof.Rows L2
section
variable {X : Cx} {pins : List (Addr × Obj)} {σ : L2.St} {a : Addr} {A : Around} {Qe : List V → Hp → Prop} {s : Shared} {m : Nat} {E : Value → Shared → Prop}
theorem gx_collect (hG : GReady X pins σ m cyT Qe a s) (hh : A.handled = none) (hf : A.frames = some X.stack) (hd : A.depth ≤ X.A.depth + 1) (hu : A.units + 2 ≤ X.A.units + 8) (hl : A.depth < recursionLimit) {Q : List Value → Shared → Prop}
    (hQ : ∀ (items : List Value) (s' : Shared) (ys : List V) (H : Hp), Inv X pins σ H s' → Vals ys items → ys.length ≤ sizeLine → Qe ys H → Q items s') : wpAny (model X.prog X.w) A (collect (.ref a)) Q E s := by
  obtain ⟨g, go, sg, Hg, fp, ce, M, I0, ha, lim, ready⟩ := hG.ex
  have hgen := fun (h : Heap) (e : h.get? a = some go) => M.isGen h e
  have hSa : s.heap.objs.size ≠ a := fun z => by
    have := Heap.lt_size ha
    rw [← z] at this
    exact Nat.lt_irrefl _ this
  have hSc : s.heap.objs.size ≠ cStatics := fun z => by
    obtain ⟨_, hn, _⟩ := lim
    have := hn.lt
    rw [← z] at this
    exact Nat.lt_irrefl _ this
  unfold collect
  refine wpAny_bind (wpAny_runValue (codeAny_builtin F.entry_proto_collect ?_))
  rw [Around.under_plainId F.plain_proto_collect]
  show wpAny _ A.in1 (newList [] >>= fun l => again (.builtin "list.__iadd__" ⟨[l, .ref a], []⟩)) _ _ s
  refine wpAny_bind (wpAny_newObj_type (wpAny_pure ⟨plainId_quiet F.plain_list_iadd _, codeAny_builtin F.entry_list_iadd ?_⟩))
  rw [Around.under_plainId F.plain_list_iadd]
  show wpAny _ A.in1 (Builtin.List.listExtendWith (.ref s.heap.objs.size) (.ref a) (.ref s.heap.objs.size)) _ _ _
  unfold Builtin.List.listExtendWith
  have k1 : ∀ b o, s.heap.get? b = some o → (s.heap.push { cls := .type "list", data := .seq ([] : List Value).toArray }).get? b = some o := fun b o e => Heap.get?_push_of_some _ e
  refine wpAny_bind (wpAny_typeOf (Heap.IsGen.typeIs (s := { s with heap := _ }) (hgen _ (k1 _ _ ha))) ?_)
  have q1 : Builtin.List.listSameRef (.ref s.heap.objs.size) (.ref a) = false := by simp [Builtin.List.listSameRef, hSa]
  have q2 : (Value.type "generator" == Value.type "list") = false := by decide
  have q3 : (Value.type "generator" == Value.type "tuple") = false := by decide
  simp only [q1, q2, q3, Bool.or_false, Bool.false_eq_true, if_false]
  refine wpAny_bind (wpAny_pyIter_gen (s := { s with heap := _ }) (hgen _ (k1 _ _ ha)) (wpAny_bind (wpAny_holding ?_)))
  unfold Builtin.List.listLengthHint
  refine wpAny_bind (wpAny_specialOf (Heap.IsGen.typeIs (s := { s with heap := _ }) (hgen _ (k1 _ _ ha))) F.gen_no_len ?_)
  show wpAny _ A.in1 (specialOf (Value.ref a) (Str.ofString "__length_hint__") >>= _) _ _ _
  refine wpAny_bind (wpAny_specialOf (Heap.IsGen.typeIs (s := { s with heap := _ }) (hgen _ (k1 _ _ ha))) F.gen_no_hint (wpAny_pure ?_))
  show wpAny _ A.in1 (rule "list.extend.makes-room" >>= fun _ => Builtin.List.listTouch (.ref s.heap.objs.size) >>= fun _ =>
    again (.builtin "list.extend.loop" ⟨[.ref s.heap.objs.size, .ref a, .ref s.heap.objs.size], []⟩)) _ _ _
  refine wpAny_bind (wpAny_rule (wpAny_bind ?_))
  have o1 : (s.heap.push { cls := .type "list", data := .seq ([] : List Value).toArray }).get? s.heap.objs.size = some { cls := .type "list", data := .seq ([] : List Value).toArray } := Heap.get?_push_size _ rfl
  show wpAny _ A.in1 (updateSeq s.heap.objs.size (·.push .none) >>= fun _ => updateSeq s.heap.objs.size (·.pop)) _ _ _
  refine wpAny_bind (wpAny_updateSeq o1 rfl ?_)
  have o2 := Heap.get?_update_self (Obj.mapSeq (·.push Value.none)) o1 rfl
  refine wpAny_updateSeq o2 rfl (wpAny_pure ⟨plainId_quiet F.plain_extend_loop _, ?_⟩)
  have o3 := Heap.get?_update_self (Obj.mapSeq (·.pop)) o2 rfl
  have k3 : ∀ b o, s.heap.get? b = some o → (((s.heap.push { cls := .type "list", data := .seq ([] : List Value).toArray }).update s.heap.objs.size (Obj.mapSeq (·.push Value.none))).update s.heap.objs.size (Obj.mapSeq (·.pop))).get? b = some o := fun b o e =>
    have hb : s.heap.objs.size ≠ b := fun z => Nat.lt_irrefl b (by have := Heap.lt_size e; rw [z] at this; exact this)
    (Heap.get?_update_other _ _ hb).trans ((Heap.get?_update_other _ _ hb).trans (k1 b o e))
  have lk0 : LkT s.heap.objs.size [] (((s.heap.push { cls := .type "list", data := .seq ([] : List Value).toArray }).update s.heap.objs.size (Obj.mapSeq (·.push Value.none))).update s.heap.objs.size (Obj.mapSeq (·.pop))) := ⟨_, _, o3, .nil, Nat.zero_le _⟩
  have G := ready [s.heap.objs.size] (LkT s.heap.objs.size) A.in1.in1 { s with heap := ((s.heap.push { cls := .type "list", data := .seq ([] : List Value).toArray }).update s.heap.objs.size (Obj.mapSeq (·.push Value.none))).update s.heap.objs.size (Obj.mapSeq (·.pop)) } (lnkT _) hh hf hd hu
    (fun b hb => by rw [List.mem_singleton.mp hb]; exact Nat.le_refl _) k3 (fun b hb => by rw [List.mem_singleton.mp hb]; exact ⟨_, o3, fun v z => by cases z⟩) rfl rfl lk0
  refine gx_drain M hh hl (fun hm => hSa (List.mem_singleton.mp hm).symm) (fun hm => hSc (List.mem_singleton.mp hm).symm) (fun s' ys H acc c I' n' e' r' z' q' => ?_) m [] _ G lk0 I0.bare
  show wpAny _ A (load s.heap.objs.size >>= _) _ _ s'
  exact wpAny_bind (wpAny_load e' (wpAny_pure (hQ acc.toList s' ys H I' r' z' q')))
theorem call_tuple_gx (hr : Room 1 X.A) (hf : X.A.frames = some X.stack) {Q : VK} (hG : GReady X pins σ m cyT (fun ys H => ∀ p, H p = none → Q (.ref p) (upd H p (.tup ys))) a s) :
    wpAny (model X.prog X.w) X.A (call (.type "tuple") [.ref a]) (EP X pins σ Q) E s := by
  obtain ⟨g, go, sg, Hg, fp, ce, M, I0, ha, lim, ready⟩ := id hG.ex
  have hTI : s.TypeIs (.ref a) "generator" := (M.isGen _ ha).typeIs
  refine callType_codes (Q₁ := fun obj s1 => s1.TypeIs obj "tuple" ∧ EP X pins σ Q obj s1) F.called_tuple (F.typeCall_tuple_1 _) F.entry_object_init (codeAny_of_tree ?_) fun obj s1 h1 =>
    ⟨h1.1, F.args_object_init_2 obj _, object_init_meets F.called_tuple.init.lookup F.called_tuple.made (by decide) X.prog X.w X.A.in1 _ s1 ⟨h1.1, rfl, h1.2⟩⟩
  show wpAny _ X.A.in1.in1 (do checkBuiltinCall "tuple.__new__" ⟨[.type "tuple", .ref a], []⟩; again (.builtin "tuple.__new__" ⟨[.type "tuple", .ref a], []⟩)) _ _ s
  refine wpAny_bind (wpAny_of_eq (F.newCall_tuple_1 _) (wpAny_pure ⟨plainId_quiet F.plain_tuple_new _, codeAny_builtin F.entry_tuple_new ?_⟩))
  rw [Around.under_plainId F.plain_tuple_new]
  have hsub := sub_tuple_self
  have hinit := init_tuple_lookup
  have hmh := madeHere_tuple
  have hr1 := hr.dp
  have hr2 := hr.hd
  have col := fun (Q : List Value → Shared → Prop) (E : Value → Shared → Prop) hQ => gx_collect (A := X.A.in1.in1) (E := E) (Q := Q) hG hr2 hf (Nat.le_succ _) (by show X.A.units + 1 + 1 + 2 ≤ _; omega) (by show X.A.depth < _; omega) hQ
  wp_walk using wpAny_typeOf hTI, col
  intro items s' ys H I' r' z' q'
  show wpAny _ _ (Builtin.Tuple.tupleExact items.toArray >>= fun v => ret v) _ _ _
  unfold Builtin.Tuple.tupleExact
  refine wpAny_bind (wpAny_newObj_type (wpAny_pure ?_) ?_)
  · have hn : H s'.heap.objs.size = none := I'.hok.fresh (Nat.le_refl _)
    refine ⟨⟨_, Heap.get?_push_size _ rfl, rfl⟩, .ref s'.heap.objs.size, _, I'.laid (t' := s'.toks) (o := .tup ys) (fun b o e => Heap.get?_push_of_some _ e) (Nat.le_refl _) ⟨z', items, r', ?_⟩, rfl, q' _ hn⟩
    exact ⟨_, Heap.get?_push_size _ rfl, rfl, 0, rfl⟩
  · show items.toArray.size ≤ sizeLine
    rw [List.size_toArray, ← r'.length]
    exact z'
theorem call_all_gx (hr : Room 1 X.A) (hf : X.A.frames = some X.stack) {Q : VK} (hG : GReady X pins σ m (cyB false (Q (.bl false))) (fun _ H => Q (.bl true) H) a s) :
    wpAny (model X.prog X.w) X.A (call (.builtin "all") [.ref a]) (EP X pins σ Q) E s := by
  obtain ⟨g, go, sg, Hg, fp, ce, M, I0, ha, lim, ready⟩ := id hG.ex
  have hr1 := hr.dp
  refine call_function_tree F.kind_all F.plain_all F.entry_all (F.args_all1 _) ?_
  unfold Builtin.«all»
  refine wpAny_bind (m := oneArg "all" _) (wpAny_pure (wpAny_bind (wpAny_pyIter_gen (M.isGen _ ha) (wpAny_pure ⟨plainId_quiet F.plain_all_loop _, ?_⟩))))
  have G := ready [] (fun _ _ => True) X.A.in1.in1 s lnkN hr.hd hf (Nat.le_succ _) (by show X.A.units + 1 + 1 ≤ _; omega) (fun b hb => by cases hb) (fun _ _ e => e) (fun b hb => by cases hb) rfl rfl trivial
  refine gx_all M hr.hd (by omega) (fun s' H b I' h1 h2 => ?_) m [] s G I0.bare
  cases b with
  | true =>
    obtain ⟨_, q⟩ := h1 rfl
    exact ⟨.bl true, H, I', rfl, q⟩
  | false => exact ⟨.bl false, H, I', rfl, h2 rfl⟩
theorem call_any_gx (hr : Room 1 X.A) (hf : X.A.frames = some X.stack) {Q : VK} (hG : GReady X pins σ m (cyB true (Q (.bl true))) (fun _ H => Q (.bl false) H) a s) :
    wpAny (model X.prog X.w) X.A (call (.builtin "any") [.ref a]) (EP X pins σ Q) E s := by
  obtain ⟨g, go, sg, Hg, fp, ce, M, I0, ha, lim, ready⟩ := id hG.ex
  have hr1 := hr.dp
  refine call_function_tree F.kind_any F.plain_any F.entry_any (F.args_any1 _) ?_
  unfold Builtin.«any»
  refine wpAny_bind (m := oneArg "any" _) (wpAny_pure (wpAny_bind (wpAny_pyIter_gen (M.isGen _ ha) (wpAny_pure ⟨plainId_quiet F.plain_any_loop _, ?_⟩))))
  have G := ready [] (fun _ _ => True) X.A.in1.in1 s lnkN hr.hd hf (Nat.le_succ _) (by show X.A.units + 1 + 1 ≤ _; omega) (fun b hb => by cases hb) (fun _ _ e => e) (fun b hb => by cases hb) rfl rfl trivial
  refine gx_any M hr.hd (by omega) (fun s' H b I' h1 h2 => ?_) m [] s G I0.bare
  cases b with
  | false =>
    obtain ⟨_, q⟩ := h1 rfl
    exact ⟨.bl false, H, I', rfl, q⟩
  | true => exact ⟨.bl true, H, I', rfl, h2 rfl⟩
theorem call_sum_gx (hr : Room 1 X.A) (hf : X.A.frames = some X.stack) {Q : VK} (hG : GReady X pins σ m cyS (fun ys H => Q (.int (sumV ys)) H) a s) :
    wpAny (model X.prog X.w) X.A (call (.builtin "sum") [.ref a]) (EP X pins σ Q) E s := by
  obtain ⟨g, go, sg, Hg, fp, ce, M, I0, ha, lim, ready⟩ := id hG.ex
  have hr1 := hr.dp
  have hSa : s.heap.objs.size ≠ a := fun z => by
    have := Heap.lt_size ha
    rw [← z] at this
    exact Nat.lt_irrefl _ this
  have hSc : s.heap.objs.size ≠ cStatics := fun z => by
    obtain ⟨_, hn, _⟩ := lim
    have := hn.lt
    rw [← z] at this
    exact Nat.lt_irrefl _ this
  refine call_function_tree F.kind_sum F.plain_sum F.entry_sum (F.args_sum1 _) ?_
  unfold Builtin.«sum»
  simp only [List.length_cons, List.length_nil]; rw [if_neg (by decide)]
  refine wpAny_bind (wpAny_of_eq (show Builtin.Builtins.bindParams "sum" ["start"] 0 { } = pure [none] from rfl) (wpAny_bind (wpAny_pyIter_gen (M.isGen _ ha) (wpAny_bind (wpAny_mkInt (wpAny_bind (wpAny_pure ?_)))))))
  simp only [List.forIn_cons, List.forIn_nil]; refine wpAny_bind (wpAny_bind (wpAny_bind (wpAny_isInstance (T := "int") (b := false) (typeIs_int _ _ _) PySem.sub_int_str ?_)))
  simp only [Bool.false_eq_true, if_false]; refine wpAny_pure (wpAny_bind (wpAny_bind (wpAny_isInstance (T := "int") (b := false) (typeIs_int _ _ _) sub_int_bytes ?_)))
  simp only [Bool.false_eq_true, if_false]; refine wpAny_pure (wpAny_bind (wpAny_bind (wpAny_isInstance (T := "int") (b := false) (typeIs_int _ _ _) sub_int_bytearray ?_)))
  simp only [Bool.false_eq_true, if_false]; refine wpAny_pure (wpAny_pure (wpAny_bind (wpAny_newObj_type (wpAny_pure ⟨plainId_quiet F.plain_sum_loop _, ?_⟩))))
  have o1 : (s.heap.push { cls := .type "list", data := .seq ([.int 0 s.toks] : List Value).toArray }).get? s.heap.objs.size = some { cls := .type "list", data := .seq ([.int 0 s.toks] : List Value).toArray } := Heap.get?_push_size _ rfl
  have lk0 : LkS s.heap.objs.size [] (s.heap.push { cls := .type "list", data := .seq ([.int 0 s.toks] : List Value).toArray }) := ⟨s.toks, 0, o1⟩
  have G := ready [s.heap.objs.size] (LkS s.heap.objs.size) X.A.in1.in1 { s with heap := s.heap.push { cls := .type "list", data := .seq ([.int 0 s.toks] : List Value).toArray }, toks := s.toks + 1 } (lnkS _) hr.hd hf (Nat.le_succ _) (by show X.A.units + 1 + 1 ≤ _; omega)
    (fun b hb => by rw [List.mem_singleton.mp hb]; exact Nat.le_refl _) (fun b o e => Heap.get?_push_of_some _ e) (fun b hb => by rw [List.mem_singleton.mp hb]; exact ⟨_, o1, fun v z => by cases z⟩) rfl rfl lk0
  refine gx_sum M hr.hd (by omega) (fun hm => hSa (List.mem_singleton.mp hm).symm) (fun hm => hSc (List.mem_singleton.mp hm).symm) (fun s' ys H t I' n' q' => ?_) m [] _ G lk0 I0.bare
  exact ⟨.int (sumV ys), H, I', ⟨t, rfl⟩, q'⟩
end
end GXP
namespace GXP
open PySem PySem.Spec PyProof.Rows L2
/-- F(elt for target in iter if ..): what its reading asks; P the table of the def's code object -/
def tGx (P : Addr) (wi : TI) (g : TG) (tt : TT) (te : TE) (vs : List Nat) (cy : VK → Cy) (Qe : VK → List V → Hp → Prop) : TE := fun σ H Q =>
  wi σ H fun J H1 => GxR.TabG H1 P ∧ ∀ H2, GxR.Tabbed P H1 H2 → ∃ W m, W 0 m [] H2 ∧ Turns J g tt te vs σ (cy Q) (Qe Q) W
section
variable {X : Cx} {c P : Addr} {elt iter tg : Expr} {ifs : List Expr} {scope : Scope} {p pos gpos : Pos} {own : List (Str × Nat)} {wi : TI} {g : TG} {tt : TT} {te : TE} {k : Nat}
/-- what is asked of the expression itself -/
structure GxOk (X : Cx) (k : Nat) (c P : Addr) (elt tg iter : Expr) (ifs : List Expr) (scope : Scope) (own : List (Str × Nat)) (wi : TI) (g : TG) (tt : TT) (te : TE) : Prop where
  hr : Room (k + 1) X.A
  hc : X.calm = true
  tb : LamX.TabB X.base X.mg c P
  code : X.env.code = .ref c
  co : scope.isCoroutine = false
  ok : BlkOk X.N X.env.scope scope own
  nd : X.N.Nodup
  nocell : ∀ y ∈ scope.names, y.2 ≠ .cell
  dot : scope.names.lookup (".0" : Str) = some NameKind.local
  pi : PI X tg iter wi
  pg : ∀ (A : Around) (s : Shared) (H : Hp) (C : Addr) (cl : List (Str × Addr)) (code : Value) (bi : Addr) (fp : List Addr), Room k A → PG (gcx X A s H (genEnv scope cl C code bi X.env) fp) tg g
  pt : ∀ (A : Around) (s : Shared) (H : Hp) (C : Addr) (cl : List (Str × Addr)) (code : Value) (bi : Addr) (fp : List Addr), Room k A → PTs (gcx X A s H (genEnv scope cl C code bi X.env) fp) ifs tt
  pe : ∀ (A : Around) (s : Shared) (H : Hp) (C : Addr) (cl : List (Str × Addr)) (code : Value) (bi : Addr) (fp : List Addr), Room k A → PE (gcx X A s H (genEnv scope cl C code bi X.env) fp) elt te
  fold : ∀ v, genFold iter X.env v = pure v
theorem GxOk.make (G : GxOk X k c P elt tg iter ifs scope own wi g tt te) {cy : Cy} {Qe : List V → Hp → Prop} {pins : List (Addr × Obj)} {s : Shared} {σ : L2.St} {H : Hp} (I : Inv X pins σ H s)
    (h : wi σ H fun J H1 => GxR.TabG H1 P ∧ ∀ H2, GxR.Tabbed P H1 H2 → ∃ W m, W 0 m [] H2 ∧ Turns J g tt te (own.map (·.2)) σ cy Qe W) :
    wpAny (model X.prog X.w) X.A (eval (gxE elt tg iter ifs scope gpos) X.env) (fun u s' => ∃ a m, u = .ref a ∧ GReady X pins σ m cy Qe a s') X.xe s :=
  gx_make G.hr G.tb G.code G.co G.ok G.nd G.nocell G.dot G.pi G.pg G.pt G.pe G.fold I h
theorem pe_tupleGx (hg : Gl X "tuple") (hm : X.mg "tuple" = none) (G : GxOk X k c P elt tg iter ifs scope own wi g tt te)
    (he : starEach [gxE elt tg iter ifs scope gpos] X.env = (false, eval (gxE elt tg iter ifs scope gpos) X.env) :: starEach [] X.env := by rfl) :
    PE X (.Call (.Name "tuple" p) [gxE elt tg iter ifs scope gpos] [] pos) (tGx P wi g tt te (own.map (·.2)) (fun _ => cyT) fun Q ys H => ∀ p, H p = none → Q (.ref p) (upd H p (.tup ys))) := by
  refine ⟨fun pins s σ H Q I h => ?_⟩
  refine wpAny_Call_Name_kw (ld_blt I hg hm (by decide +kernel : bootBuiltins "tuple" = some (.type "tuple")) (PyProof.Rows.callWith_type1 ?_ he (by rfl)))
  rw [he]
  show wpAny _ _ (spliced ((false, eval (gxE elt tg iter ifs scope gpos) X.env) :: backTo pos (starEach [] X.env))) _ _ s
  exact Calls.spliced_cons (thn (G.make I h) fun u s1 ⟨a, m, e, hG⟩ => e ▸ Calls.spliced_nil (call_tuple_gx (G.hr.mono (by omega)) I.ok.frames hG))
theorem pe_allGx (hg : Gl X "all") (hm : X.mg "all" = none) (G : GxOk X k c P elt tg iter ifs scope own wi g tt te)
    (he : starEach [gxE elt tg iter ifs scope gpos] X.env = (false, eval (gxE elt tg iter ifs scope gpos) X.env) :: starEach [] X.env := by rfl) :
    PE X (.Call (.Name "all" p) [gxE elt tg iter ifs scope gpos] [] pos) (tGx P wi g tt te (own.map (·.2)) (fun Q => cyB false (Q (.bl false))) fun Q _ H => Q (.bl true) H) := by
  refine ⟨fun pins s σ H Q I h => ?_⟩
  refine wpAny_Call_Name_kw (ld_blt I hg hm (by decide +kernel : bootBuiltins "all" = some (.builtin "all")) (PyProof.Rows.callWith_builtin1 ?_ he (by rfl)))
  rw [he]
  show wpAny _ _ (spliced ((false, eval (gxE elt tg iter ifs scope gpos) X.env) :: backTo pos (starEach [] X.env))) _ _ s
  exact Calls.spliced_cons (thn (G.make I h) fun u s1 ⟨a, m, e, hG⟩ => e ▸ Calls.spliced_nil (call_all_gx (G.hr.mono (by omega)) I.ok.frames hG))
theorem pe_anyGx (hg : Gl X "any") (hm : X.mg "any" = none) (G : GxOk X k c P elt tg iter ifs scope own wi g tt te)
    (he : starEach [gxE elt tg iter ifs scope gpos] X.env = (false, eval (gxE elt tg iter ifs scope gpos) X.env) :: starEach [] X.env := by rfl) :
    PE X (.Call (.Name "any" p) [gxE elt tg iter ifs scope gpos] [] pos) (tGx P wi g tt te (own.map (·.2)) (fun Q => cyB true (Q (.bl true))) fun Q _ H => Q (.bl false) H) := by
  refine ⟨fun pins s σ H Q I h => ?_⟩
  refine wpAny_Call_Name_kw (ld_blt I hg hm (by decide +kernel : bootBuiltins "any" = some (.builtin "any")) (PyProof.Rows.callWith_builtin1 ?_ he (by rfl)))
  rw [he]
  show wpAny _ _ (spliced ((false, eval (gxE elt tg iter ifs scope gpos) X.env) :: backTo pos (starEach [] X.env))) _ _ s
  exact Calls.spliced_cons (thn (G.make I h) fun u s1 ⟨a, m, e, hG⟩ => e ▸ Calls.spliced_nil (call_any_gx (G.hr.mono (by omega)) I.ok.frames hG))
theorem pe_sumGx (hg : Gl X "sum") (hm : X.mg "sum" = none) (G : GxOk X k c P elt tg iter ifs scope own wi g tt te)
    (he : starEach [gxE elt tg iter ifs scope gpos] X.env = (false, eval (gxE elt tg iter ifs scope gpos) X.env) :: starEach [] X.env := by rfl) :
    PE X (.Call (.Name "sum" p) [gxE elt tg iter ifs scope gpos] [] pos) (tGx P wi g tt te (own.map (·.2)) (fun _ => cyS) fun Q ys H => Q (.int (sumV ys)) H) := by
  refine ⟨fun pins s σ H Q I h => ?_⟩
  refine wpAny_Call_Name_kw (ld_blt I hg hm (by decide +kernel : bootBuiltins "sum" = some (.builtin "sum")) (PyProof.Rows.callWith_builtin1 ?_ he (by rfl)))
  rw [he]
  show wpAny _ _ (spliced ((false, eval (gxE elt tg iter ifs scope gpos) X.env) :: backTo pos (starEach [] X.env))) _ _ s
  exact Calls.spliced_cons (thn (G.make I h) fun u s1 ⟨a, m, e, hG⟩ => e ▸ Calls.spliced_nil (call_sum_gx (G.hr.mono (by omega)) I.ok.frames hG))
end
/-! readings over a list, a tuple, a range: an invariant by the turn, the items so far, the heap -/
section
variable {K : PySem.W.Frag} {a : Addr} {xs : List V} {g : TG} {tt : TT} {te : TE} {vs : List Nat} {σ : L2.St} {cy : Cy} {Qe : List V → Hp → Prop} {H0 : Hp}
theorem gx_tup (Pv : Nat → List V → Hp → Prop) (h0 : Pv 0 [] H0) (hl : ∀ i ys H, i ≤ xs.length → Pv i ys H → SqT K H a xs)
    (hs : ∀ i x ys H, xs[i]? = some x → Pv i ys H → g x (wipe σ vs) H fun σ2 H2 => wipe σ2 vs = wipe σ vs ∧ tt σ2 H2 fun b H3 => if b = true then te σ2 H3 fun y H4 => cy ys y H4 (Pv (i + 1)) else Pv (i + 1) ys H3)
    (hd : ∀ ys H, Pv xs.length ys H → Qe ys H) : ∃ W m, W 0 m [] H0 ∧ Turns (Itt K a) g tt te vs σ cy Qe W := by
  refine ⟨fun i m ys H => m = xs.length - i ∧ i ≤ xs.length ∧ Pv i ys H, xs.length, ⟨rfl, Nat.zero_le _, h0⟩, ?_⟩
  rintro i m ys H ⟨rfl, hi, p⟩
  have q := hl i ys H hi p
  by_cases hlt : i < xs.length
  · refine .inr ⟨⟨xs, _, q, List.getElem?_eq_getElem hlt⟩, by omega, Pv (i + 1), fun ys' H' p' => ⟨_, by omega, rfl, hlt, p'⟩, fun x H' y => ?_⟩
    obtain ⟨rfl, y⟩ := y
    exact hs i x ys _ (y xs q) p
  · have e : i = xs.length := by omega
    subst e
    exact .inl ⟨⟨xs, q, Nat.le_refl _⟩, hd ys H p⟩
theorem gx_list (Pv : Nat → List V → Hp → Prop) (h0 : Pv 0 [] H0) (hl : ∀ i ys H, i ≤ xs.length → Pv i ys H → SqL K H a xs)
    (hs : ∀ i x ys H, xs[i]? = some x → Pv i ys H → g x (wipe σ vs) H fun σ2 H2 => wipe σ2 vs = wipe σ vs ∧ tt σ2 H2 fun b H3 => if b = true then te σ2 H3 fun y H4 => cy ys y H4 (Pv (i + 1)) else Pv (i + 1) ys H3)
    (hd : ∀ ys H, Pv xs.length ys H → Qe ys H) : ∃ W m, W 0 m [] H0 ∧ Turns (Itl K a) g tt te vs σ cy Qe W := by
  refine ⟨fun i m ys H => m = xs.length - i ∧ i ≤ xs.length ∧ Pv i ys H, xs.length, ⟨rfl, Nat.zero_le _, h0⟩, ?_⟩
  rintro i m ys H ⟨rfl, hi, p⟩
  have q := hl i ys H hi p
  by_cases hlt : i < xs.length
  · refine .inr ⟨⟨xs, _, q, List.getElem?_eq_getElem hlt⟩, by omega, Pv (i + 1), fun ys' H' p' => ⟨_, by omega, rfl, hlt, p'⟩, fun x H' y => ?_⟩
    obtain ⟨rfl, y⟩ := y
    exact hs i x ys _ (y xs q) p
  · have e : i = xs.length := by omega
    subst e
    exact .inl ⟨⟨xs, q, Nat.le_refl _⟩, hd ys H p⟩
theorem gx_range {lo : Int} {n : Nat} (Pv : Nat → List V → Hp → Prop) (h0 : Pv 0 [] H0)
    (hs : ∀ i ys H, i < n → Pv i ys H → g (.int (lo + i)) (wipe σ vs) H fun σ2 H2 => wipe σ2 vs = wipe σ vs ∧ tt σ2 H2 fun b H3 => if b = true then te σ2 H3 fun y H4 => cy ys y H4 (Pv (i + 1)) else Pv (i + 1) ys H3)
    (hd : ∀ ys H, Pv n ys H → Qe ys H) : ∃ W m, W 0 m [] H0 ∧ Turns (Itr lo n) g tt te vs σ cy Qe W := by
  refine ⟨fun i m ys H => m = n - i ∧ i ≤ n ∧ Pv i ys H, n, ⟨rfl, Nat.zero_le _, h0⟩, ?_⟩
  rintro i m ys H ⟨rfl, hi, p⟩
  by_cases hlt : i < n
  · refine .inr ⟨hlt, by omega, Pv (i + 1), fun ys' H' p' => ⟨_, by omega, rfl, hlt, p'⟩, fun x H' y => ?_⟩
    obtain ⟨rfl, rfl⟩ := y
    exact hs i ys _ hlt p
  · have e : i = n := by omega
    subst e
    exact .inl ⟨Nat.le_refl _, hd ys H p⟩
end
end GXP
/-! ### sorted(d) of a dict whose keys are pairs of ints, any number of them -/
namespace SDT
open PySem PySem.Spec PyProof.Rows L2
def keyAt (H : Hp) (b : Addr) : Int × Int := match H b with
  | some (.tup [.int i, .int j]) => (i, j)
  | _ => (0, 0)
def keyOf (H : Hp) (v : Value) : Int × Int := match v with
  | .ref b => keyAt H b
  | _ => (0, 0)
theorem keyAt_of {H : Hp} {b : Addr} {i j : Int} (e : H b = some (.tup [.int i, .int j])) : keyAt H b = (i, j) := by
  unfold keyAt
  rw [e]
def pairKey (k : Int × Int) : List Key := [Sum.inl k.1, Sum.inl k.2]
/-- b holds the pair k -/
abbrev PairAt (H : Hp) (k : Int × Int) (b : Addr) : Prop := H b = some (.tup [.int k.1, .int k.2])
def rSortedDT : List V → Hp → VK → Prop := fun vs H Q => ∃ (d : Addr) (kvs : List (List Key × V)) (ks : List (Int × Int)), vs = [V.ref d] ∧ Rd H d (.dT kvs) ∧ kvs.map (·.1) = ks.map pairKey ∧
  ∀ (ys : List (Int × Int)) (bs : List Addr) (p : Addr), ys.Perm ks → ys.Pairwise (fun x y => SrtO.lexB y x = false) → Paired (PairAt H) ys bs → H p = none → Q (.ref p) (upd H p (.lst (bs.map V.ref)))
theorem paired_keys {H : Hp} : ∀ {kvs : List (List Key × V)} {xs : List (List Key × Addr × Value)} {ks : List (Int × Int)}, KT H kvs xs → kvs.map (·.1) = ks.map pairKey → (∀ x ∈ xs, ∃ k : Int × Int, PairAt H k x.2.1) ∧ xs.map (fun x => keyAt H x.2.1) = ks
  | _, _, [], .nil, _ => ⟨fun x m => absurd m List.not_mem_nil, rfl⟩
  | _, _, _ :: _, .nil, e => by cases e
  | _, _, [], .cons _ _, e => by cases e
  | _, _, k :: ks, .cons h t, e => by
    obtain ⟨e1, e2⟩ := List.cons.inj e
    obtain ⟨h1, h2, _⟩ := h
    dsimp only at e1
    rw [e1] at h2
    have q : PairAt H k _ := h2
    obtain ⟨r1, r2⟩ := paired_keys t e2
    refine ⟨fun x m => ?_, ?_⟩
    · rcases List.mem_cons.mp m with rfl | m
      · exact ⟨k, q⟩
      · exact r1 x m
    · rw [List.map_cons, keyAt_of q, r2]
theorem paired_of {H : Hp} : ∀ {bs : List Addr}, (∀ b ∈ bs, ∃ k : Int × Int, PairAt H k b) → Paired (PairAt H) (bs.map (keyAt H)) bs
  | [], _ => .nil
  | b :: bs, h => by
    refine .cons ?_ (paired_of fun x m => h x (List.mem_cons_of_mem _ m))
    obtain ⟨k, e⟩ := h b List.mem_cons_self
    rw [keyAt_of e]
    exact e
theorem refs_of : ∀ {us : List Value}, (∀ u ∈ us, ∃ a, u = Value.ref a) → ∃ bs : List Addr, us = bs.map Value.ref
  | [], _ => ⟨[], rfl⟩
  | u :: us, h => by
    obtain ⟨bs, e⟩ := refs_of (us := us) fun x m => h x (List.mem_cons_of_mem _ m)
    obtain ⟨a, e2⟩ := h u List.mem_cons_self
    exact ⟨a :: bs, by rw [e, e2]; rfl⟩
section
variable {X : Cx}
theorem cr_sortedDT (hc : X.calm = true) : CallR X (.builtin "sorted") rSortedDT := by
  intro pins s σ H xs us Q I r h
  obtain ⟨d, kvs, ks, rfl, hd, hks, q⟩ := h
  obtain ⟨u, rfl, rx⟩ := vals1 r
  cases rx
  obtain ⟨z, hs, ps, pr, o, es, ep, ho, hx, hdt, he, hn⟩ := (show ObjOk X.prog X.w H s.heap d (.dT kvs) from hd.ok I.hok)
  have l1 : es.size = ps.length := size_of_entries he
  have l2 : kvs.length = ps.length := Paired.length pr
  obtain ⟨pk, ek⟩ := paired_keys pr hks
  refine Calls.call_function_entry PyProof.Rows.kind_sorted PyProof.Rows.plain_sorted PyProof.Rows.entry_sorted (PyProof.Rows.args_sorted1 _) ?_
  unfold Builtin.«sorted»
  refine wpAny_bind (m := checkCount "sorted" 1 1 _) (wpAny_pure ?_)
  refine wpAny_bind (PySem.W.kdu_collect (A := X.A.in1) (kdl_raw hs hx hdt) (I.ok.hd hc) ho (by omega) fun h' tk acc hk it => ?_)
  have ea : acc.toList = ps.map fun x => Value.ref x.2.1 := by
    have hl : acc.toList.length = ps.length := by rw [Array.length_toList, it.1]; exact l1
    apply List.ext_getElem?
    intro j
    rw [List.getElem?_map]
    cases hj : acc.toList[j]? with
    | none =>
      have h1 := List.getElem?_eq_none_iff.mp hj
      rw [List.getElem?_eq_none (by omega)]
      all_goals rfl
    | some v =>
      obtain ⟨en, hen, hv⟩ := it.2 j v (by rw [← Array.getElem?_toList]; exact hj)
      have qe := entry_at he j
      rw [hen] at qe
      cases hb : ps[j]? with
      | none =>
        rw [hb] at qe
        exact nomatch (show some en = none from qe)
      | some b =>
        rw [hb] at qe
        have e2 : en = entryOfKey (tupleKind (mixKind X.prog X.w)) b := Option.some.inj qe
        rw [hv, e2]
        all_goals rfl
  have hal : acc.toList.length = ps.length := by rw [ea, List.length_map]
  have I1 : Inv X pins σ H { s with heap := h', toks := tk } := I.kept hk
  refine wpAny_bind (wpAny_newList ?_ (by rw [hal]; omega))
  have hoL : (h'.push (seqObj "list" acc.toList.toArray 0)).get? h'.objs.size = some (seqObj "list" acc.toList.toArray 0) := Heap.get?_push_size _ rfl
  show wpAny _ _ _ _ _ { s with heap := h'.push (seqObj "list" acc.toList.toArray 0), toks := tk }
  have pair : ∀ v ∈ acc.toList, Srt.IsPair (h'.push (seqObj "list" acc.toList.toArray 0)) v (keyOf H v).1 (keyOf H v).2 := fun v m => by
    rw [ea] at m
    obtain ⟨x, hm, rfl⟩ := List.mem_map.mp m
    obtain ⟨k, hk2⟩ := pk x hm
    obtain ⟨_, its2, r2, o2, ho2, hc2, n2, hd2⟩ := I1.hok _ _ hk2
    obtain ⟨u1, u2, rfl, ri, rj⟩ := vals2 r2
    obtain ⟨t1, rfl⟩ := ri
    obtain ⟨t2, rfl⟩ := rj
    have e : keyOf H (Value.ref x.2.1) = k := keyAt_of hk2
    rw [e]
    exact ⟨x.2.1, o2, t1, t2, n2, rfl, Heap.get?_push_of_some _ ho2, hc2, hd2⟩
  refine wpAny_bind (wpAny_holding (wpAny_call_entry PyProof.Rows.slot_list_sort ⟨_, hoL, rfl⟩ PyProof.Rows.entry_list_sort
    (SrtO.list_sort_ord (s := { s with heap := h'.push (seqObj "list" acc.toList.toArray 0), toks := tk }) (SrtO.swo_lex (keyOf H)) hoL (by rw [hal]; omega)
      (fun h2 => SrtO.pairs_sortableO (by omega) pair fun o1 e c => ?_) fun out h1 h2 => ⟨_, rfl, ?_⟩)
    (PyProof.Rows.args_list_sort _)))
  · have e' : some o1 = some (seqObj "list" acc.toList.toArray 0) := e.symm.trans hoL
    cases e'
    exact absurd (Value.type.inj c) (by decide)
  obtain ⟨e', he'⟩ := PyProof.Rows.sortedHeap_at (vs := acc.toList) (out := out.toArray) hoL
  have hm : ∀ u ∈ out, ∃ x ∈ ps, u = Value.ref x.2.1 := fun u hu => by
    have := h2.perm.mem_iff.mp hu
    rw [ea] at this
    obtain ⟨x, hx, e⟩ := List.mem_map.mp this
    exact ⟨x, hx, e.symm⟩
  obtain ⟨bs, rfl⟩ := refs_of (us := out) fun u hu => by
    obtain ⟨x, _, e⟩ := hm u hu
    exact ⟨_, e⟩
  have hb : ∀ b ∈ bs, ∃ k : Int × Int, PairAt H k b := fun b hb => by
    obtain ⟨x, hx, e⟩ := hm _ (List.mem_map.mpr ⟨b, hb, rfl⟩)
    cases e
    exact pk x hx
  have ev : (bs.map Value.ref).map (keyOf H) = bs.map (keyAt H) := by
    rw [List.map_map]
    rfl
  have hp : (bs.map (keyAt H)).Perm ks := by
    have := h2.perm.map (keyOf H)
    rw [ev, ea, List.map_map] at this
    rw [← ek]
    exact this
  have hsr : (bs.map (keyAt H)).Pairwise fun x y => SrtO.lexB y x = false := by
    rw [← ev]
    exact SrtO.srtd_map (f := keyOf H) (lt := SrtO.lexB) h1
  have hlen : (bs.map V.ref).length ≤ sizeLine := by
    have := h2.perm.length_eq
    rw [List.length_map] at this
    rw [List.length_map]
    omega
  refine wpAny_pure ⟨_, rfl, .ref h'.objs.size, upd H h'.objs.size (.lst (bs.map V.ref)), I1.laid (t' := tk) (fun b u e => ?_) (Nat.le_refl _)
    (show ObjOk X.prog X.w _ _ _ (.lst (bs.map V.ref)) from ⟨hlen, bs.map Value.ref, e', vals_refs bs, he'⟩), rfl, q _ bs _ hp hsr (paired_of hb) (I1.hok.fresh (Nat.le_refl _))⟩
  have hb : b < h'.objs.size := Heap.lt_size e
  rw [PyProof.Rows.sortedHeap_old (Nat.ne_of_lt hb) (by rw [size_push']; exact Nat.lt_succ_of_lt hb)]
  exact Heap.get?_push_of_some _ e
end
end SDT
namespace PM
/-- terms: the pair of exponents and the coefficient -/
abbrev Ex := Int × Int
abbrev Trm := Ex × Int
def ltE (p q : Ex) : Prop := p.1 < q.1 ∨ (p.1 = q.1 ∧ p.2 < q.2)
instance (p q : Ex) : Decidable (ltE p q) := by
  unfold ltE
  exact inferInstance
theorem ltE_trans {p q r : Ex} (h : ltE p q) (k : ltE q r) : ltE p r := by
  unfold ltE at *
  omega
theorem ltE_irr {p : Ex} : ¬ ltE p p := by
  unfold ltE
  omega
theorem ltE_ne {p q : Ex} (h : ltE p q) : p ≠ q := fun e => by
  subst e
  exact ltE_irr h
theorem ltE_or {p q : Ex} (h : ¬ ltE p q) (k : p ≠ q) : ltE q p := by
  unfold ltE at *
  have k : ¬ (p.1 = q.1 ∧ p.2 = q.2) := fun z => k (Prod.ext z.1 z.2)
  omega
/-- the value of a list of terms under a weighing of the exponents -/
def lin (f : Ex → Int) : List Trm → Int
  | [] => 0
  | t :: r => t.2 * f t.1 + lin f r
def Eqv (p q : List Trm) : Prop := ∀ f, lin f p = lin f q
theorem Eqv.refl (p : List Trm) : Eqv p p := fun _ => rfl
theorem Eqv.symm {p q : List Trm} (h : Eqv p q) : Eqv q p := fun f => (h f).symm
theorem Eqv.trans {p q r : List Trm} (h : Eqv p q) (k : Eqv q r) : Eqv p r := fun f => (h f).trans (k f)
theorem lin_append (f : Ex → Int) : ∀ p q : List Trm, lin f (p ++ q) = lin f p + lin f q
  | [], q => by simp [lin]
  | t :: r, q => by
    simp only [List.cons_append, lin, lin_append f r q]
    omega
theorem Eqv.append {p p' q q' : List Trm} (h : Eqv p p') (k : Eqv q q') : Eqv (p ++ q) (p' ++ q') := fun f => by
  rw [lin_append, lin_append, h f, k f]
theorem Eqv.perm {p q : List Trm} (h : p.Perm q) : Eqv p q := fun f => by
  induction h with
  | nil => rfl
  | cons x _ ih => simp only [lin, ih]
  | swap x y l =>
    simp only [lin]
    omega
  | trans _ _ a b => exact a.trans b
/-- strictly ascending, no coefficient 0 -/
def Canon (p : List Trm) : Prop := p.Pairwise (fun s t => ltE s.1 t.1) ∧ ∀ t ∈ p, t.2 ≠ 0
theorem lin_zero {f : Ex → Int} : ∀ {p : List Trm}, (∀ t ∈ p, f t.1 = 0) → lin f p = 0
  | [], _ => rfl
  | t :: r, h => by
    rw [lin, h t List.mem_cons_self, lin_zero (p := r) fun s hs => h s (List.mem_cons_of_mem _ hs)]
    simp
theorem canon_uniq : ∀ {p q : List Trm}, Canon p → Canon q → Eqv p q → p = q
  | [], [], _, _, _ => rfl
  | [], t :: r, _, hq, h => by
    exfalso
    have e := h fun x => if x = t.1 then 1 else 0
    have z : lin (fun x => if x = t.1 then (1 : Int) else 0) r = 0 := lin_zero fun s hs => if_neg (ltE_ne ((List.pairwise_cons.mp hq.1).1 s hs)).symm
    simp only [lin, z, if_pos] at e
    exact hq.2 t List.mem_cons_self (by omega)
  | t :: r, [], hp, _, h => by
    exfalso
    have e := h fun x => if x = t.1 then 1 else 0
    have z : lin (fun x => if x = t.1 then (1 : Int) else 0) r = 0 := lin_zero fun s hs => if_neg (ltE_ne ((List.pairwise_cons.mp hp.1).1 s hs)).symm
    simp only [lin, z, if_pos] at e
    exact hp.2 t List.mem_cons_self (by omega)
  | t :: r, u :: w, hp, hq, h => by
    have p1 := List.pairwise_cons.mp hp.1
    have q1 := List.pairwise_cons.mp hq.1
    have key : t.1 = u.1 := by
      by_cases e : t.1 = u.1
      · exact e
      · exfalso
        by_cases l : ltE t.1 u.1
        · have z1 : lin (fun x => if x = t.1 then (1 : Int) else 0) r = 0 := lin_zero fun s hs => if_neg (ltE_ne (p1.1 s hs)).symm
          have z2 : lin (fun x => if x = t.1 then (1 : Int) else 0) (u :: w) = 0 := lin_zero fun s hs => by
            refine if_neg (Ne.symm ?_)
            rcases List.mem_cons.mp hs with rfl | hs
            · exact e
            · exact ltE_ne (ltE_trans l (q1.1 s hs))
          have e2 := h fun x => if x = t.1 then 1 else 0
          rw [z2] at e2
          simp only [lin, z1, if_pos] at e2
          exact hp.2 t List.mem_cons_self (by omega)
        · have l := ltE_or l e
          have z1 : lin (fun x => if x = u.1 then (1 : Int) else 0) w = 0 := lin_zero fun s hs => if_neg (ltE_ne (q1.1 s hs)).symm
          have z2 : lin (fun x => if x = u.1 then (1 : Int) else 0) (t :: r) = 0 := lin_zero fun s hs => by
            refine if_neg (Ne.symm ?_)
            rcases List.mem_cons.mp hs with rfl | hs
            · exact Ne.symm e
            · exact ltE_ne (ltE_trans l (p1.1 s hs))
          have e2 := h fun x => if x = u.1 then 1 else 0
          rw [z2] at e2
          simp only [lin, z1, if_pos] at e2
          exact hq.2 u List.mem_cons_self (by omega)
    have z1 : lin (fun x => if x = t.1 then (1 : Int) else 0) r = 0 := lin_zero fun s hs => if_neg (ltE_ne (p1.1 s hs)).symm
    have z2 : lin (fun x => if x = t.1 then (1 : Int) else 0) w = 0 := lin_zero fun s hs => if_neg (by rw [key]; exact (ltE_ne (q1.1 s hs)).symm)
    have e2 := h fun x => if x = t.1 then 1 else 0
    simp only [lin, z1, z2] at e2
    simp only [if_true, if_pos key.symm] at e2
    have ec : t.2 = u.2 := by omega
    have et : t = u := Prod.ext key ec
    have er : Eqv r w := fun f => by
      have e3 := h f
      simp only [lin, et] at e3
      omega
    rw [et, canon_uniq ⟨p1.2, fun s hs => hp.2 s (List.mem_cons_of_mem _ hs)⟩ ⟨q1.2, fun s hs => hq.2 s (List.mem_cons_of_mem _ hs)⟩ er]
/-- a term put into a list in order -/
def ins (t : Trm) : List Trm → List Trm
  | [] => if t.2 = 0 then [] else [t]
  | u :: r => if ltE t.1 u.1 then (if t.2 = 0 then u :: r else t :: u :: r) else if t.1 = u.1 then (if t.2 + u.2 = 0 then r else (t.1, t.2 + u.2) :: r) else u :: ins t r
def canon (ts : List Trm) : List Trm := ts.foldr ins []
theorem lin_ins (f : Ex → Int) (t : Trm) : ∀ p : List Trm, lin f (ins t p) = t.2 * f t.1 + lin f p
  | [] => by
    unfold ins
    split
    · rename_i h
      rw [h]
      simp [lin]
    · simp [lin]
  | u :: r => by
    unfold ins
    split
    · split
      · rename_i h
        rw [h]
        simp
      · simp [lin]
    · split
      · rename_i e
        split
        · rename_i h
          simp only [lin]
          rw [← e]
          have : t.2 * f t.1 + u.2 * f t.1 = 0 := by
            rw [← Int.add_mul, h, Int.zero_mul]
          omega
        · simp only [lin]
          rw [← e, Int.add_mul]
          omega
      · simp only [lin, lin_ins f t r]
        omega
theorem eqv_canon (ts : List Trm) : Eqv (canon ts) ts := fun f => by
  induction ts with
  | nil => rfl
  | cons t r ih =>
    show lin f (ins t (canon r)) = _
    rw [lin_ins, ih]
    rfl
theorem mem_ins {t s : Trm} : ∀ {p : List Trm}, s ∈ ins t p → s.1 = t.1 ∨ s ∈ p
  | [], h => by
    unfold ins at h
    split at h
    · cases h
    · rw [List.mem_singleton] at h
      exact .inl (by rw [h])
  | u :: r, h => by
    unfold ins at h
    split at h
    · split at h
      · exact .inr h
      · rcases List.mem_cons.mp h with h | h
        · exact .inl (by rw [h])
        · exact .inr h
    · split at h
      · split at h
        · exact .inr (List.mem_cons_of_mem _ h)
        · rcases List.mem_cons.mp h with h | h
          · exact .inl (by rw [h])
          · exact .inr (List.mem_cons_of_mem _ h)
      · rcases List.mem_cons.mp h with h | h
        · exact .inr (h ▸ List.mem_cons_self)
        · rcases mem_ins h with h | h
          · exact .inl h
          · exact .inr (List.mem_cons_of_mem _ h)
theorem canon_ins {t : Trm} : ∀ {p : List Trm}, Canon p → Canon (ins t p)
  | [], _ => by
    unfold ins
    split
    · exact ⟨List.Pairwise.nil, fun s hs => by cases hs⟩
    · rename_i h
      exact ⟨List.pairwise_singleton _ _, fun s hs => by
        rw [List.mem_singleton] at hs
        rw [hs]
        exact h⟩
  | u :: r, hp => by
    have p1 := List.pairwise_cons.mp hp.1
    have tl : Canon r := ⟨p1.2, fun s hs => hp.2 s (List.mem_cons_of_mem _ hs)⟩
    unfold ins
    split
    · rename_i l
      split
      · exact hp
      · rename_i h
        refine ⟨List.pairwise_cons.mpr ⟨fun s hs => ?_, hp.1⟩, fun s hs => ?_⟩
        · rcases List.mem_cons.mp hs with rfl | hs
          · exact l
          · exact ltE_trans l (p1.1 s hs)
        · rcases List.mem_cons.mp hs with rfl | hs
          · exact h
          · exact hp.2 s hs
    · rename_i l
      split
      · rename_i e
        split
        · exact tl
        · rename_i h
          refine ⟨List.pairwise_cons.mpr ⟨fun s hs => ?_, p1.2⟩, fun s hs => ?_⟩
          · show ltE t.1 s.1
            rw [e]
            exact p1.1 s hs
          · rcases List.mem_cons.mp hs with rfl | hs
            · exact h
            · exact hp.2 s (List.mem_cons_of_mem _ hs)
      · rename_i e
        have ih := canon_ins (t := t) tl
        refine ⟨List.pairwise_cons.mpr ⟨fun s hs => ?_, ih.1⟩, fun s hs => ?_⟩
        · rcases mem_ins hs with h | h
          · rw [h]
            exact ltE_or l e
          · exact p1.1 s h
        · rcases List.mem_cons.mp hs with rfl | hs
          · exact hp.2 s List.mem_cons_self
          · exact ih.2 s hs
theorem canon_canon (ts : List Trm) : Canon (canon ts) := by
  induction ts with
  | nil => exact ⟨List.Pairwise.nil, fun s hs => by cases hs⟩
  | cons t r ih => exact canon_ins ih
theorem canon_of {p ts : List Trm} (h : Canon p) (e : Eqv p ts) : p = canon ts := canon_uniq h (canon_canon ts) (e.trans (eqv_canon ts).symm)
theorem canon_congr {p q : List Trm} (h : Eqv p q) : canon p = canon q := canon_uniq (canon_canon p) (canon_canon q) ((eqv_canon p).trans (h.trans (eqv_canon q).symm))
theorem canon_self {p : List Trm} (h : Canon p) : canon p = p := (canon_of h (Eqv.refl p)).symm
/-! products -/
def addE (p q : Ex) : Ex := (p.1 + q.1, p.2 + q.2)
def mulT (p q : List Trm) : List Trm := p.flatMap fun x => q.map fun y => (addE x.1 y.1, x.2 * y.2)
theorem lin_scale (f : Ex → Int) (x : Trm) : ∀ q : List Trm, lin f (q.map fun y => (addE x.1 y.1, x.2 * y.2)) = x.2 * lin (fun y => f (addE x.1 y)) q
  | [] => by simp [lin]
  | y :: r => by
    simp only [List.map_cons, lin, lin_scale f x r]
    rw [Int.mul_add, Int.mul_assoc]
theorem lin_mul (f : Ex → Int) (q : List Trm) : ∀ p : List Trm, lin f (mulT p q) = lin (fun x => lin (fun y => f (addE x y)) q) p
  | [] => rfl
  | x :: r => by
    show lin f ((q.map fun y => (addE x.1 y.1, x.2 * y.2)) ++ mulT r q) = _
    rw [lin_append, lin_scale, lin_mul f q r]
    rfl
theorem lin_congr {f g : Ex → Int} (h : ∀ x, f x = g x) (p : List Trm) : lin f p = lin g p := by
  rw [show f = g from funext h]
theorem lin_add (f g : Ex → Int) : ∀ p : List Trm, lin (fun x => f x + g x) p = lin f p + lin g p
  | [] => by simp [lin]
  | t :: r => by
    simp only [lin, lin_add f g r]
    rw [Int.mul_add]
    omega
theorem lin_smul (c : Int) (f : Ex → Int) : ∀ p : List Trm, lin (fun x => c * f x) p = c * lin f p
  | [] => by simp [lin]
  | t :: r => by
    simp only [lin, lin_smul c f r]
    rw [Int.mul_add, Int.mul_left_comm]
theorem lin_const0 : ∀ p : List Trm, lin (fun _ => 0) p = 0
  | [] => rfl
  | t :: r => by simp [lin, lin_const0 r]
theorem lin_swap (g : Ex → Ex → Int) (q : List Trm) : ∀ p : List Trm, lin (fun x => lin (fun y => g x y) q) p = lin (fun y => lin (fun x => g x y) p) q
  | [] => by simp only [lin, lin_const0]
  | t :: r => by
    simp only [lin]
    rw [lin_swap g q r, lin_add, lin_smul]
theorem Eqv.mul {p p' q q' : List Trm} (h : Eqv p p') (k : Eqv q q') : Eqv (mulT p q) (mulT p' q') := fun f => by
  rw [lin_mul, lin_mul, h, lin_congr fun x => k _]
theorem mul_comm (p q : List Trm) : Eqv (mulT p q) (mulT q p) := fun f => by
  rw [lin_mul, lin_mul, lin_swap]
  refine lin_congr (fun y => lin_congr (fun x => ?_) _) _
  unfold addE
  rw [Int.add_comm, Int.add_comm x.2]
theorem mul_assoc (p q r : List Trm) : Eqv (mulT (mulT p q) r) (mulT p (mulT q r)) := fun f => by
  rw [lin_mul, lin_mul, lin_mul]
  refine lin_congr (fun x => ?_) _
  rw [lin_mul]
  refine lin_congr (fun y => lin_congr (fun z => ?_) _) _
  unfold addE
  simp only [Int.add_assoc]
def one : List Trm := [((0, 0), 1)]
theorem one_mul (p : List Trm) : Eqv (mulT one p) p := fun f => by
  rw [lin_mul]
  show (1 : Int) * lin _ p + 0 = _
  rw [Int.one_mul, Int.add_zero]
  refine lin_congr (fun y => ?_) _
  unfold addE
  simp
/-- powers -/
def pw (p : List Trm) : Nat → List Trm
  | 0 => one
  | n + 1 => mulT (pw p n) p
theorem pw_add (p : List Trm) (i : Nat) : ∀ j, Eqv (mulT (pw p i) (pw p j)) (pw p (i + j))
  | 0 => (mul_comm _ _).trans (one_mul _)
  | j + 1 => (mul_assoc _ _ _).symm.trans (Eqv.mul (pw_add p i j) (Eqv.refl p))
theorem pw_congr {p q : List Trm} (h : Eqv p q) : ∀ n, Eqv (pw p n) (pw q n)
  | 0 => Eqv.refl _
  | n + 1 => Eqv.mul (pw_congr h n) h
/-! the size of coefficients -/
def norm : List Trm → Nat
  | [] => 0
  | t :: r => t.2.natAbs + norm r
theorem norm_append : ∀ p q : List Trm, norm (p ++ q) = norm p + norm q
  | [], q => by simp [norm]
  | t :: r, q => by
    simp only [List.cons_append, norm, norm_append r q]
    omega
theorem norm_ins (t : Trm) : ∀ p : List Trm, norm (ins t p) ≤ t.2.natAbs + norm p
  | [] => by
    unfold ins
    split <;> simp [norm]
  | u :: r => by
    unfold ins
    split
    · split <;> simp [norm]
    · split
      · split
        · simp only [norm]
          omega
        · simp only [norm]
          omega
      · have := norm_ins t r
        simp only [norm]
        omega
theorem norm_canon : ∀ ts : List Trm, norm (canon ts) ≤ norm ts
  | [] => Nat.le_refl _
  | t :: r => by
    show norm (ins t (canon r)) ≤ _
    have h1 := norm_ins t (canon r)
    have h2 := norm_canon r
    simp only [norm]
    omega
theorem norm_scale (x : Trm) : ∀ q : List Trm, norm (q.map fun y => (addE x.1 y.1, x.2 * y.2)) = x.2.natAbs * norm q
  | [] => by simp [norm]
  | y :: r => by
    simp only [List.map_cons, norm, norm_scale x r]
    rw [Nat.mul_add, Int.natAbs_mul]
theorem norm_mul (q : List Trm) : ∀ p : List Trm, norm (mulT p q) = norm p * norm q
  | [] => by simp [norm, mulT]
  | x :: r => by
    show norm ((q.map fun y => (addE x.1 y.1, x.2 * y.2)) ++ mulT r q) = _
    rw [norm_append, norm_scale, norm_mul q r]
    simp only [norm]
    rw [Nat.add_mul]
theorem norm_mem {t : Trm} : ∀ {p : List Trm}, t ∈ p → t.2.natAbs ≤ norm p
  | u :: r, h => by
    rcases List.mem_cons.mp h with rfl | h
    · simp only [norm]
      omega
    · have := norm_mem h
      simp only [norm]
      omega
theorem length_canon_le : ∀ ts : List Trm, (canon ts).length ≤ ts.length
  | [] => Nat.le_refl _
  | t :: r => by
    have h : ∀ p : List Trm, (ins t p).length ≤ p.length + 1 := by
      intro p
      induction p with
      | nil =>
        unfold ins
        split <;> simp
      | cons u w ih =>
        unfold ins
        split
        · split <;> simp
        · split
          · split <;> simp <;> omega
          · simp only [List.length_cons]
            omega
    have h2 := length_canon_le r
    have h3 := h (canon r)
    show (ins t (canon r)).length ≤ _
    simp only [List.length_cons]
    omega
theorem length_mul (p q : List Trm) : (mulT p q).length = p.length * q.length := by
  induction p with
  | nil => simp [mulT]
  | cons x r ih =>
    show ((q.map fun y => (addE x.1 y.1, x.2 * y.2)) ++ mulT r q).length = _
    rw [List.length_append, List.length_map, ih, List.length_cons, Nat.add_mul]
    omega
/-! a dict that gathers: pairs in the order in which they came, no key twice -/
def look (d : List Trm) (k : Ex) : Int := match d.find? (fun p => decide (p.1 = k)) with
  | some p => p.2
  | none => 0
def put (d : List Trm) (k : Ex) (v : Int) : List Trm := if d.any (fun p => decide (p.1 = k)) then d.map (fun p => if p.1 = k then (p.1, v) else p) else d ++ [(k, v)]
def addTo (d : List Trm) (t : Trm) : List Trm := put d t.1 (look d t.1 + t.2)
def gather (ts : List Trm) : List Trm := ts.foldl addTo []
def keys (d : List Trm) : List Ex := d.map (·.1)
theorem keys_put (d : List Trm) (k : Ex) (v : Int) : keys (put d k v) = if k ∈ keys d then keys d else keys d ++ [k] := by
  have h : (d.any fun p => decide (p.1 = k)) = true ↔ k ∈ keys d := by
    rw [List.any_eq_true]
    unfold keys
    constructor
    · rintro ⟨p, hp, e⟩
      exact List.mem_map.mpr ⟨p, hp, of_decide_eq_true e⟩
    · intro h
      obtain ⟨p, hp, e⟩ := List.mem_map.mp h
      exact ⟨p, hp, decide_eq_true e⟩
  unfold put
  by_cases hk : k ∈ keys d
  · rw [if_pos (h.mpr hk), if_pos hk]
    unfold keys
    rw [List.map_map]
    refine List.map_congr_left fun p _ => ?_
    show (if p.1 = k then (p.1, v) else p).1 = p.1
    split <;> rfl
  · rw [if_neg (fun z => hk (h.mp z)), if_neg hk]
    unfold keys
    rw [List.map_append]
    rfl
theorem nodup_put {d : List Trm} (h : (keys d).Nodup) (k : Ex) (v : Int) : (keys (put d k v)).Nodup := by
  rw [keys_put]
  split
  · exact h
  · rename_i hk
    rw [List.nodup_append]
    refine ⟨h, List.pairwise_singleton _ _, fun a ha b hb => ?_⟩
    rw [List.mem_singleton] at hb
    rw [hb]
    exact fun e => hk (e ▸ ha)
theorem look_none {d : List Trm} {k : Ex} (h : k ∉ keys d) : look d k = 0 := by
  unfold look
  rw [List.find?_eq_none.mpr]
  intro p hp e
  exact h (List.mem_map.mpr ⟨p, hp, of_decide_eq_true e⟩)
theorem look_cons (p : Trm) (d : List Trm) (k : Ex) : look (p :: d) k = if p.1 = k then p.2 else look d k := by
  unfold look
  rw [List.find?_cons]
  by_cases h : p.1 = k
  · simp [h]
  · simp [h]
theorem lin_map_put (f : Ex → Int) (k : Ex) (v : Int) : ∀ {d : List Trm}, (keys d).Nodup → k ∈ keys d → lin f (d.map fun p => if p.1 = k then (p.1, v) else p) = lin f d + (v - look d k) * f k
  | [], _, h => by simp [keys] at h
  | p :: r, hn, hk => by
    have n1 : p.1 ∉ keys r ∧ (keys r).Nodup := List.nodup_cons.mp hn
    rw [look_cons]
    simp only [List.map_cons, lin]
    by_cases e : p.1 = k
    · rw [if_pos e, if_pos e]
      have z : r.map (fun p => if p.1 = k then (p.1, v) else p) = r := by
        refine (List.map_congr_left fun q hq => if_neg fun z => n1.1 (List.mem_map.mpr ⟨q, hq, by rw [z, e]⟩)).trans (List.map_id' r)
      rw [z, ← e, Int.sub_mul]
      show v * f p.1 + lin f r = _
      omega
    · have hk2 : k ∈ keys r := by
        rcases List.mem_cons.mp (show k ∈ p.1 :: keys r from hk) with z | z
        · exact absurd z.symm e
        · exact z
      rw [if_neg e, if_neg e, lin_map_put f k v n1.2 hk2]
      omega
theorem lin_put (f : Ex → Int) {d : List Trm} (hn : (keys d).Nodup) (k : Ex) (v : Int) : lin f (put d k v) = lin f d + (v - look d k) * f k := by
  have h : (d.any fun p => decide (p.1 = k)) = true ↔ k ∈ keys d := by
    rw [List.any_eq_true]
    unfold keys
    constructor
    · rintro ⟨p, hp, e⟩
      exact List.mem_map.mpr ⟨p, hp, of_decide_eq_true e⟩
    · intro h
      obtain ⟨p, hp, e⟩ := List.mem_map.mp h
      exact ⟨p, hp, decide_eq_true e⟩
  unfold put
  by_cases hk : k ∈ keys d
  · rw [if_pos (h.mpr hk), lin_map_put f k v hn hk]
  · rw [if_neg (fun z => hk (h.mp z)), lin_append, look_none hk]
    simp [lin]
theorem gather_go (f : Ex → Int) : ∀ (ts d : List Trm), (keys d).Nodup → (keys (ts.foldl addTo d)).Nodup ∧ lin f (ts.foldl addTo d) = lin f d + lin f ts
  | [], d, h => ⟨h, by simp [lin]⟩
  | t :: r, d, h => by
    have n := nodup_put h t.1 (look d t.1 + t.2)
    obtain ⟨h1, h2⟩ := gather_go f r (addTo d t) n
    refine ⟨h1, ?_⟩
    show lin f (r.foldl addTo (addTo d t)) = _
    rw [h2]
    unfold addTo
    rw [lin_put f h]
    simp only [lin]
    rw [show look d t.1 + t.2 - look d t.1 = t.2 by omega]
    omega
theorem gather_nodup (ts : List Trm) : (keys (gather ts)).Nodup := (gather_go (fun _ => 0) ts [] List.nodup_nil).1
theorem gather_eqv (ts : List Trm) : Eqv (gather ts) ts := fun f => by
  have h := (gather_go f ts [] List.nodup_nil).2
  simp only [lin] at h
  unfold gather
  omega
theorem length_put (d : List Trm) (k : Ex) (v : Int) : (put d k v).length ≤ d.length + 1 := by
  unfold put
  split
  · rw [List.length_map]
    omega
  · rw [List.length_append]
    exact Nat.le_refl _
theorem length_gather_go : ∀ (ts d : List Trm), (ts.foldl addTo d).length ≤ d.length + ts.length
  | [], d => Nat.le_refl _
  | t :: r, d => by
    have h1 := length_gather_go r (addTo d t)
    have h2 : (addTo d t).length ≤ d.length + 1 := length_put _ _ _
    show (r.foldl addTo (addTo d t)).length ≤ _
    simp only [List.length_cons]
    omega
theorem look_of_mem : ∀ {d : List Trm} {p : Trm}, (keys d).Nodup → p ∈ d → look d p.1 = p.2
  | q :: r, p, hn, hp => by
    have n1 : q.1 ∉ keys r ∧ (keys r).Nodup := List.nodup_cons.mp hn
    rw [look_cons]
    rcases List.mem_cons.mp hp with rfl | hp
    · rw [if_pos rfl]
    · rw [if_neg (fun e => n1.1 (List.mem_map.mpr ⟨p, hp, e.symm⟩)), look_of_mem n1.2 hp]
/-- what is read off by keys in order -/
def read (d : List Trm) (ks : List Ex) : List Trm := (ks.filter fun k => decide (look d k ≠ 0)).map fun k => (k, look d k)
theorem lin_read (f : Ex → Int) (d : List Trm) : ∀ ks : List Ex, lin f (read d ks) = lin f (ks.map fun k => (k, look d k))
  | [] => rfl
  | k :: r => by
    have ih := lin_read f d r
    unfold read at *
    rw [List.filter_cons]
    by_cases h : look d k = 0
    · simp only [h, ne_eq, not_true_eq_false, decide_false, Bool.false_eq_true, if_false, List.map_cons, lin]
      rw [ih]
      simp
    · rw [if_pos (decide_eq_true h)]
      simp only [List.map_cons, lin, ih]
theorem map_look {d : List Trm} (hn : (keys d).Nodup) : (keys d).map (fun k => (k, look d k)) = d := by
  unfold keys
  rw [List.map_map]
  refine (List.map_congr_left fun p hp => ?_).trans (List.map_id' d)
  show (p.1, look d p.1) = p
  rw [look_of_mem hn hp]
theorem read_canon {ts d : List Trm} {ks : List Ex} (hn : (keys d).Nodup) (he : Eqv d ts) (hp : ks.Perm (keys d)) (hs : ks.Pairwise fun a b => ¬ ltE b a) : read d ks = canon ts := by
  refine canon_of ⟨?_, fun t ht => ?_⟩ fun f => ?_
  · have h2 : ks.Pairwise ltE := by
      exact (List.Pairwise.and hs (hp.nodup_iff.mpr hn)).imp fun h => ltE_or h.1 (Ne.symm h.2)
    unfold read
    rw [List.pairwise_map]
    exact h2.sublist List.filter_sublist
  · obtain ⟨k, hk, rfl⟩ := List.mem_map.mp ht
    exact of_decide_eq_true (List.mem_filter.mp hk).2
  · rw [lin_read]
    have h3 : (ks.map fun k => (k, look d k)).Perm d := by
      have := hp.map fun k => (k, look d k)
      rw [map_look hn] at this
      exact this
    rw [Eqv.perm h3 f]
    exact he f
end PM
/-! ### heaps that grow: what is no table stays, tables stay tables -/
namespace EXT
open PySem PySem.Spec PyProof.Rows L2 SDT PM
structure Ext (H H' : Hp) : Prop where
  keep : ∀ b x, H b = some x → (∀ ps, x ≠ .tbl ps) → H' b = some x
  tabs : ∀ b ps, H b = some (.tbl ps) → ∃ qs, H' b = some (.tbl qs) ∧ (TriplesOk ps.toList → TriplesOk qs.toList)
theorem Ext.tab {H H' : Hp} (s : Ext H H') {b : Addr} (h : GxR.TabG H b) : GxR.TabG H' b := by
  obtain ⟨ps, h1, h2⟩ := h
  obtain ⟨qs, g1, g2⟩ := s.tabs b ps h1
  exact ⟨qs, g1, g2 h2⟩
theorem Ext.refl (H : Hp) : Ext H H := ⟨fun _ _ e _ => e, fun _ ps h => ⟨ps, h, id⟩⟩
theorem Ext.trans {H H1 H2 : Hp} (a : Ext H H1) (b : Ext H1 H2) : Ext H H2 := ⟨fun c x e n => b.keep c x (a.keep c x e n) n, fun c ps h => by
  obtain ⟨qs, g1, g2⟩ := a.tabs c ps h
  obtain ⟨rs, k1, k2⟩ := b.tabs c qs g1
  exact ⟨rs, k1, fun z => k2 (g2 z)⟩⟩
theorem Ext.own {H H1 : Hp} {d : Addr} {o : HO} (s : Ext H H1) (hd : H d = none) : Ext H (upd H1 d o) := by
  refine ⟨fun b x e n => ?_, fun b ps h => ?_⟩
  · rw [upd_ne (ne_of_none e hd)]
    exact s.keep b x e n
  · obtain ⟨qs, g1, g2⟩ := s.tabs b ps h
    exact ⟨qs, by rw [upd_ne (ne_of_none h hd)]; exact g1, g2⟩
theorem ext_upd {H : Hp} {p : Addr} {o : HO} (h : H p = none) : Ext H (upd H p o) := (Ext.refl H).own h
theorem Ext.new {H H1 : Hp} {p : Addr} {o : HO} (s : Ext H H1) (h : H1 p = none) : Ext H (upd H1 p o) := s.trans (ext_upd h)
theorem ext_tabbed {H H' : Hp} {P : Addr} (t : GxR.TabG H P) (h : GxR.Tabbed P H H') : Ext H H' := by
  obtain ⟨ps, e0, _⟩ := t
  refine ⟨fun b x e n => ?_, fun b qs g => ?_⟩
  · rw [h.2 b (fun z => ?_)]
    · exact e
    · rw [z, e0] at e
      exact n ps (Option.some.inj e).symm
  · by_cases z : b = P
    · obtain ⟨rs, g1, g2⟩ := h.1
      rw [z]
      exact ⟨rs, g1, fun _ => g2⟩
    · exact ⟨qs, by rw [h.2 b z]; exact g, id⟩
theorem Ext.tabbed {H H1 H2 : Hp} {P : Addr} (s : Ext H H1) (t : GxR.TabG H1 P) (h : GxR.Tabbed P H1 H2) : Ext H H2 := s.trans (ext_tabbed t h)
theorem Ext.free {H H' : Hp} {p : Addr} (s : Ext H H') (h : H' p = none) : H p = none := by
  cases e : H p with
  | none => rfl
  | some x =>
    cases x with
    | tbl ps =>
      obtain ⟨qs, g, _⟩ := s.tabs p ps e
      rw [h] at g
      cases g
    | _ =>
      have := s.keep p _ e (fun ps z => by cases z)
      rw [h] at this
      cases this
theorem _root_.L2.Same.ext {H H' : Hp} (s : Same H H') : Ext H H' := ⟨fun b x e _ => s b x e, fun b ps e => ⟨ps, s _ _ e, id⟩⟩
section
variable {K : PySem.W.Frag} {H H' : Hp} (s : Ext H H')
include s
theorem Ext.rdL {a : Addr} {xs : List V} (h : Rd H a (.lst xs)) : Rd H' a (.lst xs) := by
  rcases h with h | ⟨o, h⟩
  · exact .inl (s.keep _ _ h (fun _ z => by cases z))
  · exact .inr ⟨o, s.keep _ _ h (fun _ z => by cases z)⟩
theorem Ext.rdT {a : Addr} {xs : List V} (h : Rd H a (.tup xs)) : Rd H' a (.tup xs) := by
  rcases h with h | ⟨o, h⟩
  · exact .inl (s.keep _ _ h (fun _ z => by cases z))
  · exact .inr ⟨o, s.keep _ _ h (fun _ z => by cases z)⟩
theorem Ext.seq {a : Addr} {xs : List V} (h : SqL K H a xs) : SqL K H' a xs := h.imp s.rdL id
theorem Ext.tup {a : Addr} {xs : List V} (h : SqT K H a xs) : SqT K H' a xs := h.imp s.rdT id
theorem Ext.at {a : Addr} {xs : List V} (h : H a = some (.tup xs)) : H' a = some (.tup xs) := s.keep _ _ h (fun _ z => by cases z)
theorem Ext.dt {a : Addr} {xs : List (List Key × V)} (h : H a = some (.dT xs)) : H' a = some (.dT xs) := s.keep _ _ h (fun _ z => by cases z)
theorem Ext.lst {a : Addr} {xs : List V} (h : H a = some (.lst xs)) : H' a = some (.lst xs) := s.keep _ _ h (fun _ z => by cases z)
end
mutual
theorem dp_ext {K : PySem.W.Frag} {H H' : Hp} (s : Ext H H') : ∀ {v : V} {d : PyData}, Dp K H v d → Dp K H' v d
  | _, _, .non => .non
  | _, _, .bl b => .bl b
  | _, _, .int i => .int i
  | _, _, .str x => .str x
  | _, _, .lst h t => .lst (s.seq h) (dpAll_ext s t)
  | _, _, .tup h t => .tup (s.tup h) (dpAll_ext s t)
theorem dpAll_ext {K : PySem.W.Frag} {H H' : Hp} (s : Ext H H') : ∀ {vs : List V} {ds : List PyData}, DpAll K H vs ds → DpAll K H' vs ds
  | _, _, .nil => .nil
  | _, _, .cons h t => .cons (dp_ext s h) (dpAll_ext s t)
end
theorem Ext.pairs {H H' : Hp} (s : Ext H H') : ∀ {ks : List (Int × Int)} {bs : List Addr}, Paired (PairAt H) ks bs → Paired (PairAt H') ks bs
  | _, _, .nil => .nil
  | _, _, .cons h t => .cons (s.at h) (s.pairs t)
/-! ### terms and polynomials in the heap -/
/-- v is the term t -/
def TermAt (K : PySem.W.Frag) (H : Hp) (v : V) (t : Trm) : Prop := ∃ a b, v = .ref a ∧ SqT K H a [.ref b, .int t.2] ∧ SqT K H b [.int t.1.1, .int t.1.2]
/-- the same, the key known to be one -/
def TermT (H : Hp) (v : V) (t : Trm) : Prop := ∃ a b, v = .ref a ∧ H a = some (.tup [.ref b, .int t.2]) ∧ PairAt H t.1 b
theorem TermT.at {K : PySem.W.Frag} {H : Hp} {v : V} {t : Trm} (h : TermT H v t) : TermAt K H v t := by
  obtain ⟨a, b, e, h1, h2⟩ := h
  exact ⟨a, b, e, .inl (.inl h1), .inl (.inl h2)⟩
theorem Ext.termT {H H' : Hp} (s : Ext H H') {v : V} {t : Trm} (h : TermT H v t) : TermT H' v t := by
  obtain ⟨a, b, e, h1, h2⟩ := h
  exact ⟨a, b, e, s.at h1, s.at h2⟩
theorem Ext.term {K : PySem.W.Frag} {H H' : Hp} (s : Ext H H') {v : V} {t : Trm} (h : TermAt K H v t) : TermAt K H' v t := by
  obtain ⟨a, b, e, h1, h2⟩ := h
  exact ⟨a, b, e, s.tup h1, s.tup h2⟩
theorem paired_imp {α β : Type} {R R' : α → β → Prop} (h : ∀ a b, R a b → R' a b) : ∀ {as : List α} {bs : List β}, Paired R as bs → Paired R' as bs
  | _, _, .nil => .nil
  | _, _, .cons x t => .cons (h _ _ x) (paired_imp h t)
/-- the item of a pairing at a place -/
theorem paired_at {α β : Type} {R : α → β → Prop} : ∀ {as : List α} {bs : List β} {i : Nat} {a : α}, Paired R as bs → as[i]? = some a → ∃ b, bs[i]? = some b ∧ R a b
  | _, _, _, _, .nil, h => by simp at h
  | _, _, 0, _, .cons x t, h => by
    simp only [List.getElem?_cons_zero, Option.some.injEq] at h
    subst h
    exact ⟨_, rfl, x⟩
  | _, _, i + 1, _, .cons x t, h => by
    simp only [List.getElem?_cons_succ] at h
    obtain ⟨b, h1, h2⟩ := paired_at t h
    exact ⟨b, by simpa using h1, h2⟩
theorem paired_app {α β : Type} {R : α → β → Prop} : ∀ {as : List α} {bs : List β} {as' : List α} {bs' : List β}, Paired R as bs → Paired R as' bs' → Paired R (as ++ as') (bs ++ bs')
  | _, _, _, _, .nil, k => k
  | _, _, _, _, .cons x t, k => .cons x (paired_app t k)
theorem paired_snoc {α β : Type} {R : α → β → Prop} {as : List α} {bs : List β} {a : α} {b : β} (h : Paired R as bs) (x : R a b) : Paired R (as ++ [a]) (bs ++ [b]) := paired_app h (.cons x .nil)
/-- vs are the terms ts -/
abbrev Terms (K : PySem.W.Frag) (H : Hp) (vs : List V) (ts : List Trm) : Prop := Paired (TermAt K H) vs ts
abbrev TermsT (H : Hp) (vs : List V) (ts : List Trm) : Prop := Paired (TermT H) vs ts
theorem Ext.terms {K : PySem.W.Frag} {H H' : Hp} (s : Ext H H') {vs : List V} {ts : List Trm} (h : Terms K H vs ts) : Terms K H' vs ts := paired_imp (fun _ _ => s.term) h
theorem Ext.termsT {H H' : Hp} (s : Ext H H') {vs : List V} {ts : List Trm} (h : TermsT H vs ts) : TermsT H' vs ts := paired_imp (fun _ _ => s.termT) h
theorem terms_of {K : PySem.W.Frag} {H : Hp} {vs : List V} {ts : List Trm} (h : TermsT H vs ts) : Terms K H vs ts := paired_imp (fun _ _ h => h.at) h
/-- a tuple of terms at p -/
def PolyAt (K : PySem.W.Frag) (H : Hp) (p : Addr) (ts : List Trm) : Prop := ∃ vs, SqT K H p vs ∧ Terms K H vs ts
def PolyT (H : Hp) (p : Addr) (ts : List Trm) : Prop := ∃ vs, H p = some (.tup vs) ∧ TermsT H vs ts
theorem PolyT.at {K : PySem.W.Frag} {H : Hp} {p : Addr} {ts : List Trm} (h : PolyT H p ts) : PolyAt K H p ts := by
  obtain ⟨vs, h1, h2⟩ := h
  exact ⟨vs, .inl (.inl h1), terms_of h2⟩
theorem Ext.poly {K : PySem.W.Frag} {H H' : Hp} (s : Ext H H') {p : Addr} {ts : List Trm} (h : PolyAt K H p ts) : PolyAt K H' p ts := by
  obtain ⟨vs, h1, h2⟩ := h
  exact ⟨vs, s.tup h1, s.terms h2⟩
theorem Ext.polyT {H H' : Hp} (s : Ext H H') {p : Addr} {ts : List Trm} (h : PolyT H p ts) : PolyT H' p ts := by
  obtain ⟨vs, h1, h2⟩ := h
  exact ⟨vs, s.at h1, s.termsT h2⟩
/-- a term, a polynomial as data -/
def termD (t : Trm) : PyData := .tuple [.tuple [.int t.1.1, .int t.1.2], .int t.2]
def polyD (ts : List Trm) : PyData := .tuple (ts.map termD)
theorem TermAt.dp {K : PySem.W.Frag} {H : Hp} {v : V} {t : Trm} (h : TermAt K H v t) : Dp K H v (termD t) := by
  obtain ⟨a, b, rfl, h1, h2⟩ := h
  exact .tup h1 (.cons (.tup h2 (.cons (.int _) (.cons (.int _) .nil))) (.cons (.int _) .nil))
theorem terms_dp {K : PySem.W.Frag} {H : Hp} : ∀ {vs : List V} {ts : List Trm}, Terms K H vs ts → DpAll K H vs (ts.map termD)
  | _, _, .nil => .nil
  | _, _, .cons h t => .cons h.dp (terms_dp t)
theorem PolyAt.dp {K : PySem.W.Frag} {H : Hp} {p : Addr} {ts : List Trm} (h : PolyAt K H p ts) : Dp K H (.ref p) (polyD ts) := by
  obtain ⟨vs, h1, h2⟩ := h
  exact .tup h1 (terms_dp h2)
/-! ### a dict of exponents -/
def kvsOf (d : List Trm) : List (List Key × V) := d.map fun t => (pairKey t.1, .int t.2)
theorem pairKey_inj {k j : Ex} (h : pairKey k = pairKey j) : k = j := by
  obtain ⟨h1, h2⟩ := List.cons.inj h
  obtain ⟨h3, _⟩ := List.cons.inj h2
  exact Prod.ext (Sum.inl.inj h1) (Sum.inl.inj h3)
theorem valV_kvs (k : Ex) : ∀ d : List Trm, valV (kvsOf d) (pairKey k) = if k ∈ keys d then some (.int (look d k)) else none
  | [] => rfl
  | t :: d => by
    by_cases e : t.1 = k
    · rw [show kvsOf (t :: d) = (pairKey t.1, V.int t.2) :: kvsOf d from rfl, valV_pos (by rw [e]), if_pos (by rw [← e]; exact List.mem_map.mpr ⟨t, List.mem_cons_self, rfl⟩), look_cons, if_pos e]
    · rw [show kvsOf (t :: d) = (pairKey t.1, V.int t.2) :: kvsOf d from rfl, valV_neg (fun z => e (pairKey_inj z)), valV_kvs k d, look_cons, if_neg e]
      have : (k ∈ keys (t :: d)) ↔ k ∈ keys d := by
        show k ∈ t.1 :: keys d ↔ _
        rw [List.mem_cons]
        exact ⟨fun z => z.resolve_left fun q => e q.symm, .inr⟩
      by_cases m : k ∈ keys d
      · rw [if_pos m, if_pos (this.mpr m)]
      · rw [if_neg m, if_neg (fun z => m (this.mp z))]
theorem getD_kvs (d : List Trm) (k : Ex) : (valV (kvsOf d) (pairKey k)).getD (.int 0) = .int (look d k) := by
  rw [valV_kvs]
  by_cases m : k ∈ keys d
  · rw [if_pos m]
    rfl
  · rw [if_neg m, look_none m]
    rfl
theorem put_kvs (d : List Trm) (k : Ex) (v : Int) : putK (kvsOf d) (pairKey k) (.int v) = kvsOf (put d k v) := by
  have e : ((kvsOf d).any fun kv => decide (kv.1 = pairKey k)) = d.any fun p => decide (p.1 = k) := by
    unfold kvsOf
    rw [List.any_map]
    congr 1
    funext t
    show decide (pairKey t.1 = pairKey k) = decide (t.1 = k)
    by_cases z : t.1 = k
    · rw [decide_eq_true z, decide_eq_true (by rw [z])]
    · rw [decide_eq_false z, decide_eq_false (fun q => z (pairKey_inj q))]
  unfold putK put
  rw [e]
  by_cases z : (d.any fun p => decide (p.1 = k)) = true
  · rw [if_pos z, if_pos z]
    unfold kvsOf
    rw [List.map_map, List.map_map]
    refine List.map_congr_left fun t _ => ?_
    show (if pairKey t.1 = pairKey k then (pairKey t.1, V.int v) else (pairKey t.1, V.int t.2)) = _
    by_cases q : t.1 = k
    · rw [if_pos (by rw [q])]
      simp only [Function.comp, if_pos q]
    · rw [if_neg (fun w => q (pairKey_inj w))]
      simp only [Function.comp, if_neg q]
  · rw [if_neg z, if_neg z]
    unfold kvsOf
    rw [List.map_append]
    rfl
theorem length_kvs (d : List Trm) : (kvsOf d).length = d.length := by
  unfold kvsOf
  rw [List.length_map]
theorem keys_kvs (d : List Trm) : (kvsOf d).map (·.1) = (keys d).map pairKey := by
  unfold kvsOf keys
  rw [List.map_map, List.map_map]
  rfl
theorem lex_lt {p q : Ex} : SrtO.lexB p q = false ↔ ¬ ltE p q := SrtO.lexB_no
end EXT
/-! ### a def whose code object is known -/
namespace L2
open PySem PySem.Spec PyProof.Rows
structure FunC (K : PySem.W.Frag) (x qual : Str) (st : Stmt) (f : Addr) (fd : FuncData) (c : Addr) : Prop where
  ex : ∃ (oc : Value) (od : Option Addr) (kV doc pm : Value) (an : Option Addr) (ct : Value) (osl : Array (Option Value)),
    fd = PySem.W.fnOf x qual (defArgs st) (defBody st) (defScope st) .none kV doc pm an (.ref c) ct ∧ K.lookup f = some ⟨oc, od, .func fd, osl⟩ ∧ PySem.W.codeIn K (.ref c) qual = true
  kp : PySem.W.keepIn K (.ref f) = true
section
variable {P : Program} {w : World} {K : PySem.W.Frag} {mg : Str → Option Value} {base : Heap}
theorem FunC.ok {x qual : Str} {st : Stmt} {f c : Addr} {fd : FuncData} {N ps : List Str} {k : Nat} {sp : Sp} (F : FunC K x qual st f fd c) (S : FnScope N ps (defScope st)) (len : ∀ vs H Q E, sp vs H Q E → vs.length = ps.length)
    (hbody : ∀ (A : Around) (outer : List Env) (s : Shared) (H : Hp) (vs : List V) (Q : VK) (E : XK), Room k (A.deeper (envOfC qual (defScope st) s.heap.objs.size f (.ref c))) → sp vs H Q E →
      ∃ t, PSs (cxOf CX0 P w K mg base N qual (defScope st) f (.ref c) A outer s H E).nox (defBody st) t ∧ t { nx := fun _ H' => Q .non H', rt := Q } (start N vs) H) :
    FnOk P w K mg base CX0 (k + 1) f fd ps sp := by
  obtain ⟨oc, od, kV, doc, pm, an, ct, osl, e, lk, hcd⟩ := F.ex
  subst e
  refine fn_of lk hcd S len fun A outer s H vs Q E hr hsp => ?_
  obtain ⟨t, h, q⟩ := hbody A outer s H vs Q E hr hsp
  exact ⟨t, h.nox, q⟩
theorem FunC.binds {x qual : Str} {st : Stmt} {f c : Addr} {fd : FuncData} {ps : List Str} (F : FunC K x qual st f fd c)
    (h : ∀ (kV doc pm : Value) (an : Option Addr) (cdv ct : Value) (us : List Value), us.length = ps.length → bindArgs (PySem.W.fnOf x qual (defArgs st) (defBody st) (defScope st) .none kV doc pm an cdv ct) ⟨us, []⟩ = pure (ps.zip us)) : Binds K fd ps [] := by
  obtain ⟨oc, od, kV, doc, pm, an, ct, osl, e, lk, hcd⟩ := F.ex
  subst e
  exact .all (h kV doc pm an (.ref c) ct)
theorem funC_mk {x qual : Str} {st : Stmt} {f c : Addr} {oc : Value} {od an : Option Addr} {osl : Array (Option Value)} {kV doc pm ct : Value} (l : K.lookup f = some ⟨oc, od, .func (PySem.W.fnOf x qual (defArgs st) (defBody st) (defScope st) .none kV doc pm an (.ref c) ct), osl⟩)
    (h : PySem.W.codeIn K (.ref c) qual = true) (k : PySem.W.keepIn K (.ref f) = true) : FunC K x qual st f (PySem.W.fnOf x qual (defArgs st) (defBody st) (defScope st) .none kV doc pm an (.ref c) ct) c := ⟨⟨oc, od, kV, doc, pm, an, ct, osl, rfl, l, h⟩, k⟩
end
end L2
/-! ### the end: the tables of all defs -/
namespace LamX
open PySem PySem.Spec PyProof.Rows L2
/-- the table of each def of the text is empty -/
def AllTab (q : Program) (K : PySem.W.Frag) (h : Heap) : Prop := ∀ (y : Str) (f c P : Addr) (o : Obj) (fd : FuncData) (e : Value) (dd : Option Addr) (vs : Array Value) (sl : Array (Option Value)), ((recsOf q).any fun r => r.name == y) = true →
  PySem.W.nsIn K mainGlobals y = some (some (.ref f)) → K.lookup f = some o → o.data = .func fd → fd.code = .ref c → K.lookup c = some ⟨e, dd, .fields vs, sl⟩ → vs[11]? = some (.ref P) → h.get? P = some { cls := .none, data := .fields #[] }
theorem walk_ofAll {l : PySem.W.OpenLaw} {n k : Nat} {q : Program} {loose : List Str} {XP : (Str → Option Value) → Heap → Prop} {YP : World → Heap → Prop} {d : DefRec} {K : Params → PySem.W.Frag} {CX : World → CXT} {x : Str}
    (hn : l.most = some n) (hn2 : n ≤ sizeLine) (hdf : d.params.defaults = []) (hr : Room k callerA) (hY : ∀ (w : World) (h : Heap), YP w h → (K w.params).In h)
    (F : ∀ (w : World) (mg : Str → Option Value) (fa : Addr) (h : Heap), YP w h → (K w.params).In h → h.Ns mainGlobals mg → mg d.name = some (.ref fa) → AllTab q (K w.params) h → LawAtS l w (K w.params) (CX w) k n x mg fa h)
    (hCX : ∀ (w : World) (H : Hp) (s : Shared) (e : Value) (s' : Shared), CX w [] H s (fun _ _ _ => False) e s' → False) :
    PySem.W.WalkO q loose XP YP l.row.toRowW d [] (fun f vs => PySem.call f vs) := by
  refine Att.attach_callB hn hdf fun w s₀ s₁ mg mb fa o pm cd doc a vs ns G Y ho hd hcd hmg hobj hints hlen hbits hg => ?_
  have KX := hY w _ Y
  have own : AllTab q (K w.params) s₁.heap := fun y f c P o1 fd1 e dd vs1 sl hrec k0 k1 k2 k3 k4 k5 => by
    obtain ⟨dL, hm, hn1⟩ := List.any_eq_true.mp hrec
    have hn2 : dL.name = y := beq_iff_eq.mp hn1
    obtain ⟨a', o', fd', c', P', h1, h2, h3, h4, h5, h6⟩ := G.T.tab dL hm
    rw [hn2, PySem.W.mg_of KX G.T.g k0] at h1
    cases h1
    have g1 := KX _ _ k1
    rw [g1] at h2
    cases h2
    rw [k2] at h3
    cases h3
    rw [k3] at h4
    cases h4
    obtain ⟨⟨oc, vc, e1, _, e3, e4⟩, hP⟩ := h6
    have g2 := KX _ _ k4
    rw [g2] at e1
    cases e1
    cases e3
    rw [k5] at e4
    cases e4
    exact hP
  obtain ⟨fd, cs, sp, hT, nT, C, hb, hsp, hF⟩ := F w mg fa _ Y KX G.T.g hmg own
  exact law_callTs KX G.T.g G.T.b G.T.builtins G.T.nolimit hg hT nT C G.T.bmain hobj hints (Nat.le_trans hlen hn2) hr hF hb (fun H hH hS => hsp H a ns hlen hbits hH hS) fun H e s' => hCX w H s₁ e s'
end LamX
namespace L2
open PySem PySem.Spec PyProof.Rows
/-- a list or a tuple, walked -/
def iSeq (K : PySem.W.Frag) (tl : TE) : TI := fun σ H R => tl σ H fun x H1 => ∃ a, x = .ref a ∧ (((∃ xs, SqL K H1 a xs) ∧ R (Itl K a) H1) ∨ ((∃ xs, SqT K H1 a xs) ∧ R (Itt K a) H1))
theorem pi_seq {X : Cx} {tg l : Expr} {tl : TE} (hl : PE X l tl) : PI X tg l (iSeq X.K tl) := by
  refine ⟨fun pins s σ H R I h => ?_⟩
  refine thn (hl.run pins s σ H _ I h) fun v s1 ⟨x, H1, I1, r1, a, e, q1⟩ => ?_
  subst e
  cases r1
  rcases q1 with ⟨⟨xs, hq⟩, q⟩ | ⟨⟨xs, hq⟩, q⟩
  · obtain ⟨its, rv, p, hz⟩ := I1.list hq
    refine wpAny_pyIter_list p.isList ⟨s1.heap.objs.size, [s1.heap.objs.size], _, _, H1, rfl, I1.kept (t' := s1.toks) fun b o e => Heap.get?_push_of_some _ e, turn_list a _, ⟨_, Heap.get?_push_size _ rfl, rfl, rfl⟩, fun b hb => ?_, q⟩
    obtain rfl : b = s1.heap.objs.size := by simpa using hb
    exact I1.fpOk (Nat.le_refl _) (I1.hok.fresh (Nat.le_refl _))
  · obtain ⟨its, rv, p, hz⟩ := I1.tuple hq
    refine wpAny_pyIter_tuple (show s1.heap.IsTuple a its.toArray from p) ⟨s1.heap.objs.size, [s1.heap.objs.size], _, _, H1, rfl, I1.kept (t' := s1.toks) fun b o e => Heap.get?_push_of_some _ e, turn_tuple a _, ⟨_, Heap.get?_push_size _ rfl, rfl, rfl⟩, fun b hb => ?_, q⟩
    obtain rfl : b = s1.heap.objs.size := by simpa using hb
    exact I1.fpOk (Nat.le_refl _) (I1.hok.fresh (Nat.le_refl _))
/-- walking a list or a tuple: one invariant -/
theorem for_seq {K : PySem.W.Frag} {a : Addr} {xs : List V} {g : TG} {tb : TS} {D : Ends} {σ : St} {H H0 : Hp} (ha : SqL K H0 a xs ∨ SqT K H0 a xs) (Pv : Nat → St → Hp → Prop) (h0 : Pv 0 σ H) (hl : ∀ i σ H1, i ≤ xs.length → Pv i σ H1 → EXT.Ext H0 H1)
    (hs : ∀ i x σ H, xs[i]? = some x → Pv i σ H → g x σ H fun σ2 H2 => tb { D with nx := Pv (i + 1), ct := Pv (i + 1), bk := D.nx } σ2 H2) (hd : ∀ σ H, Pv xs.length σ H → D.nx σ H) :
    let G : It → Prop := fun J => ∃ W : Nat → Nat → St → Hp → Prop, (∃ m, W 0 m σ H) ∧ ∀ i m σ H, W i m σ H →
      ((J.stop i H ∧ D.nx σ H) ∨ (J.go i H ∧ ∃ N : St → Hp → Prop, (∀ σ' H', N σ' H' → ∃ m', m' < m ∧ W (i + 1) m' σ' H') ∧ ∀ x H', J.yld i H x H' → g x σ H' fun σ2 H2 => tb { D with nx := N, ct := N, bk := D.nx } σ2 H2))
    ((∃ xs, SqL K H a xs) ∧ G (Itl K a)) ∨ ((∃ xs, SqT K H a xs) ∧ G (Itt K a)) := by
  rcases ha with h | h
  · exact .inl ⟨⟨xs, (hl _ _ _ (Nat.zero_le _) h0).seq h⟩, for_list Pv h0 (fun i σ H1 hi p => (hl i σ H1 hi p).seq h) hs hd⟩
  · exact .inr ⟨⟨xs, (hl _ _ _ (Nat.zero_le _) h0).tup h⟩, for_tup Pv h0 (fun i σ H1 hi p => (hl i σ H1 hi p).tup h) hs hd⟩
end L2
namespace L2
open PySem PySem.Spec PyProof.Rows
/-- pairs of ints, by their first, then by their second -/
def geP (x y : Int × Int) : Bool := !SrtO.lexB x y
theorem ge_not (i j : Int) : (!decide (i < j)) = decide (j ≤ i) := by
  by_cases z : i < j
  · rw [decide_eq_true z, decide_eq_false (by omega)]
    rfl
  · rw [decide_eq_false z, decide_eq_true (by omega)]
    rfl
/-- t >= u of two pairs of ints -/
def rGeP (K : PySem.W.Frag) : R2 := fun x y H Q => ∃ (a b : Addr) (p q : Int × Int), x = .ref a ∧ y = .ref b ∧ SqT K H a [.int p.1, .int p.2] ∧ SqT K H b [.int q.1, .int q.2] ∧ Q (.bl (geP p q)) H
theorem pair_vals {i j : Int} {its : List Value} (r : Vals [V.int i, .int j] its) : ∃ t u, its = [.int i t, .int j u] := by
  obtain ⟨u1, u2, rfl, ⟨t, rfl⟩, ⟨u, rfl⟩⟩ := vals2 r
  exact ⟨t, u, rfl⟩
theorem op_geP {X : Cx} (hu : X.A.units < cLine) : OpR X (compareOp .GtE) (rGeP X.K) := by
  intro pins s σ H x y v u Q I rx ry h
  obtain ⟨a, b, p, q, rfl, rfl, ha, hb, k⟩ := h
  cases rx
  cases ry
  obtain ⟨its, r1, p1, _⟩ := I.tuple ha
  obtain ⟨its2, r2, p2, _⟩ := I.tuple hb
  obtain ⟨t1, t2, rfl⟩ := pair_vals r1
  obtain ⟨t3, t4, rfl⟩ := pair_vals r2
  have R := Ob.RcOp.tuples_ge (A := X.A) (s := s) (e := fun j => if j = 0 then (p.1 == q.1) else (p.2 == q.2)) (r := fun j => if j = 0 then decide (q.1 ≤ p.1) else decide (q.2 ≤ p.2)) p1 p2 hu (fun j h1 h2 => by
    match j, h1, h2 with
    | 0, _, _ => exact SeqAt.EqAt.int_int _ _ _ _
    | 1, _, _ => exact SeqAt.EqAt.int_int _ _ _ _) (fun j h1 h2 _ => by
    match j, h1, h2 with
    | 0, _, _ => exact Ob.RcOp.ge_int _ _ _ _
    | 1, _, _ => exact Ob.RcOp.ge_int _ _ _ _)
  have e : geP p q = Ob.lexAt (fun j => if j = 0 then (p.1 == q.1) else (p.2 == q.2)) (fun j => if j = 0 then decide (q.1 ≤ p.1) else decide (q.2 ≤ p.2)) (decide (2 ≥ 2)) 0 2 := by
    rw [Ob.lexAt_succ, Ob.lexAt_succ, Ob.lexAt_zero]
    unfold geP SrtO.lexB
    by_cases e1 : p.1 = q.1
    · rw [if_pos e1, ge_not]
      by_cases e2 : p.2 = q.2
      · have b1 : (p.1 == q.1) = true := beq_iff_eq.mpr e1
        have b2 : (p.2 == q.2) = true := beq_iff_eq.mpr e2
        have z : q.2 ≤ p.2 := by omega
        simp [b1, b2, z]
      · have b1 : (p.1 == q.1) = true := beq_iff_eq.mpr e1
        have b2 : (p.2 == q.2) = false := beq_eq_false_iff_ne.mpr e2
        simp [b1, b2]
    · have b1 : (p.1 == q.1) = false := beq_eq_false_iff_ne.mpr e1
      rw [if_neg e1, ge_not]
      simp [b1]
  rw [e] at k
  have z : wpAny (model X.prog X.w) X.A (compareOp .GtE (.ref a) (.ref b)) (EP X pins σ Q) X.xe s := R X.prog X.w X.xe (EP X pins σ Q) ⟨.bl _, H, I, rfl, k⟩
  exact z
/-- a op b op' c op'' d -/
def tChain3 (r r' r'' : R2) (ta tb tc td : TE) : TE := fun σ H Q => ta σ H fun x H1 => tb σ H1 fun y H2 => r x y H2 fun z H3 => ∃ k, z = .bl k ∧
  (if k = true then tc σ H3 fun w' H4 => r' y w' H4 fun z2 H5 => ∃ k2, z2 = .bl k2 ∧ (if k2 = true then td σ H5 fun w2 H6 => r'' w' w2 H6 Q else Q (.bl false) H5) else Q (.bl false) H3)
theorem pe_chain3 {X : Cx} {a b c d : Expr} {pos : Pos} {ta tb tc td : TE} {op op' op'' : CmpOp} {r r' r'' : R2} (ho : OpR X (compareOp op) r) (ho' : OpR X (compareOp op') r') (ho'' : OpR X (compareOp op'') r'') (ha : PE X a ta) (hb : PE X b tb) (hc : PE X c tc) (hd : PE X d td)
    (hm : lastMarks [op, op', op''] [b, c, d] = false := by with_unfolding_all rfl) : PE X (.Compare a [op, op', op''] [b, c, d] pos) (tChain3 r r' r'' ta tb tc td) := by
  refine ⟨fun pins s σ H Q I h => ?_⟩
  refine Compare_chain (thn (ha.run pins s σ H _ I h) fun v s1 ⟨x, H1, I1, r1, q1⟩ => chain_link (thn (hb.run pins s1 σ H1 _ I1 q1) fun u s2 ⟨y, H2, I2, r2, q2⟩ =>
    thn (ho pins s2 σ H2 x y v u _ I2 r1 r2 q2) fun d s3 ⟨z, H3, I3, r3, k, e, q3⟩ => ?_)) hm
  subst e
  cases r3
  refine wpAny_truthy_bool ?_
  cases k with
  | false => exact ite_ff ⟨.bl false, H3, I3, rfl, q3⟩
  | true =>
    refine ite_tt (chain_link (thn (hc.run pins s3 σ H3 _ I3 q3) fun w' s4 ⟨z', H4, I4, r4, q4⟩ => thn (ho' pins s4 σ H4 y z' u w' _ I4 r2 r4 q4) fun d5 s5 ⟨z5, H5, I5, r5, k5, e5, q5⟩ => ?_))
    subst e5
    cases r5
    refine wpAny_truthy_bool ?_
    cases k5 with
    | false => exact ite_ff ⟨.bl false, H5, I5, rfl, q5⟩
    | true => exact ite_tt (chain_last (thn (hd.run pins s5 σ H5 _ I5 q5) fun w2 s6 ⟨z6, H6, I6, r6, q6⟩ => ho'' pins s6 σ H6 z' z6 w' w2 Q I6 r4 r6 q6))
theorem pt_chain3 {X : Cx} {a b c d : Expr} {pos : Pos} {ta tb tc td : TE} {op op' op'' : CmpOp} {r r' r'' : R2} (ho : OpR X (compareOp op) r) (ho' : OpR X (compareOp op') r') (ho'' : OpR X (compareOp op'') r'') (ha : PE X a ta) (hb : PE X b tb) (hc : PE X c tc) (hd : PE X d td)
    (hm : lastMarks [op, op', op''] [b, c, d] = false := by with_unfolding_all rfl) : PT X (.Compare a [op, op', op''] [b, c, d] pos) (tTest (tChain3 r r' r'' ta tb tc td)) := by
  refine ⟨fun pins s σ H Q I h => ?_⟩
  refine isTrue_chain (thn (ha.run pins s σ H _ I h) fun v s1 ⟨x, H1, I1, r1, q1⟩ => test_link (thn (hb.run pins s1 σ H1 _ I1 q1) fun u s2 ⟨y, H2, I2, r2, q2⟩ =>
    thn (ho pins s2 σ H2 x y v u _ I2 r1 r2 q2) fun d s3 ⟨z, H3, I3, r3, k, e, q3⟩ => ?_)) hm
  subst e
  cases r3
  refine wpAny_truthy_bool ?_
  cases k with
  | false =>
    obtain ⟨k', e', q'⟩ := q3
    cases e'
    exact ite_ff ⟨H3, I3, q'⟩
  | true =>
    refine ite_tt (test_link (thn (hc.run pins s3 σ H3 _ I3 q3) fun w' s4 ⟨z', H4, I4, r4, q4⟩ => thn (ho' pins s4 σ H4 y z' u w' _ I4 r2 r4 q4) fun d5 s5 ⟨z5, H5, I5, r5, k5, e5, q5⟩ => ?_))
    subst e5
    cases r5
    refine wpAny_truthy_bool ?_
    cases k5 with
    | false =>
      obtain ⟨k', e', q'⟩ := q5
      cases e'
      exact ite_ff ⟨H5, I5, q'⟩
    | true =>
      refine ite_tt (test_last (thn (hd.run pins s5 σ H5 _ I5 q5) fun w2 s6 ⟨z6, H6, I6, r6, q6⟩ => thn (ho'' pins s6 σ H6 z' z6 w' w2 _ I6 r4 r6 q6) fun d7 s7 ⟨z7, H7, I7, r7, k7, e7, q7⟩ => ?_))
      subst e7
      cases r7
      exact wpAny_truthy_bool ⟨H7, I7, q7⟩
end L2
namespace L2
open PySem PySem.Spec PyProof.Rows RZ
/-- zip of two tuples, the second not longer than the first -/
theorem for_zipM {K : PySem.W.Frag} {a b : Addr} {xs ys : List V} {g : TG} {tb : TS} {D : Ends} {σ : L2.St} {H : Hp} (hl : ys.length ≤ xs.length) (Pv : Nat → L2.St → Hp → Prop) (h0 : Pv 0 σ H) (hq : ∀ i σ H, Pv i σ H → SqT K H a xs ∧ SqT K H b ys)
    (hs : ∀ (i : Nat) (x y : V) (T : Addr) (σ : L2.St) (H : Hp), xs[i]? = some x → ys[i]? = some y → Pv i σ H → H T = none → g (.ref T) σ (upd H T (.tup [x, y])) fun σ2 H2 => tb { D with nx := Pv (i + 1), ct := Pv (i + 1), bk := D.nx } σ2 H2)
    (hd : ∀ σ H, Pv ys.length σ H → D.nx σ H) :
    ∃ W : Nat → Nat → L2.St → Hp → Prop, (∃ m, W 0 m σ H) ∧ ∀ i m σ H, W i m σ H →
      ((ItzT K a b).stop i H ∧ D.nx σ H) ∨ ((ItzT K a b).go i H ∧ ∃ N : L2.St → Hp → Prop, (∀ σ' H', N σ' H' → ∃ m', m' < m ∧ W (i + 1) m' σ' H') ∧ ∀ v H', (ItzT K a b).yld i H v H' → g v σ H' fun σ2 H2 => tb { D with nx := N, ct := N, bk := D.nx } σ2 H2) := by
  refine ⟨fun i m σ H => m = ys.length - i ∧ i ≤ ys.length ∧ Pv i σ H, ⟨ys.length, rfl, Nat.zero_le _, h0⟩, ?_⟩
  rintro i m σ H ⟨rfl, hi, p⟩
  obtain ⟨qx, qy⟩ := hq i σ H p
  by_cases hlt : i < ys.length
  · have hlx : i < xs.length := by omega
    refine .inr ⟨⟨xs, ys, _, _, qx, qy, List.getElem?_eq_getElem hlx, List.getElem?_eq_getElem hlt⟩, Pv (i + 1), fun σ' H' p' => ⟨ys.length - (i + 1), by omega, rfl, hlt, p'⟩, fun v H' y => ?_⟩
    obtain ⟨T, x', y', rfl, hT, rfl, f1, f2⟩ := y
    exact hs i x' y' T σ H (f1 xs qx) (f2 ys qy) p hT
  · obtain rfl : i = ys.length := by omega
    exact .inl ⟨⟨xs, ys, qx, qy, Or.inr (Nat.le_refl _)⟩, hd σ H p⟩
end L2
namespace L2
open PySem PySem.Spec PyProof.Rows
section
variable {X : Cx} {CX : CXT} {k : Nat} {f C : Addr} {fd : FuncData} {ps : List Str} {sp : Sp} {E : St → XK} {x : Str} {p pos : Pos} {e : Expr} {es : List Expr} {t : TA}
/-- C(..) in a try's body: what it lets out may speak of the slots -/
theorem run_makeS {pins : List (Addr × Obj)} {σ : St} {H : Hp} {s : Shared} {Q : VK} {us : List Value} {vs : List V} (M : Mk X.K C f) (F : FnOk X.prog X.w X.K X.mg X.base CX k f fd ps sp) (hr : Room (k + 1) X.A) (hb : Binds X.K fd ps [])
    (hx : PassesAt CX X σ (E σ)) (I : Inv X pins σ H s) (r : Vals vs us)
    (h : ∀ x dx, H x = none → H dx = none → dx ≠ x → sp (.ref x :: vs) (upd (upd H dx (.own x)) x (.ins C dx [])) (fun v H2 => v = .non ∧ Q (.ref x) H2) (E σ)) :
    wpAny (model X.prog X.w) X.A (call (.ref C) us) (EP X pins σ Q) X.xe s := by
  have hq := h (s.heap.objs.size + 1) s.heap.objs.size (I.hok.fresh (Nat.le_succ _)) (I.hok.fresh (Nat.le_refl _)) (Nat.ne_of_lt (Nat.lt_succ_self _))
  have I2 := Inv.made (C := C) I
  have r2 : Vals (V.ref (s.heap.objs.size + 1) :: vs) (Value.ref (s.heap.objs.size + 1) :: us) := .cons rfl r
  have hl : (Value.ref (s.heap.objs.size + 1) :: us).length = ps.length := by
    have l1 := r2.length
    rw [F.len _ _ _ _ hq] at l1
    exact l1.symm
  have bb := hb _ (Value.ref (s.heap.objs.size + 1) :: us) I2.kIn (by rw [List.append_nil]; exact hl)
  rw [List.append_nil] at bb
  refine wpAny_call (make_map (f := f) I.kIn M.makes M.init (beq_iff_eq.mp M.fn) (codeAny_mono (F.run _ X.stack _ _ ⟨Value.ref (s.heap.objs.size + 1) :: us, []⟩ (Value.ref (s.heap.objs.size + 1) :: us) _ _ (E σ) (hr.make C us []) (I2.env0.make C us []) bb r2 hq) fun r s' hq' => ?_))
  cases r with
  | error e => exact hx pins _ _ e s' I2 hq'
  | ok fl =>
    cases fl with
    | ret u =>
      obtain ⟨v, H', I3, rv, ev, q3⟩ := I2.after hq'
      subst ev
      exact ⟨rv, ⟨V.ref (s.heap.objs.size + 1), H', I3, rfl, q3⟩⟩
    | next => exact False.elim hq'
    | brk => exact False.elim hq'
    | cont => exact False.elim hq'
def tMakeS (C : Addr) (sp : Sp) (E : St → XK) (t : TA) : TE := fun σ H Q => t σ H fun vs H1 => ∀ x dx, H1 x = none → H1 dx = none → dx ≠ x →
  sp (.ref x :: vs) (upd (upd H1 dx (.own x)) x (.ins C dx [])) (fun v H2 => v = .non ∧ Q (.ref x) H2) (E σ)
theorem pe_makeS (M : Mk X.K C f) (F : FnOk X.prog X.w X.K X.mg X.base CX k f fd ps sp) (hr : Room (k + 1) X.A) (hg : Gl X x) (hm : X.mg x = some (.ref C)) (hb : Binds X.K fd ps []) (hx : ∀ σ, PassesAt CX X σ (E σ))
    (ha : PA X (e :: es) t) (hdb : (x == ("__debug__" : Str)) = false := by decide) (he : starEach (e :: es) X.env = (false, eval e X.env) :: starEach es X.env := by rfl) (hpl : (backTo pos (starEach es X.env)).any (·.1) = false := by rfl) :
    PE X (.Call (.Name x p) (e :: es) [] pos) (tMakeS C sp E t) := by
  refine ⟨fun pins s σ H Q I h => ?_⟩
  refine wpAny_Call_Name_kw (ld_glob I hg hm ?_ hdb)
  refine PySem.W.callWith_K (h₀ := X.base) I.ok.mod.kin M.kp (thn (ha.run pos pins s σ H _ I h) fun us s1 ⟨vs, H1, I1, r, q⟩ => ⟨I1.kIn, ?_⟩) he hpl
  exact run_makeS M F hr hb (hx σ) I1 r q
end
end L2
/-! ### sum of a tuple of ints -/
namespace L2
open PySem PySem.Spec PyProof.Rows
def rSumT (K : PySem.W.Frag) : List V → Hp → VK → Prop := fun vs H Q => ∃ (a : Addr) (ns : List Int), vs = [V.ref a] ∧ SqT K H a (ns.map V.int) ∧ Q (.int ns.sum) H
theorem preSum_at (ns : List Int) : ∀ k, k ≤ ns.length → preSum (fun i => (ns[i]?).getD 0) k = (ns.take k).sum
  | 0, _ => by simp [preSum]
  | k + 1, h => by
    rw [preSum, preSum_at ns k (by omega), List.take_add_one, List.getElem?_eq_getElem (by omega : k < ns.length), List.sum_append]
    simp
theorem vals_ints_at : ∀ {ns : List Int} {its : List Value} {i : Nat} {v : Value}, Vals (ns.map V.int) its → its[i]? = some v → ∃ t, v = .int ((ns[i]?).getD 0) t
  | [], _, i, v, .nil, h => by simp at h
  | n :: ns, _, 0, v, .cons r t, h => by
    simp only [List.getElem?_cons_zero, Option.some.injEq] at h
    subst h
    obtain ⟨t, e⟩ := r
    exact ⟨t, e⟩
  | n :: ns, _, i + 1, v, .cons r t, h => by
    simp only [List.getElem?_cons_succ] at h
    simpa using vals_ints_at t h
theorem cr_sumT {X : Cx} (hc : X.calm = true) : CallR X (.builtin "sum") (rSumT X.K) := by
  intro pins s σ H xs us Q I hv h
  obtain ⟨a, ns, rfl, hq, q⟩ := h
  cases hv with
  | cons r t =>
    cases t
    cases r
    obtain ⟨its, rv, p, hz⟩ := I.tuple hq
    have p' : s.heap.IsTuple a its.toArray := p
    obtain ⟨o, ho, p2⟩ := id p'
    have hne : a ≠ s.heap.objs.size := Nat.ne_of_lt (Heap.lt_size ho)
    have hl := rv.length
    rw [List.length_map] at hl
    refine call_sum_walkG (wpAny_pyIter_tuple p' ⟨s.heap.objs.size, [s.heap.objs.size, a], [s.heap.objs.size], _, _, _, fun i => (ns[i]?).getD 0, rfl, Walks.tuple (A := X.A.in1) (I.ok.hd hc) _ a hne its.toArray, ⟨⟨_, Heap.get?_push_size _ rfl, rfl, rfl⟩, ⟨o, Heap.get?_push_of_some _ ho, p2⟩⟩, fun b hb => ?_, fun i v hi => ?_, fun h' tk t' hk => ?_⟩)
    · have h1 := Heap.lt_size ho
      simp only [List.mem_cons, List.not_mem_nil, or_false] at hb
      show b < (s.heap.push _).objs.size
      rw [PyProof.Rows.size_push']
      rcases hb with e | e
      · rw [e]
        exact Nat.lt_succ_self _
      · rw [e]
        exact Nat.lt_succ_of_lt h1
    · refine vals_ints_at rv ?_
      simpa using hi
    · refine ⟨.int (preSum (fun i => (ns[i]?).getD 0) its.toArray.size), H, I.kept (t' := tk) fun b o e => hk b o (fun m => ?_) (Heap.get?_push_of_some _ e), ⟨_, rfl⟩, ?_⟩
      · have h1 := Heap.lt_size e
        rw [List.mem_singleton.mp m] at h1
        exact Nat.lt_irrefl _ h1
      · have e : preSum (fun i => (ns[i]?).getD 0) its.toArray.size = ns.sum := by
          rw [List.size_toArray, ← hl, preSum_at ns _ (Nat.le_refl _), List.take_length]
        rw [e]
        exact q
end L2
/-! ### walks with an invariant on the heap alone: the inner for of a comprehension; zip in a generator expression -/
namespace L2
open PySem PySem.Spec PyProof.Rows
theorem passes_no {X : Cx} : Passes (L2.CX X.prog X.w) X (fun _ _ _ => False) := fun pins σ H s e s' I h => by
  obtain ⟨a, B, H', cls, d, _, _, _, _, _, _, _, h⟩ := h
  exact h.elim
section
variable {K : PySem.W.Frag} {a b : Addr} {xs ys : List V} {H0 : Hp} {B : V → Hp → (Hp → Prop) → Prop} {Nx : Hp → Prop}
theorem w_tup (Pv : Nat → Hp → Prop) (h0 : Pv 0 H0) (hl : ∀ i H, i ≤ xs.length → Pv i H → SqT K H a xs) (hs : ∀ i x H, xs[i]? = some x → Pv i H → B x H (Pv (i + 1))) (hd : ∀ H, Pv xs.length H → Nx H) :
    ∃ W : Nat → Nat → Hp → Prop, (∃ m, W 0 m H0) ∧ ∀ i m H, W i m H → ((Itt K a).stop i H ∧ Nx H) ∨ ((Itt K a).go i H ∧ ∃ N : Hp → Prop, (∀ H', N H' → ∃ m', m' < m ∧ W (i + 1) m' H') ∧ ∀ x H', (Itt K a).yld i H x H' → B x H' N) := by
  refine ⟨fun i m H => m = xs.length - i ∧ i ≤ xs.length ∧ Pv i H, ⟨xs.length, rfl, Nat.zero_le _, h0⟩, ?_⟩
  rintro i m H ⟨rfl, hi, p⟩
  have q := hl i H hi p
  by_cases hlt : i < xs.length
  · refine .inr ⟨⟨xs, _, q, List.getElem?_eq_getElem hlt⟩, Pv (i + 1), fun H' p' => ⟨_, by omega, rfl, hlt, p'⟩, fun x H' y => ?_⟩
    obtain ⟨rfl, y⟩ := y
    exact hs i x _ (y xs q) p
  · have e : i = xs.length := by omega
    subst e
    exact .inl ⟨⟨xs, q, Nat.le_refl _⟩, hd H p⟩
theorem w_list (Pv : Nat → Hp → Prop) (h0 : Pv 0 H0) (hl : ∀ i H, i ≤ xs.length → Pv i H → SqL K H a xs) (hs : ∀ i x H, xs[i]? = some x → Pv i H → B x H (Pv (i + 1))) (hd : ∀ H, Pv xs.length H → Nx H) :
    ∃ W : Nat → Nat → Hp → Prop, (∃ m, W 0 m H0) ∧ ∀ i m H, W i m H → ((Itl K a).stop i H ∧ Nx H) ∨ ((Itl K a).go i H ∧ ∃ N : Hp → Prop, (∀ H', N H' → ∃ m', m' < m ∧ W (i + 1) m' H') ∧ ∀ x H', (Itl K a).yld i H x H' → B x H' N) := by
  refine ⟨fun i m H => m = xs.length - i ∧ i ≤ xs.length ∧ Pv i H, ⟨xs.length, rfl, Nat.zero_le _, h0⟩, ?_⟩
  rintro i m H ⟨rfl, hi, p⟩
  have q := hl i H hi p
  by_cases hlt : i < xs.length
  · refine .inr ⟨⟨xs, _, q, List.getElem?_eq_getElem hlt⟩, Pv (i + 1), fun H' p' => ⟨_, by omega, rfl, hlt, p'⟩, fun x H' y => ?_⟩
    obtain ⟨rfl, y⟩ := y
    exact hs i x _ (y xs q) p
  · have e : i = xs.length := by omega
    subst e
    exact .inl ⟨⟨xs, q, Nat.le_refl _⟩, hd H p⟩
theorem w_range {lo : Int} {n : Nat} (Pv : Nat → Hp → Prop) (h0 : Pv 0 H0) (hs : ∀ i H, i < n → Pv i H → B (.int (lo + i)) H (Pv (i + 1))) (hd : ∀ H, Pv n H → Nx H) :
    ∃ W : Nat → Nat → Hp → Prop, (∃ m, W 0 m H0) ∧ ∀ i m H, W i m H → ((Itr lo n).stop i H ∧ Nx H) ∨ ((Itr lo n).go i H ∧ ∃ N : Hp → Prop, (∀ H', N H' → ∃ m', m' < m ∧ W (i + 1) m' H') ∧ ∀ x H', (Itr lo n).yld i H x H' → B x H' N) := by
  refine ⟨fun i m H => m = n - i ∧ i ≤ n ∧ Pv i H, ⟨n, rfl, Nat.zero_le _, h0⟩, ?_⟩
  rintro i m H ⟨rfl, hi, p⟩
  by_cases hlt : i < n
  · refine .inr ⟨hlt, Pv (i + 1), fun H' p' => ⟨_, by omega, rfl, hlt, p'⟩, fun x H' y => ?_⟩
    obtain ⟨rfl, rfl⟩ := y
    exact hs i _ hlt p
  · have e : i = n := by omega
    subst e
    exact .inl ⟨Nat.le_refl _, hd H p⟩
end
end L2
namespace GXP
open PySem PySem.Spec PyProof.Rows L2 RZ
section
variable {K : PySem.W.Frag} {a b : Addr} {xs ys : List V} {g : TG} {tt : TT} {te : TE} {vs : List Nat} {σ : L2.St} {cy : Cy} {Qe : List V → Hp → Prop} {H0 : Hp}
/-- zip of two tuples of one length -/
theorem gx_zipT (hn : xs.length = ys.length) (Pv : Nat → List V → Hp → Prop) (h0 : Pv 0 [] H0) (hl : ∀ i zs H, Pv i zs H → SqT K H a xs ∧ SqT K H b ys)
    (hs : ∀ i x y T zs H, xs[i]? = some x → ys[i]? = some y → Pv i zs H → H T = none → g (.ref T) (wipe σ vs) (upd H T (.tup [x, y])) fun σ2 H2 => wipe σ2 vs = wipe σ vs ∧ tt σ2 H2 fun b H3 => if b = true then te σ2 H3 fun y H4 => cy zs y H4 (Pv (i + 1)) else Pv (i + 1) zs H3)
    (hd : ∀ zs H, Pv ys.length zs H → Qe zs H) : ∃ W m, W 0 m [] H0 ∧ Turns (ItzT K a b) g tt te vs σ cy Qe W := by
  refine ⟨fun i m zs H => m = ys.length - i ∧ i ≤ ys.length ∧ Pv i zs H, ys.length, ⟨rfl, Nat.zero_le _, h0⟩, ?_⟩
  rintro i m zs H ⟨rfl, hi, p⟩
  obtain ⟨qx, qy⟩ := hl i zs H p
  by_cases hlt : i < ys.length
  · have hlx : i < xs.length := by omega
    refine .inr ⟨⟨xs, ys, _, _, qx, qy, List.getElem?_eq_getElem hlx, List.getElem?_eq_getElem hlt⟩, by omega, Pv (i + 1), fun zs' H' p' => ⟨_, by omega, rfl, hlt, p'⟩, fun v H' y => ?_⟩
    obtain ⟨T, x', y', rfl, hT, rfl, f1, f2⟩ := y
    exact hs i x' y' T zs H (f1 xs qx) (f2 ys qy) p hT
  · have e : i = ys.length := by omega
    subst e
    exact .inl ⟨⟨xs, ys, qx, qy, Or.inr (Nat.le_refl _)⟩, hd zs H p⟩
end
end GXP
/-! ### enumerate of a list or a tuple -/
namespace L2
open PySem PySem.Spec PyProof.Rows
theorem wp_if {α : Type} {M : Model} {A : Around} {E : Value → Shared → Prop} {s : Shared} {c : Bool} {x y : Sem α} {Q : α → Shared → Prop} (h1 : wpAny M A x Q E s) (h2 : wpAny M A y Q E s) : wpAny M A (if c = true then x else y) Q E s := by
  cases c
  · exact h2
  · exact h1
theorem call_enumerate_tup {prog : Program} {w : World} {A : Around} {E : Value → Shared → Prop} {s : Shared} {t : Addr} {items : Array Value} {Q : Value → Shared → Prop} (hI : s.heap.IsTuple t items)
    (hQ : ∀ (h' : Heap) (e : Addr), s.heap.objs.size ≤ e → e ≠ s.heap.objs.size → IsEnum h' e s.heap.objs.size 0 Value.none → h'.IsTupleIter s.heap.objs.size t 0 → (∀ (b : Addr) (o : Obj), s.heap.get? b = some o → h'.get? b = some o) → Q (.ref e) { s with heap := h' }) :
    wpAny (model prog w) A (call (.type "enumerate") [.ref t]) Q E s := by
  refine callType_codes (Q₁ := fun obj s1 => s1.TypeIs obj "enumerate" ∧ Q obj s1) F.called_enumerate (F.typeCall_enumerate_1 _) F.entry_object_init (codeAny_of_tree ?_) fun obj s1 h1 =>
    ⟨h1.1, F.args_object_init_2 obj _, object_init_meets F.called_enumerate.init.lookup F.called_enumerate.made (by decide) prog w A.in1 _ s1 ⟨h1.1, rfl, h1.2⟩⟩
  have pl : plainId "enumerate.__new__" = true := by decide +kernel
  show wpAny _ A.in1.in1 (do checkBuiltinCall "enumerate.__new__" ⟨[.type "enumerate", .ref t], []⟩; again (.builtin "enumerate.__new__" ⟨[.type "enumerate", .ref t], []⟩)) _ _ s
  refine wpAny_bind (wpAny_of_eq (F.newCall_enumerate_1 _) (wpAny_pure ⟨plainId_quiet pl _, codeAny_builtin F.entry_enumerate_new ?_⟩))
  rw [Around.under_plainId pl]
  unfold Builtin.«enumerate.__new__»
  have hsub : isSubtype (Value.type "enumerate") (Value.type "enumerate") = pure true := by rfl
  wp_walk using wpAny_pyIter_tuple hI
  refine wpAny_stack_any fun st => wpAny_pure ?_
  refine wp_if ?_ ?_
  all_goals
    refine wpAny_bind (wpAny_of_eq (show _ = pure (Value.ref t, none) from rfl) ?_)
    wp_walk using wpAny_pyIter_tuple hI
  all_goals
    have o1 : ((s.heap.push { cls := .type "tuple_iterator", data := .fields #[.ref t, .int 0 0] }).push { cls := .type "enumerate", data := .fields #[.none, .bool false, .ref s.heap.objs.size, rawInt 0, .none, .none] }).get? (s.heap.push { cls := .type "tuple_iterator", data := .fields #[.ref t, .int 0 0] }).objs.size = some { cls := .type "enumerate", data := .fields #[.none, .bool false, .ref s.heap.objs.size, rawInt 0, .none, .none] } := Heap.get?_push_size _ rfl
    refine ⟨⟨_, o1, rfl⟩, ?_⟩
    have g2 : ((s.heap.push { cls := .type "tuple_iterator", data := .fields #[.ref t, .int 0 0] }).push { cls := .type "enumerate", data := .fields #[.none, .bool false, .ref s.heap.objs.size, rawInt 0, .none, .none] }).get? s.heap.objs.size = some { cls := .type "tuple_iterator", data := .fields #[.ref t, .int 0 0] } := Heap.get?_push_of_some _ (Heap.get?_push_size _ rfl)
    have hz : (s.heap.push { cls := .type "tuple_iterator", data := .fields #[.ref t, .int 0 0] }).objs.size = s.heap.objs.size + 1 := PyProof.Rows.size_push' _ _
    have hq := hQ _ _ (by rw [hz]; exact Nat.le_succ _) (by rw [hz]; exact Nat.succ_ne_self _) o1 ⟨_, g2, rfl, rfl⟩ fun b o e => Heap.get?_push_of_some _ (Heap.get?_push_of_some _ e)
    exact hq
/-- enumerate of a tuple of n things -/
def IteT (K : PySem.W.Frag) (a : Addr) (n : Nat) : It where
  go := fun i H => ∃ xs x, SqT K H a xs ∧ xs[i]? = some x ∧ xs.length = n
  yld := fun i H v H' => ∃ T x, v = V.ref T ∧ H T = none ∧ H' = upd H T (.tup [V.int (i : Int), x]) ∧ ∀ xs : List V, SqT K H a xs → xs[i]? = some x
  stop := fun i H => ∃ xs, SqT K H a xs ∧ xs.length = n ∧ n ≤ i
theorem vals_get : ∀ {xs : List V} {its : List Value} {i : Nat} {u : Value}, Vals xs its → its[i]? = some u → ∃ x, xs[i]? = some x ∧ RelV x u
  | _, _, i, u, .nil, h => by simp at h
  | _, _, 0, u, .cons r t, h => by
    simp only [List.getElem?_cons_zero, Option.some.injEq] at h
    subst h
    exact ⟨_, rfl, r⟩
  | _, _, i + 1, u, .cons r t, h => by
    simp only [List.getElem?_cons_succ] at h
    obtain ⟨x, h1, h2⟩ := vals_get t h
    exact ⟨x, by simpa using h1, h2⟩
theorem turn_enumT {P : Program} {w : World} {K : PySem.W.Frag} {elts : List Expr} {kk : Nat} {tpos : Pos} {a e it : Addr} {n : Nat} :
    Turn P w K (.Tuple elts kk tpos) (IteT K a n) [e, it] e fun i h => (∃ old, IsEnum h e it (i : Int) old) ∧ h.IsTupleIter it a i ∧ e ≠ it ∧ i ≤ n := by
  have ne_of : ∀ {h : Heap} {i : Nat} {old : Value} {items : Array Value}, IsEnum h e it (i : Int) old → h.IsTupleIter it a i → h.IsTuple a items → e ≠ it → a ≠ it ∧ e ∉ [it, a] := fun he hi ha hne => by
    obtain ⟨o, ho, hc, hd⟩ := hi
    obtain ⟨o2, ho2, hc2, _⟩ := ha
    refine ⟨fun z => ?_, fun m => ?_⟩
    · rw [z, ho] at ho2
      cases ho2
      rw [hc] at hc2
      exact absurd (Value.type.inj hc2) (by decide)
    · simp only [List.mem_cons, List.not_mem_nil, or_false] at m
      rcases m with m | m
      · exact hne m
      · have he2 : _ = some _ := he
        rw [m] at he2
        have he3 := he2.symm.trans ho2
        cases he3
        exact absurd (Value.type.inj hc2) (by decide)
  refine ⟨List.mem_cons_self, fun i h tn b hb => ?_, fun i h h' tn hk => ?_, fun X hP hw hK hcalm i pins s σ H E I hfp tn go => ?_, fun X hP hw hK hcalm i pins s σ H E I hfp tn st => ?_, fun A i s Q E tn q => ?_⟩
  · obtain ⟨⟨old, he⟩, ⟨o, ho, hc, hd⟩, hne, hn⟩ := tn
    simp only [List.mem_cons, List.not_mem_nil, or_false] at hb
    rcases hb with rfl | rfl
    · exact ⟨_, he, fun v z => by cases z⟩
    · exact ⟨o, ho, fun v z => by rw [hd] at z; cases z⟩
  · obtain ⟨⟨old, he⟩, ⟨o, ho, hc, hd⟩, hne, hn⟩ := tn
    exact ⟨⟨old, hk e (by simp) _ he⟩, ⟨o, hk it (by simp) _ ho, hc, hd⟩, hne, hn⟩
  · subst hP
    subst hw
    subst hK
    obtain ⟨xs, x, hq, hx, hlen⟩ := go
    obtain ⟨its, rv, p, hz⟩ := I.tuple hq
    have p' : s.heap.IsTuple a its.toArray := p
    obtain ⟨⟨old, he⟩, hi, hne, hn⟩ := tn
    obtain ⟨h1, h2⟩ := ne_of he hi p' hne
    have W := WalksT.enumerateD (prog := X.prog) (w := X.w) (A := X.A) (Draws.tuple (A := X.A.in1) (I.ok.hd hcalm) it a h1 its.toArray) e hne h2 (by simp)
    have hl := rv.length
    have hlt := (List.getElem?_eq_some_iff.mp hx).1
    refine W.item i s _ E (by rw [List.size_toArray]; omega) ⟨⟨old, he⟩, hi, p'⟩ (fun T vals h' tk hv hT hTup hmid hk => ⟨_, rfl, ?_⟩)
    obtain ⟨t, x', hx', rfl⟩ := hv
    have hTw := W.apart _ _ _ hmid
    refine W.go elts kk tpos i T { s with heap := h', toks := tk } _ E hmid (fun h2 hst hk2 => ?_)
    obtain ⟨⟨old2, he2⟩, hi2, _⟩ := hst
    obtain ⟨x2, hx2, hr⟩ := vals_get rv (by simpa using hx')
    have ex : x2 = x := Option.some.inj (hx2.symm.trans hx)
    subst ex
    obtain ⟨oT, hoT, hcT, nT, hdT⟩ := hTup
    have hn0 : ∀ b ∈ [e, it], b ≠ T := fun b hb z => by
      refine absurd hT (Nat.not_le_of_lt ?_)
      rw [← z]
      simp only [List.mem_cons, List.not_mem_nil, or_false] at hb
      rcases hb with rfl | rfl
      · exact Heap.lt_size he
      · obtain ⟨o, ho, _⟩ := hi
        exact Heap.lt_size ho
    refine ⟨.ref T, upd H T (.tup [V.int (i : Int), x2]), I.turnedNew (ch := [e, it]) (fun b o hb eo => hk2 b o hb (hk b o hb eo)) hfp hT
      (show ObjOk X.prog X.w _ _ _ (.tup [V.int (i : Int), x2]) from ⟨by rw [sizeLine_eq]; simp, [.int (i : Int) t, x'], .cons ⟨t, rfl⟩ (.cons hr .nil), oT, hk2 _ _ hTw hoT, hcT, nT, hdT⟩), rfl, ⟨T, x2, rfl, I.hok.fresh hT, rfl, fun ys hys => by rw [I.tuple_inj hys hq]; exact hx⟩, ⟨⟨old2, he2⟩, hi2, hne, by omega⟩, fun b hb => ?_⟩
    rw [upd_ne (hn0 b hb)]
    exact (hfp b hb).1
  · subst hP
    subst hw
    subst hK
    obtain ⟨xs, hq, hlen, hle⟩ := st
    obtain ⟨its, rv, p, hz⟩ := I.tuple hq
    have p' : s.heap.IsTuple a its.toArray := p
    obtain ⟨⟨old, he⟩, hi, hne, hn⟩ := tn
    obtain ⟨h1, h2⟩ := ne_of he hi p' hne
    have W := WalksT.enumerateD (prog := X.prog) (w := X.w) (A := X.A) (Draws.tuple (A := X.A.in1) (I.ok.hd hcalm) it a h1 its.toArray) e hne h2 (by simp)
    have hl := rv.length
    have ei : i = its.toArray.size := by rw [List.size_toArray]; omega
    refine W.done s _ E ⟨⟨old, by rw [← ei]; exact he⟩, by rw [← ei]; exact hi, p'⟩ (fun h' tk hk => ⟨rfl, I.turnedL (ch := [e, it]) hk hfp⟩)
  · obtain ⟨⟨old, he⟩, _⟩ := tn
    exact wpAny_pyIter_enum he q
/-- enumerate(l), l a tuple -/
def iEnumT (K : PySem.W.Frag) (ta : TA) : TI := fun σ H R => ta σ H fun vs H1 => ∃ a xs, vs = [.ref a] ∧ SqT K H1 a xs ∧ R (IteT K a xs.length) H1
theorem pi_enumT {X : Cx} {e : Expr} {ta : TA} {p pos tpos : Pos} {elts : List Expr} {kk : Nat} (hcalm : X.calm = true) (hg : Gl X "enumerate") (hm : X.mg "enumerate" = none) (ha : PA X [e] ta)
    (he : starEach [e] X.env = (false, eval e X.env) :: starEach [] X.env := by rfl) : PI X (.Tuple elts kk tpos) (.Call (.Name "enumerate" p) [e] [] pos) (iEnumT X.K ta) := by
  refine ⟨fun pins s σ H R I h => ?_⟩
  refine wpAny_Call_Name_kw (ld_blt I hg hm (by decide +kernel : bootBuiltins "enumerate" = some (.type "enumerate")) (PyProof.Rows.callWith_type1 (thn (ha.run pos pins s σ H _ I h) fun us s1 ⟨vs, H1, I1, r, a, xs, ev, hq, q⟩ => ?_) he (by rfl)))
  subst ev
  cases r with
  | cons r t =>
    cases t
    cases r
    obtain ⟨its, rv, p', hz⟩ := I1.tuple hq
    refine call_enumerate_tup (show s1.heap.IsTuple a its.toArray from p') fun h' e1 hle hne hE hT hk => ?_
    have I2 : Inv X pins σ H1 { s1 with heap := h' } := I1.kept (t' := s1.toks) hk
    refine wpAny_pyIter_enum hE ⟨e1, [e1, s1.heap.objs.size], _, _, H1, rfl, I2, turn_enumT, ⟨⟨_, hE⟩, hT, hne, Nat.zero_le _⟩, fun b hb => ?_, q⟩
    simp only [List.mem_cons, List.not_mem_nil, or_false] at hb
    rcases hb with rfl | rfl
    · exact I1.fpOk hle (I1.hok.fresh hle)
    · exact I1.fpOk (Nat.le_refl _) (I1.hok.fresh (Nat.le_refl _))
/-- a walk that counts the things of a list or a tuple that stood in H0 -/
structure EnumW (J : It) (H0 : Hp) (xs : List V) : Prop where
  go : ∀ i H, EXT.Ext H0 H → i < xs.length → J.go i H
  stop : ∀ H, EXT.Ext H0 H → J.stop xs.length H
  yld : ∀ i H v H', EXT.Ext H0 H → J.yld i H v H' → ∃ T x, v = V.ref T ∧ H T = none ∧ H' = upd H T (.tup [V.int (i : Int), x]) ∧ xs[i]? = some x
theorem enumW_list {K : PySem.W.Frag} {H0 : Hp} {a : Addr} {xs : List V} (h : SqL K H0 a xs) : EnumW (Ite K a) H0 xs :=
  ⟨fun i H s hi => ⟨xs, _, s.seq h, List.getElem?_eq_getElem hi⟩, fun H s => ⟨xs, s.seq h, Nat.le_refl _⟩, fun i H v H' s ⟨T, x, e1, e2, e3, e4⟩ => ⟨T, x, e1, e2, e3, e4 xs (s.seq h)⟩⟩
theorem enumW_tup {K : PySem.W.Frag} {H0 : Hp} {a : Addr} {xs : List V} (h : SqT K H0 a xs) : EnumW (IteT K a xs.length) H0 xs :=
  ⟨fun i H s hi => ⟨xs, _, s.tup h, List.getElem?_eq_getElem hi, rfl⟩, fun H s => ⟨xs, s.tup h, rfl, Nat.le_refl _⟩, fun i H v H' s ⟨T, x, e1, e2, e3, e4⟩ => ⟨T, x, e1, e2, e3, e4 xs (s.tup h)⟩⟩
/-- enumerate(l), l a list or a tuple -/
def iEnumS (K : PySem.W.Frag) (ta : TA) : TI := fun σ H R => ta σ H fun vs H1 => ∃ a xs H0, vs = [.ref a] ∧ EXT.Ext H0 H1 ∧ (SqL K H0 a xs ∨ SqT K H0 a xs) ∧ ∀ J, EnumW J H0 xs → R J H1
theorem pi_enumS {X : Cx} {e : Expr} {ta : TA} {p pos tpos : Pos} {elts : List Expr} {kk : Nat} (hcalm : X.calm = true) (hg : Gl X "enumerate") (hm : X.mg "enumerate" = none) (ha : PA X [e] ta)
    (he : starEach [e] X.env = (false, eval e X.env) :: starEach [] X.env := by rfl) : PI X (.Tuple elts kk tpos) (.Call (.Name "enumerate" p) [e] [] pos) (iEnumS X.K ta) := by
  refine ⟨fun pins s σ H R I h => ?_⟩
  refine wpAny_Call_Name_kw (ld_blt I hg hm (by decide +kernel : bootBuiltins "enumerate" = some (.type "enumerate")) (PyProof.Rows.callWith_type1 (thn (ha.run pos pins s σ H _ I h) fun us s1 ⟨vs, H1, I1, r, a, xs, H0, ev, hE0, hq, q⟩ => ?_) he (by rfl)))
  subst ev
  cases r with
  | cons r t =>
    cases t
    cases r
    rcases hq with hq | hq
    · obtain ⟨its, rv, p', hz⟩ := I1.list (hE0.seq hq)
      refine call_enumerate_list p'.isList fun h' hE hT hsz hk => ?_
      have I2 : Inv X pins σ H1 { s1 with heap := h' } := I1.kept (t' := s1.toks) hk
      have hle : s1.heap.objs.size ≤ s1.heap.objs.size + 1 := Nat.le_succ _
      refine wpAny_pyIter_enum hE ⟨s1.heap.objs.size + 1, [s1.heap.objs.size + 1, s1.heap.objs.size], _, _, H1, rfl, I2, turn_enum a _ _, ⟨⟨_, hE⟩, hT, Nat.succ_ne_self _⟩, fun b hb => ?_, q _ (enumW_list hq)⟩
      simp only [List.mem_cons, List.not_mem_nil, or_false] at hb
      rcases hb with rfl | rfl
      · exact I1.fpOk hle (I1.hok.fresh hle)
      · exact I1.fpOk (Nat.le_refl _) (I1.hok.fresh (Nat.le_refl _))
    · obtain ⟨its, rv, p', hz⟩ := I1.tuple (hE0.tup hq)
      refine call_enumerate_tup (show s1.heap.IsTuple a its.toArray from p') fun h' e1 hle hne hE hT hk => ?_
      have I2 : Inv X pins σ H1 { s1 with heap := h' } := I1.kept (t' := s1.toks) hk
      refine wpAny_pyIter_enum hE ⟨e1, [e1, s1.heap.objs.size], _, _, H1, rfl, I2, turn_enumT, ⟨⟨_, hE⟩, hT, hne, Nat.zero_le _⟩, fun b hb => ?_, q _ (enumW_tup hq)⟩
      simp only [List.mem_cons, List.not_mem_nil, or_false] at hb
      rcases hb with rfl | rfl
      · exact I1.fpOk hle (I1.hok.fresh hle)
      · exact I1.fpOk (Nat.le_refl _) (I1.hok.fresh (Nat.le_refl _))
section
variable {J : It} {H0 : Hp} {xs : List V}
theorem w_enum {B : V → Hp → (Hp → Prop) → Prop} {Nx : Hp → Prop} {H1 : Hp} (w : EnumW J H0 xs) (Pv : Nat → Hp → Prop) (h0 : Pv 0 H1) (hl : ∀ i H, i ≤ xs.length → Pv i H → EXT.Ext H0 H)
    (hs : ∀ i x T H, xs[i]? = some x → Pv i H → H T = none → B (.ref T) (upd H T (.tup [V.int (i : Int), x])) (Pv (i + 1))) (hd : ∀ H, Pv xs.length H → Nx H) :
    ∃ W : Nat → Nat → Hp → Prop, (∃ m, W 0 m H1) ∧ ∀ i m H, W i m H → (J.stop i H ∧ Nx H) ∨ (J.go i H ∧ ∃ N : Hp → Prop, (∀ H', N H' → ∃ m', m' < m ∧ W (i + 1) m' H') ∧ ∀ x H', J.yld i H x H' → B x H' N) := by
  refine ⟨fun i m H => m = xs.length - i ∧ i ≤ xs.length ∧ Pv i H, ⟨xs.length, rfl, Nat.zero_le _, h0⟩, ?_⟩
  rintro i m H ⟨rfl, hi, p⟩
  have s := hl i H hi p
  by_cases hlt : i < xs.length
  · refine .inr ⟨w.go i H s hlt, Pv (i + 1), fun H' p' => ⟨_, by omega, rfl, hlt, p'⟩, fun v H' y => ?_⟩
    obtain ⟨T, x, rfl, hT, rfl, hx⟩ := w.yld i H v H' s y
    exact hs i x T H hx p hT
  · have e : i = xs.length := by omega
    subst e
    exact .inl ⟨w.stop H s, hd H p⟩
theorem for_enum {g : TG} {tb : TS} {D : Ends} {σ0 : St} {H1 : Hp} (w : EnumW J H0 xs) (Pv : Nat → St → Hp → Prop) (h0 : Pv 0 σ0 H1) (hl : ∀ i σ H, i ≤ xs.length → Pv i σ H → EXT.Ext H0 H)
    (hs : ∀ i x T σ H, xs[i]? = some x → Pv i σ H → H T = none → g (.ref T) σ (upd H T (.tup [V.int (i : Int), x])) fun σ2 H2 => tb { D with nx := Pv (i + 1), ct := Pv (i + 1), bk := D.nx } σ2 H2) (hd : ∀ σ H, Pv xs.length σ H → D.nx σ H) :
    ∃ W : Nat → Nat → St → Hp → Prop, (∃ m, W 0 m σ0 H1) ∧ ∀ i m σ H, W i m σ H →
      (J.stop i H ∧ D.nx σ H) ∨ (J.go i H ∧ ∃ N : St → Hp → Prop, (∀ σ' H', N σ' H' → ∃ m', m' < m ∧ W (i + 1) m' σ' H') ∧ ∀ x H', J.yld i H x H' → g x σ H' fun σ2 H2 => tb { D with nx := N, ct := N, bk := D.nx } σ2 H2) := by
  refine ⟨fun i m σ H => m = xs.length - i ∧ i ≤ xs.length ∧ Pv i σ H, ⟨xs.length, rfl, Nat.zero_le _, h0⟩, ?_⟩
  rintro i m σ H ⟨rfl, hi, p⟩
  have s := hl i σ H hi p
  by_cases hlt : i < xs.length
  · refine .inr ⟨w.go i H s hlt, Pv (i + 1), fun σ' H' p' => ⟨_, by omega, rfl, hlt, p'⟩, fun v H' y => ?_⟩
    obtain ⟨T, x, rfl, hT, rfl, hx⟩ := w.yld i H v H' s y
    exact hs i x T σ H hx p hT
  · have e : i = xs.length := by omega
    subst e
    exact .inl ⟨w.stop H s, hd σ H p⟩
end
/-- a walk over a list or a tuple that stood in H0 -/
structure SeqW (J : It) (H0 : Hp) (xs : List V) : Prop where
  go : ∀ i H, EXT.Ext H0 H → i < xs.length → J.go i H
  stop : ∀ H, EXT.Ext H0 H → J.stop xs.length H
  yld : ∀ i H v H', EXT.Ext H0 H → J.yld i H v H' → H' = H ∧ xs[i]? = some v
theorem seqW_list {K : PySem.W.Frag} {H : Hp} {a : Addr} {xs : List V} (h : SqL K H a xs) : SeqW (Itl K a) H xs := ⟨fun i H s hi => ⟨xs, _, s.seq h, List.getElem?_eq_getElem hi⟩, fun H s => ⟨xs, s.seq h, Nat.le_refl _⟩, fun i H v H' s y => ⟨y.1, y.2 xs (s.seq h)⟩⟩
theorem seqW_tup {K : PySem.W.Frag} {H : Hp} {a : Addr} {xs : List V} (h : SqT K H a xs) : SeqW (Itt K a) H xs := ⟨fun i H s hi => ⟨xs, _, s.tup h, List.getElem?_eq_getElem hi⟩, fun H s => ⟨xs, s.tup h, Nat.le_refl _⟩, fun i H v H' s y => ⟨y.1, y.2 xs (s.tup h)⟩⟩
/-- a list or a tuple, walked alike -/
def iSeqW (K : PySem.W.Frag) (tl : TE) : TI := fun σ H R => tl σ H fun x H1 => ∃ a xs H0, x = .ref a ∧ EXT.Ext H0 H1 ∧ (SqL K H0 a xs ∨ SqT K H0 a xs) ∧ ∀ J, SeqW J H0 xs → R J H1
theorem pi_seqW {X : Cx} {tg l : Expr} {tl : TE} (hl : PE X l tl) : PI X tg l (iSeqW X.K tl) := by
  refine ⟨fun pins s σ H R I h => ?_⟩
  refine thn (hl.run pins s σ H _ I h) fun v s1 ⟨x, H1, I1, r1, a, xs, H0, e, hE0, hq, q⟩ => ?_
  subst e
  cases r1
  rcases hq with hq | hq
  · obtain ⟨its, rv, p, hz⟩ := I1.list (hE0.seq hq)
    refine wpAny_pyIter_list p.isList ⟨s1.heap.objs.size, [s1.heap.objs.size], _, _, H1, rfl, I1.kept (t' := s1.toks) fun b o e => Heap.get?_push_of_some _ e, turn_list a _, ⟨_, Heap.get?_push_size _ rfl, rfl, rfl⟩, fun b hb => ?_, q _ (seqW_list hq)⟩
    obtain rfl : b = s1.heap.objs.size := by simpa using hb
    exact I1.fpOk (Nat.le_refl _) (I1.hok.fresh (Nat.le_refl _))
  · obtain ⟨its, rv, p, hz⟩ := I1.tuple (hE0.tup hq)
    refine wpAny_pyIter_tuple (show s1.heap.IsTuple a its.toArray from p) ⟨s1.heap.objs.size, [s1.heap.objs.size], _, _, H1, rfl, I1.kept (t' := s1.toks) fun b o e => Heap.get?_push_of_some _ e, turn_tuple a _, ⟨_, Heap.get?_push_size _ rfl, rfl, rfl⟩, fun b hb => ?_, q _ (seqW_tup hq)⟩
    obtain rfl : b = s1.heap.objs.size := by simpa using hb
    exact I1.fpOk (Nat.le_refl _) (I1.hok.fresh (Nat.le_refl _))
theorem w_seq {J : It} {H0 : Hp} {xs : List V} {B : V → Hp → (Hp → Prop) → Prop} {Nx : Hp → Prop} {H1 : Hp} (w : SeqW J H0 xs) (Pv : Nat → Hp → Prop) (h0 : Pv 0 H1) (hl : ∀ i H, i ≤ xs.length → Pv i H → EXT.Ext H0 H)
    (hs : ∀ i x H, xs[i]? = some x → Pv i H → B x H (Pv (i + 1))) (hd : ∀ H, Pv xs.length H → Nx H) :
    ∃ W : Nat → Nat → Hp → Prop, (∃ m, W 0 m H1) ∧ ∀ i m H, W i m H → (J.stop i H ∧ Nx H) ∨ (J.go i H ∧ ∃ N : Hp → Prop, (∀ H', N H' → ∃ m', m' < m ∧ W (i + 1) m' H') ∧ ∀ x H', J.yld i H x H' → B x H' N) := by
  refine ⟨fun i m H => m = xs.length - i ∧ i ≤ xs.length ∧ Pv i H, ⟨xs.length, rfl, Nat.zero_le _, h0⟩, ?_⟩
  rintro i m H ⟨rfl, hi, p⟩
  have s := hl i H hi p
  by_cases hlt : i < xs.length
  · refine .inr ⟨w.go i H s hlt, Pv (i + 1), fun H' p' => ⟨_, by omega, rfl, hlt, p'⟩, fun v H' y => ?_⟩
    obtain ⟨rfl, hx⟩ := w.yld i H v H' s y
    exact hs i v _ hx p
  · have e : i = xs.length := by omega
    subst e
    exact .inl ⟨w.stop H s, hd H p⟩
end L2
/-! ### o[i] of a list, by values; sorted of a tuple of ints -/
namespace AUG
open PySem PySem.Spec PyProof.Rows L2
section
variable {X : Cx}
def rGetL (K : PySem.W.Frag) : V → V → Hp → VK → Prop := fun x y H Q => ∃ p xs i v, x = .ref p ∧ y = .int i ∧ 0 ≤ i ∧ SqL K H p xs ∧ xs[i.toNat]? = some v ∧ Q v H
theorem get_list : PGet X (rGetL X.K) := by
  intro pins s σ H x y v u Q I rx ry h
  obtain ⟨p, xs, i, z, rfl, rfl, h0, hq, he, q⟩ := h
  cases rx
  obtain ⟨t, rfl⟩ := ry
  obtain ⟨its, r, pl, hz⟩ := I.list hq
  obtain ⟨w, ew, rw'⟩ := r.get he
  have hl := r.length
  have hn := line63
  have hlt := (List.getElem?_eq_some_iff.mp he).1
  exact wpAny_getItem_list pl.isList h0 (by omega) (by simpa using ew) ⟨z, H, I, rw', q⟩
theorem sorted_tup {prog : Program} {w : World} {A : Around} {E : Value → Shared → Prop} {s : Shared} {t : Addr} {vs : List Value} {ns : List Int} {Q : Value → Shared → Prop} (ht : IsTup s.heap t vs.toArray) (hI : IntsAre vs ns) (h64 : vs.length < 64)
    (h : ∀ (h1 h' : Heap) (e : Nat) (out : Array Value) (ns' : List Int), (∀ b o, s.heap.get? b = some o → h1.get? b = some o) → (∀ b o, h1.get? b = some o → h'.get? b = some o) → h'.get? h1.objs.size = some (seqObj "list" out e) → IntsAre out.toList ns' → ns'.Perm ns → ns'.Pairwise (· ≤ ·) → Q (.ref h1.objs.size) { s with heap := h' }) :
    wpAny (model prog w) A (call (.builtin "sorted") [.ref t]) Q E s := by
  obtain ⟨o, ho, hc, n, hd⟩ := ht
  have hz : vs.length ≤ sizeLine := by rw [sizeLine_eq]; omega
  refine Calls.call_function_entry kind_sorted plain_sorted entry_sorted (args_sorted1 _) ?_
  unfold Builtin.«sorted»
  refine wpAny_bind (m := checkCount "sorted" 1 1 _) (wpAny_pure ?_)
  refine wpAny_bind (wpAny_collect_seq (T := "tuple") t (.inr rfl) ho hc hd (fun h1 k1 => ?_) (by simpa using hz))
  show wpAny _ _ _ _ _ _
  have e0 : vs.toArray.toList = vs := rfl
  rw [e0]
  refine wpAny_bind (wpAny_newList (s := { s with heap := h1 }) ?_ hz)
  have hoL : (h1.push (seqObj "list" vs.toArray 0)).get? h1.objs.size = some (seqObj "list" vs.toArray 0) := Heap.get?_push_size _ rfl
  show wpAny _ _ _ _ _ { s with heap := h1.push (seqObj "list" vs.toArray 0) }
  refine wpAny_bind (wpAny_holding (wpAny_call_entry slot_list_sort ⟨_, hoL, rfl⟩ entry_list_sort (list_sort_tree (s := { s with heap := h1.push (seqObj "list" vs.toArray 0) }) hoL hI h64 fun out ns' a1 a2 a3 => ⟨_, rfl, ?_⟩) (args_list_sort _)))
  obtain ⟨e, he⟩ := sortedHeap_at (out := out) hoL
  refine wpAny_pure ⟨_, rfl, h h1 _ e out ns' k1 (fun b o hb1 => ?_) he a1 a2 a3⟩
  have hlt := Heap.lt_size hb1
  rw [sortedHeap_old (Nat.ne_of_lt hlt) (by rw [size_push']; exact Nat.lt_succ_of_lt hlt)]
  exact Heap.get?_push_of_some _ hb1
/-- sorted(t), ints -/
def rSortedTu (K : PySem.W.Frag) : List V → Hp → VK → Prop := fun vs H Q => ∃ (a : Addr) (ns : List Int), vs = [V.ref a] ∧ SqT K H a (ns.map V.int) ∧ ns.length < 64 ∧
  ∀ (ns' : List Int) (p : Addr), ns'.Perm ns → ns'.Pairwise (· ≤ ·) → H p = none → Q (.ref p) (upd H p (.lst (ns'.map V.int)))
theorem cr_sortedTu : CallR X (.builtin "sorted") (rSortedTu X.K) := by
  intro pins s σ H vs us Q I r h
  obtain ⟨a, ns, rfl, hs, h64, q⟩ := h
  obtain ⟨its, rv, ht, _⟩ := I.tuple hs
  rw [Vals.ref1 r]
  have hi := rv.ints
  refine sorted_tup ht hi (by rw [hi.length]; exact h64) fun g h' e out ns' k1 kp he h1 h2 h3 => ?_
  have hlen : (ns'.map V.int).length ≤ sizeLine := by rw [List.length_map, h2.length_eq]; exact small64 h64
  have I1 : Inv X pins σ H { s with heap := g } := I.kept (t' := s.toks) k1
  exact ⟨.ref _, upd H g.objs.size (.lst (ns'.map V.int)), I1.laid (t' := s.toks) kp (Nat.le_refl _) ⟨hlen, out.toList, e, vals_of_ints h1, he⟩, rfl, q ns' _ h2 h3 (I1.hok.fresh (Nat.le_refl _))⟩
/-- an int's truth -/
theorem tru_int : TruR X (fun x H Q => ∃ i : Int, x = .int i ∧ Q (i != 0) H) := by
  intro pins s σ H x v Q I rx h
  obtain ⟨i, rfl, q⟩ := h
  exact tru_ok pins s σ H (.int i) v Q I rx ⟨_, rfl, q⟩
def tTruI (ta : TE) : TT := fun σ H Q => ta σ H fun x H' => ∃ i : Int, x = .int i ∧ Q (i != 0) H'
theorem pt_truthI {a : Expr} {ta : TE} (ha : PE X a ta) (he : ∀ whole, isTrue a X.env whole = (do let v ← whole; standAt a.pos; holding [v] (truthy v))) : PT X a (tTruI ta) :=
  ⟨fun pins s σ H Q I h => isTrue_plain (thn (ha.run pins s σ H _ I h) fun v s1 ⟨x, H1, I1, r1, q1⟩ => tru_int pins s1 σ H1 x v Q I1 r1 q1) (he _)⟩
end
end AUG
/-! ### a tuple times a number from 0 on; enumerate in a generator expression -/
namespace L2
open PySem PySem.Spec PyProof.Rows
theorem tuple_mul1 (l : Addr) (items : Array Value) (n : Nat) (dd : Option Addr) (sl : Array (Option Value)) (u : Tok) :
    Meets (Builtin.«tuple.__mul__» ⟨[.ref l, .int 1 u], []⟩) (fun _ R s => s.heap.get? l = some { cls := .type "tuple", dict := dd, data := .seq items n, slots := sl } ∧ R (.ok (.ret (Value.ref l))) s) :=
  .of_wp fun prog w A R s h => by
    obtain ⟨hp, g, d, tk, os⟩ := s
    obtain ⟨hl, h⟩ := h
    have f1 := AutoSeq1.idx_int
    wp_walk using wpAny_loadPart' hl
    exact ⟨_, rfl, h⟩
theorem tuple_mul0 (l : Addr) (items : Array Value) (n : Nat) (dd : Option Addr) (sl : Array (Option Value)) (u : Tok) (hne : items.isEmpty = false) :
    Meets (Builtin.«tuple.__mul__» ⟨[.ref l, .int 0 u], []⟩) (fun _ R s => s.heap.get? l = some { cls := .type "tuple", dict := dd, data := .seq items n, slots := sl } ∧
      R (.ok (.ret (Value.ref s.heap.objs.size))) { s with heap := s.heap.push { cls := Value.type "tuple", data := Data.seq #[] }, toks := s.toks }) :=
  .of_wp fun prog w A R s h => by
    obtain ⟨hp, g, d, tk, os⟩ := s
    obtain ⟨hl, h⟩ := h
    have f1 := AutoSeq1.idx_int
    wp_walk using wpAny_loadPart' hl
    exact ⟨_, rfl, h⟩
/-- t * k, t a tuple that is not (): t itself for 1 -/
def rRepA (K : PySem.W.Frag) : R2 := fun x y H Q => ∃ l k xs, x = .ref l ∧ y = .int k ∧ SqT K H l xs ∧ xs ≠ [] ∧ 0 ≤ k ∧ k ≤ 1000 ∧ xs.length ≤ 1000 ∧ (k = 1 → Q (.ref l) H) ∧ (k ≠ 1 → ∀ p, H p = none → Q (.ref p) (upd H p (.tup (List.replicate k.toNat xs).flatten)))
theorem op_repA {X : Cx} : OpR X (binaryOp .Mult) (rRepA X.K) := by
  intro pins s σ H x y v u Q I rx ry h
  obtain ⟨l, k, xs, rfl, rfl, hT, hne, h0, h2, hz, q1, q2⟩ := h
  by_cases k2 : 2 ≤ k
  · exact op_repT pins s σ H _ _ v u Q I rx ry ⟨l, k, xs, rfl, rfl, hT, hne, k2, h2, hz, q2 (by omega)⟩
  cases rx
  obtain ⟨t, rfl⟩ := ry
  obtain ⟨its, r, ⟨⟨cls, dd, data, sl⟩, ho, hc, n, hd⟩, hs⟩ := I.tuple hT
  simp only at hc hd
  subst hc hd
  have hle : its.length = xs.length := r.length.symm
  have hn : its ≠ [] := fun e => hne (by
    rw [e] at hle
    exact List.eq_nil_of_length_eq_zero hle.symm)
  have hi : its.toArray.isEmpty = false := by
    cases its with
    | nil => exact absurd rfl hn
    | cons a b => rfl
  by_cases k1 : k = 1
  · subst k1
    exact wpAny_binaryOp_repeat_ref (T := "tuple") (U := "int") (by decide) ⟨_, ho, rfl⟩ (fun s' => typeIs_int s' 1 t) noFill_tuple_mul F.fills_int_mul F.slot_int_rmul repeat_tuple F.slot_int_index.lookup
      (call_meets F.slot_int_rmul (typeIs_int s 1 t) F.entry_int_rmul (F.args_int_rmul_2 _ _) (int_rmul_tuple 1 t l its.toArray n dd sl)
        ⟨ho, rfl, ⟨_, ho, rfl⟩, call_meets F.slot_tuple_mul ⟨_, ho, rfl⟩ F.entry_tuple_mul (F.args_tuple_mul_2 _ _) (tuple_mul1 l its.toArray n dd sl t) ⟨ho, ⟨.ref l, H, I, rfl, q1 rfl⟩⟩⟩)
  · obtain rfl : k = 0 := by omega
    refine wpAny_binaryOp_repeat_ref (T := "tuple") (U := "int") (by decide) ⟨_, ho, rfl⟩ (fun s' => typeIs_int s' 0 t) noFill_tuple_mul F.fills_int_mul F.slot_int_rmul repeat_tuple F.slot_int_index.lookup
      (call_meets F.slot_int_rmul (typeIs_int s 0 t) F.entry_int_rmul (F.args_int_rmul_2 _ _) (int_rmul_tuple 0 t l its.toArray n dd sl)
        ⟨ho, rfl, ⟨_, ho, rfl⟩, call_meets F.slot_tuple_mul ⟨_, ho, rfl⟩ F.entry_tuple_mul (F.args_tuple_mul_2 _ _) (tuple_mul0 l its.toArray n dd sl t hi) ⟨ho, ?_⟩⟩)
    refine ⟨.ref s.heap.objs.size, _, I.laid (t' := s.toks) (o := .tup []) (fun b ob q => Heap.get?_push_of_some _ q) (Nat.le_refl _) ?_, rfl, q2 (by decide) _ (I.hok.fresh (Nat.le_refl _))⟩
    exact ⟨Nat.zero_le _, [], .nil, IsTup.new _ _⟩
end L2
namespace GXP
open PySem PySem.Spec PyProof.Rows L2
section
variable {J : It} {H0 : Hp} {xs : List V} {g : TG} {tt : TT} {te : TE} {vs : List Nat} {σ : L2.St} {cy : Cy} {Qe : List V → Hp → Prop} {H1 : Hp}
theorem gx_enum (w : EnumW J H0 xs) (Pv : Nat → List V → Hp → Prop) (h0 : Pv 0 [] H1) (hl : ∀ i ys H, i ≤ xs.length → Pv i ys H → EXT.Ext H0 H)
    (hs : ∀ i x T ys H, xs[i]? = some x → Pv i ys H → H T = none → g (.ref T) (wipe σ vs) (upd H T (.tup [V.int (i : Int), x])) fun σ2 H2 => wipe σ2 vs = wipe σ vs ∧ tt σ2 H2 fun b H3 => if b = true then te σ2 H3 fun y H4 => cy ys y H4 (Pv (i + 1)) else Pv (i + 1) ys H3)
    (hd : ∀ ys H, Pv xs.length ys H → Qe ys H) : ∃ W m, W 0 m [] H1 ∧ Turns J g tt te vs σ cy Qe W := by
  refine ⟨fun i m ys H => m = xs.length - i ∧ i ≤ xs.length ∧ Pv i ys H, xs.length, ⟨rfl, Nat.zero_le _, h0⟩, ?_⟩
  rintro i m ys H ⟨rfl, hi, p⟩
  have s := hl i ys H hi p
  by_cases hlt : i < xs.length
  · refine .inr ⟨w.go i H s hlt, by omega, Pv (i + 1), fun ys' H' p' => ⟨_, by omega, rfl, hlt, p'⟩, fun v H' y => ?_⟩
    obtain ⟨T, x, rfl, hT, rfl, hx⟩ := w.yld i H v H' s y
    exact hs i x T ys H hx p hT
  · have e : i = xs.length := by omega
    subst e
    exact .inl ⟨w.stop H s, hd ys H p⟩
end
end GXP
/-! ### a locked dict walked by its keys -/
namespace L2
open PySem PySem.Spec PyProof.Rows
section
variable {d : Addr} {o : Obj} {H0 : Hp}
theorem for_keysK {kvs : List (Key × V)} {g : TG} {tb : TS} {D : Ends} {σ0 : St} (Pv : Nat → St → Hp → Prop) (h0 : Pv 0 σ0 H0) (hl : ∀ i σ H, i ≤ kvs.length → Pv i σ H → H d = some (.frz o (.dK kvs)))
    (hs : ∀ i k v σ H, kvs[i]? = some (k, v) → Pv i σ H → g (kV k) σ H fun σ2 H2 => tb { D with nx := Pv (i + 1), ct := Pv (i + 1), bk := D.nx } σ2 H2) (hd : ∀ σ H, Pv kvs.length σ H → D.nx σ H) :
    ∃ W : Nat → Nat → St → Hp → Prop, (∃ m, W 0 m σ0 H0) ∧ ∀ i m σ H, W i m σ H →
      ((Itk d o kvs).stop i H ∧ D.nx σ H) ∨ ((Itk d o kvs).go i H ∧ ∃ N : St → Hp → Prop, (∀ σ' H', N σ' H' → ∃ m', m' < m ∧ W (i + 1) m' σ' H') ∧ ∀ x H', (Itk d o kvs).yld i H x H' → g x σ H' fun σ2 H2 => tb { D with nx := N, ct := N, bk := D.nx } σ2 H2) := by
  refine ⟨fun i m σ H => m = kvs.length - i ∧ i ≤ kvs.length ∧ Pv i σ H, ⟨_, rfl, Nat.zero_le _, h0⟩, ?_⟩
  rintro i m σ H ⟨rfl, hi, p⟩
  have q := hl i σ H hi p
  by_cases hlt : i < kvs.length
  · refine .inr ⟨⟨q, hlt⟩, Pv (i + 1), fun σ' H' p' => ⟨_, by omega, rfl, hlt, p'⟩, fun x H' y => ?_⟩
    obtain ⟨rfl, k, v, e, rfl⟩ := y
    exact hs i k v σ _ e p
  · have e : i = kvs.length := by omega
    subst e
    exact .inl ⟨⟨q, Nat.le_refl _⟩, hd σ H p⟩
theorem for_keysT {kvs : List (List Key × V)} {g : TG} {tb : TS} {D : Ends} {σ0 : St} (Pv : Nat → St → Hp → Prop) (h0 : Pv 0 σ0 H0) (hl : ∀ i σ H, i ≤ kvs.length → Pv i σ H → H d = some (.frz o (.dT kvs)))
    (hs : ∀ i k v q σ H, kvs[i]? = some (k, v) → H q = some (.tup (k.map kV)) → Pv i σ H → g (.ref q) σ H fun σ2 H2 => tb { D with nx := Pv (i + 1), ct := Pv (i + 1), bk := D.nx } σ2 H2) (hd : ∀ σ H, Pv kvs.length σ H → D.nx σ H) :
    ∃ W : Nat → Nat → St → Hp → Prop, (∃ m, W 0 m σ0 H0) ∧ ∀ i m σ H, W i m σ H →
      ((Itkt d o kvs).stop i H ∧ D.nx σ H) ∨ ((Itkt d o kvs).go i H ∧ ∃ N : St → Hp → Prop, (∀ σ' H', N σ' H' → ∃ m', m' < m ∧ W (i + 1) m' σ' H') ∧ ∀ x H', (Itkt d o kvs).yld i H x H' → g x σ H' fun σ2 H2 => tb { D with nx := N, ct := N, bk := D.nx } σ2 H2) := by
  refine ⟨fun i m σ H => m = kvs.length - i ∧ i ≤ kvs.length ∧ Pv i σ H, ⟨_, rfl, Nat.zero_le _, h0⟩, ?_⟩
  rintro i m σ H ⟨rfl, hi, p⟩
  have q := hl i σ H hi p
  by_cases hlt : i < kvs.length
  · refine .inr ⟨⟨q, hlt⟩, Pv (i + 1), fun σ' H' p' => ⟨_, by omega, rfl, hlt, p'⟩, fun x H' y => ?_⟩
    obtain ⟨rfl, k, v, q2, e, rfl, ht⟩ := y
    exact hs i k v q2 σ _ e ht p
  · have e : i = kvs.length := by omega
    subst e
    exact .inl ⟨⟨q, Nat.le_refl _⟩, hd σ H p⟩
theorem w_keysK {kvs : List (Key × V)} {B : V → Hp → (Hp → Prop) → Prop} {Nx : Hp → Prop} (Pv : Nat → Hp → Prop) (h0 : Pv 0 H0) (hl : ∀ i H, i ≤ kvs.length → Pv i H → H d = some (.frz o (.dK kvs)))
    (hs : ∀ i k v H, kvs[i]? = some (k, v) → Pv i H → B (kV k) H (Pv (i + 1))) (hd : ∀ H, Pv kvs.length H → Nx H) :
    ∃ W : Nat → Nat → Hp → Prop, (∃ m, W 0 m H0) ∧ ∀ i m H, W i m H → ((Itk d o kvs).stop i H ∧ Nx H) ∨ ((Itk d o kvs).go i H ∧ ∃ N : Hp → Prop, (∀ H', N H' → ∃ m', m' < m ∧ W (i + 1) m' H') ∧ ∀ x H', (Itk d o kvs).yld i H x H' → B x H' N) := by
  refine ⟨fun i m H => m = kvs.length - i ∧ i ≤ kvs.length ∧ Pv i H, ⟨_, rfl, Nat.zero_le _, h0⟩, ?_⟩
  rintro i m H ⟨rfl, hi, p⟩
  have q := hl i H hi p
  by_cases hlt : i < kvs.length
  · refine .inr ⟨⟨q, hlt⟩, Pv (i + 1), fun H' p' => ⟨_, by omega, rfl, hlt, p'⟩, fun x H' y => ?_⟩
    obtain ⟨rfl, k, v, e, rfl⟩ := y
    exact hs i k v _ e p
  · have e : i = kvs.length := by omega
    subst e
    exact .inl ⟨⟨q, Nat.le_refl _⟩, hd H p⟩
end
end L2
/-! ### a dict display with one tuple for its key -/
namespace L2
open PySem PySem.Spec PyProof.Rows
/-- {k: v}, k a tuple of ints and texts; the new dict stands empty while both are made -/
def tDispT (tk tv : TE) : TE := fun σ H Q => ∀ p, H p = none → tk σ (upd H p (.dT [])) fun x H1 => tv σ H1 fun y H2 => H2 p = some (.dT []) ∧ ∃ (b : Addr) (ks : List Key), x = .ref b ∧ H2 b = some (.tup (ks.map kV)) ∧ Q (.ref p) (upd H2 p (.dT [(ks, y)]))
theorem pe_dispT {X : Cx} {pos : Pos} {k v : Expr} {tk tv : TE} (hu : X.A.units + 1 < cLine) (hk : PE X k tk) (hv : PE X v tv) : PE X (.Dict [some k] [v] pos) (tDispT tk tv) := by
  refine ⟨fun pins s σ H Q I q => ?_⟩
  have hn := I.hok.fresh (Nat.le_refl s.heap.objs.size)
  have I1 := I.laid (a := s.heap.objs.size) (o := .dT []) (h' := s.heap.push { cls := .type "dict", data := .dict #[] }) (t' := s.toks) (fun _ _ q => Heap.get?_push_of_some _ q) (Nat.le_refl _) (dt_empty s.heap I.big)
  rw [arm_eval_Dict, zip_pairTrees [some k] [v] X.env pos rfl rfl, dictDisplay_pairs _ (by simp [pairTrees]) (by simp [pairTrees])]
  refine wpAny_bind (wpAny_standAt (wpAny_bind (wpAny_subDictH (knd := tupleKind (mixKind X.prog X.w)) (Q := fun d s' => wpAny (model X.prog X.w) X.A (pure (Value.ref d)) (EP X pins σ Q) X.xe s') (show X.A.units < cLine from Nat.lt_of_succ_lt hu) (by simp [pairTrees]) ?_)))
  refine pairTrees_cons_walk (thn (hk.run pins _ σ _ _ I1 (q _ hn)) fun u s1 ⟨x, H1, J1, rx, q1⟩ => thn (hv.run pins s1 σ H1 _ J1 q1) fun w2 s2 ⟨y, H2, I2, ry, e, b, ks, ex, eb, q2⟩ => pairTrees_nil_walk ?_)
  subst ex
  cases rx
  obtain ⟨z, hd, xs0, r0, dd⟩ := dt_of I2.hok e
  cases r0
  refine ⟨[(ks, b, w2)], ⟨rfl, rfl, key_of I2.hok eb, trivial⟩, dd, fun h' tk dd' hs => wpAny_pure ⟨.ref s.heap.objs.size, _, ?_, rfl, q2⟩⟩
  have dd' : h'.DictOfH (tupleKind (mixKind X.prog X.w)) s.heap.objs.size (storedH [] ks b w2) := dd'
  obtain ⟨q3, es, ep, hq, h2, h3, h4, _, h5⟩ := dd'
  have rel : KT H2 (putK [] ks y) (storedH [] ks b w2) := KT.put (.nil) ks eb ry
  refine d_write I2 (by rw [e]; exact True.intro) hs ⟨q3, hq⟩ ⟨by rw [sizeLine_eq]; simp, hd, _, rel.keeps fun c ys ec => ?_, q3, es, ep, hq, h2, h3, h4, h5⟩
  rw [upd_ne (ne_of ec e (fun z => nomatch z))]
  exact ec
end L2
/-! ### defs that raise with no context, and a def called within an except suite -/
namespace HTN
open PySem PySem.Spec PyProof.Rows L2 EXT
theorem takes0N {X : Cx} : L2N.Takes X (fun _ _ _ _ => False) := fun _ _ x => by
  obtain ⟨_, _, _, _, _, _, _, _, _, _, _, _, _, _, _, _, z⟩ := x
  exact z.elim
theorem passes_noN {X : Cx} : Passes (L2N.CX X.prog X.w) X (fun _ _ _ => False) := fun pins σ H s e s' I h => by
  obtain ⟨a, B, H', cls, d, _, _, _, _, _, _, _, h⟩ := h
  exact h.elim
section
variable {P : Program} {w : World} {K : PySem.W.Frag} {mg : Str → Option Value} {base : Heap}
theorem _root_.L2.Fun.okN {x qual : Str} {st : Stmt} {f : Addr} {fd : FuncData} {N ps : List Str} {k : Nat} {sp : Sp} (F : Fun K x qual st f fd) (S : FnScope N ps (defScope st)) (len : ∀ vs H Q E, sp vs H Q E → vs.length = ps.length)
    (hbody : ∀ (cdv : Value) (A : Around) (outer : List Env) (s : Shared) (H : Hp) (vs : List V) (Q : VK) (E : XK), Room k (A.deeper (envOfC qual (defScope st) s.heap.objs.size f cdv)) → sp vs H Q E →
      ∃ t, PSs (cxOf (L2N.CX P w) P w K mg base N qual (defScope st) f cdv A outer s H E) (defBody st) t ∧ t { nx := fun _ H' => Q .non H', rt := Q } (L2.start N vs) H) : FnOk P w K mg base (L2N.CX P w) (k + 1) f fd ps sp := by
  obtain ⟨oc, od, kV, doc, pm, an, cdv, ct, osl, e, lk, hcd⟩ := F.ex
  subst e
  exact fn_of lk hcd S len fun A outer s H vs Q E hr hsp => hbody cdv A outer s H vs Q E hr hsp
/-- a def of this kind where an exception is being handled -/
theorem _root_.L2.Fun.okH {x qual : Str} {st : Stmt} {f : Addr} {fd : FuncData} {N ps : List Str} {k : Nat} {sp : Sp} (F : Fun K x qual st f fd) (S : FnScope N ps (defScope st)) (len : ∀ vs H Q E, sp vs H Q E → vs.length = ps.length)
    (hbody : ∀ (cdv : Value) (A : Around) (outer : List Env) (s : Shared) (H : Hp) (vs : List V) (Q : VK) (E : XK) (p : Addr × Obj), sp vs H Q E →
      ∃ t, PSs (L2H.cxH (L2N.CX P w) P w K mg base N qual (defScope st) f cdv A outer s H E p) (defBody st) t ∧ t { nx := fun _ H' => Q .non H', rt := Q } (L2.start N vs) H) : L2H.FnH P w K mg base (L2N.CX P w) (k + 1) f fd ps sp := by
  obtain ⟨oc, od, kV, doc, pm, an, cdv, ct, osl, e, lk, hcd⟩ := F.ex
  subst e
  exact L2H.fn_ofH lk hcd S len fun A outer s H vs Q E p _ _ hsp => hbody cdv A outer s H vs Q E p hsp
end
theorem passesAt0 {X : Cx} {σ : L2.St} : PassesAt (L2N.CX X.prog X.w) X σ (fun _ _ _ => False) := fun pins H s e s' I h => by
  obtain ⟨a, B, H', cls, d, _, _, _, _, _, _, _, h⟩ := h
  exact h.elim
theorem roomS {k : Nat} {X : Cx} {a : Addr} {pn : List (Addr × Obj)} (h : Room k X.A) : L2H.RoomH k (X.suite a pn).A := ⟨h.dp, h.un⟩
theorem hotS {X : Cx} {a : Addr} {oe : Obj} {pn : List (Addr × Obj)} {cls : Value} {d : Option Addr} (hz : L2N.Zn cls d oe) (hf : ∃ vs, oe.data = .fields vs) : L2H.HotC (X.suite a ((a, oe) :: pn)) := by
  obtain ⟨vs, e⟩ := hf
  exact ⟨(a, oe), ⟨rfl, vs, e, hz.2.2 vs e⟩, List.mem_cons_self⟩
end HTN
/-! ### zip(t, l) of a tuple and a list of one length -/
namespace ZPM
open PySem PySem.Spec PyProof.Rows L2 EXT
def ItzM (K : PySem.W.Frag) (a b : Addr) (n : Nat) : It :=
  ⟨fun i H => ∃ xs ys, SqT K H a xs ∧ SqL K H b ys ∧ xs.length = n ∧ ys.length = n ∧ i < n,
   fun i H v H' => ∃ (T : Addr) (x y : V), v = .ref T ∧ H T = none ∧ H' = upd H T (.tup [x, y]) ∧ (∀ xs, SqT K H a xs → xs[i]? = some x) ∧ ∀ ys, SqL K H b ys → ys[i]? = some y,
   fun i H => ∃ xs ys, SqT K H a xs ∧ SqL K H b ys ∧ xs.length = n ∧ ys.length = n ∧ n ≤ i⟩
theorem sep {N a b : Nat} (la : a < N) (lb : b < N) : ZipSep2 (N + 4) (N + 2) (N + 3) N (N + 1) [N, a] [N + 1, b] := by
  have m2 : ∀ {c x y : Nat}, c ≠ x → c ≠ y → c ∉ [x, y] := fun h1 h2 m => by
    simp only [List.mem_cons, List.not_mem_nil, or_false] at m
    exact m.elim h1 h2
  exact ⟨show N + 2 ≠ N + 4 by omega, show N + 3 ≠ N + 4 by omega, show N + 2 ≠ N + 3 by omega, show N + 2 ≠ N by omega, List.mem_cons_self, m2 (show N + 4 ≠ N by omega) (show N + 4 ≠ a by omega), m2 (show N + 3 ≠ N by omega) (show N + 3 ≠ a by omega), show N + 2 ≠ N + 1 by omega, List.mem_cons_self, m2 (show N + 4 ≠ N + 1 by omega) (show N + 4 ≠ b by omega), m2 (show N + 3 ≠ N + 1 by omega) (show N + 3 ≠ b by omega), m2 (show N ≠ N + 1 by omega) (show N ≠ b by omega), m2 (show N + 1 ≠ N by omega) (show N + 1 ≠ a by omega)⟩
theorem mem5 {N c : Nat} (m : c ∈ [N + 4, N + 3, N, N + 1]) : c ∈ [N + 4, N + 2, N + 3, N, N + 1] := by
  simp only [List.mem_cons, List.not_mem_nil, or_false] at m ⊢
  omega
theorem lt5 {N c M : Nat} (h : N + 4 < M) (m : c ∈ [N + 4, N + 2, N + 3, N, N + 1]) : c < M := by
  simp only [List.mem_cons, List.not_mem_nil, or_false] at m
  omega
theorem ge5 {N c : Nat} (m : c ∈ [N + 4, N + 2, N + 3, N, N + 1]) : N ≤ c := by
  simp only [List.mem_cons, List.not_mem_nil, or_false] at m
  omega
theorem turn_zipM {P : Program} {w : World} {K : PySem.W.Frag} {elts : List Expr} {kk : Nat} {tpos : Pos} {a b N : Nat} {n : Nat} (la : a < N) (lb : b < N) :
    Turn P w K (.Tuple elts kk tpos) (ItzM K a b n) [N + 4, N + 2, N + 3, N, N + 1] (N + 4) fun i h => IsZip h (N + 4) (N + 2) (N + 3) .none ∧ IsTupOf2 h (N + 2) (.ref N) (.ref (N + 1)) ∧ (∃ a1 a2, IsTupOf2 h (N + 3) a1 a2) ∧ h.IsTupleIter N a i ∧ h.IsListIter (N + 1) b i ∧ i ≤ n := by
  refine ⟨List.mem_cons_self, fun i h tn c hc => ?_, fun i h h' tn hk => ?_, fun X hP hw hK hcalm i pins s σ H E I hfp tn go => ?_, fun X hP hw hK hcalm i pins s σ H E I hfp tn st => ?_, fun A i s Q E tn q => ?_⟩
  · obtain ⟨hz, hTI, ⟨x, y, hTO⟩, ⟨o1, e1, _, d1⟩, ⟨o2, e2, _, d2⟩, _⟩ := tn
    simp only [List.mem_cons, List.not_mem_nil, or_false] at hc
    rcases hc with q | q | q | q | q
    · rw [q]; exact ⟨_, hz, fun v q => nomatch q⟩
    · rw [q]; exact ⟨_, hTI, fun v q => nomatch q⟩
    · rw [q]; exact ⟨_, hTO, fun v q => nomatch q⟩
    · rw [q]; exact ⟨o1, e1, fun v q => by rw [d1] at q; cases q⟩
    · rw [q]; exact ⟨o2, e2, fun v q => by rw [d2] at q; cases q⟩
  · obtain ⟨hz, hTI, ⟨x, y, hTO⟩, h1, h2, hn⟩ := tn
    exact ⟨hk _ (by simp) _ hz, hk _ (by simp) _ hTI, ⟨x, y, hk _ (by simp) _ hTO⟩, h1.at fun o q => hk N (by simp) o q, h2.at fun o q => hk (N + 1) (by simp) o q, hn⟩
  · subst hP
    subst hw
    subst hK
    obtain ⟨xs, ys, hqx, hqy, lx, ly, hin⟩ := go
    obtain ⟨its, rv, p1, _⟩ := I.tuple hqx
    obtain ⟨its2, rv2, p2, _⟩ := I.list hqy
    have p1' : s.heap.IsTuple a its.toArray := p1
    have p2' : s.heap.IsList b its2.toArray := p2.isList
    obtain ⟨hz, hTI, hTO, h1, h2, hn⟩ := tn
    have l1 := rv.length
    have l2 := rv2.length
    have W := WalksT.zipD2 (prog := X.prog) (w := X.w) (A := X.A) (sep la lb) (Draws.tuple (A := X.A.in1) (I.ok.hd hcalm) N a (Nat.ne_of_lt la) its.toArray) (Draws.list (A := X.A.in1) (I.ok.hd hcalm) (N + 1) b (Nat.ne_of_lt (Nat.lt_succ_of_lt lb)) its2.toArray)
    refine W.item i s _ E (by rw [List.size_toArray, List.size_toArray]; omega) ⟨hz, hTI, hTO, ⟨h1, p1'⟩, h2, p2'⟩ (fun T vals h' tk hv hT hTup hmid hk => ⟨_, rfl, ?_⟩)
    obtain ⟨u1, u2, hu1, hu2, rfl⟩ := hv
    have hTw := W.apart _ _ _ hmid
    refine W.go elts kk tpos i T { s with heap := h', toks := tk } _ E hmid (fun h2' hst hk2 => ?_)
    obtain ⟨hz2, hTI2, hTO2, ⟨h12, _⟩, h22, _⟩ := hst
    obtain ⟨x1, hx1, hr1⟩ := vals_get rv (by simpa using hu1)
    obtain ⟨x2, hx2, hr2⟩ := vals_get rv2 (by simpa using hu2)
    obtain ⟨oT, hoT, hcT, nT, hdT⟩ := hTup
    have keep : ∀ c o, c ∉ [N + 4, N + 2, N + 3, N, N + 1] → s.heap.get? c = some o → h2'.get? c = some o := fun c o hc e => hk2 c o (fun m => hc (mem5 m)) (hk c o (fun m => hc (mem5 m)) e)
    have hn0 : ∀ c ∈ [N + 4, N + 2, N + 3, N, N + 1], c ≠ T := fun c hc z => by
      refine absurd hT (Nat.not_le_of_lt ?_)
      rw [← z]
      exact lt5 (Heap.lt_size hz) hc
    refine ⟨.ref T, upd H T (.tup [x1, x2]), I.turnedNew (ch := [N + 4, N + 2, N + 3, N, N + 1]) keep hfp hT
      (show ObjOk X.prog X.w _ _ _ (.tup [x1, x2]) from ⟨by rw [sizeLine_eq]; simp, [u1, u2], .cons hr1 (.cons hr2 .nil), oT, hk2 _ _ hTw hoT, hcT, nT, hdT⟩), rfl, ⟨T, x1, x2, rfl, I.hok.fresh hT, rfl, fun zs hzs => by rw [I.tuple_inj hzs hqx]; exact hx1, fun zs hzs => by rw [I.list_inj hzs hqy]; exact hx2⟩, ⟨hz2, hTI2, hTO2, h12, h22, by omega⟩, fun c hc => ?_⟩
    rw [upd_ne (hn0 c hc)]
    exact (hfp c hc).1
  · subst hP
    subst hw
    subst hK
    obtain ⟨xs, ys, hqx, hqy, lx, ly, hle⟩ := st
    obtain ⟨its, rv, p1, _⟩ := I.tuple hqx
    obtain ⟨its2, rv2, p2, _⟩ := I.list hqy
    have p1' : s.heap.IsTuple a its.toArray := p1
    have p2' : s.heap.IsList b its2.toArray := p2.isList
    obtain ⟨hz, hTI, hTO, h1, h2, hn⟩ := tn
    have l1 := rv.length
    have l2 := rv2.length
    have W := WalksT.zipD2 (prog := X.prog) (w := X.w) (A := X.A) (sep la lb) (Draws.tuple (A := X.A.in1) (I.ok.hd hcalm) N a (Nat.ne_of_lt la) its.toArray) (Draws.list (A := X.A.in1) (I.ok.hd hcalm) (N + 1) b (Nat.ne_of_lt (Nat.lt_succ_of_lt lb)) its2.toArray)
    have ei : i = min its.toArray.size its2.toArray.size := by rw [List.size_toArray, List.size_toArray]; omega
    refine W.done s _ E ⟨hz, hTI, hTO, ⟨by rw [← ei]; exact h1, p1'⟩, by rw [← ei]; exact h2, p2'⟩ (fun h' tk hk => ⟨rfl, I.turnedL (ch := [N + 4, N + 2, N + 3, N, N + 1]) (fun c o hc e => hk c o (fun m => hc (mem5 m)) e) hfp⟩)
  · exact wpAny_pyIter_zip tn.1 q
def iZipM (K : PySem.W.Frag) (ta : TA) : TI := fun σ H R => ta σ H fun vs H1 => ∃ a b xs ys, vs = [.ref a, .ref b] ∧ SqT K H1 a xs ∧ SqL K H1 b ys ∧ xs.length = ys.length ∧ R (ItzM K a b ys.length) H1
theorem pi_zipM {X : Cx} {e e2 : Expr} {ta : TA} {p pos tpos : Pos} {elts : List Expr} {kk : Nat} (hg : Gl X "zip") (hm : X.mg "zip" = none) (ha : PA X [e, e2] ta)
    (hs : starEach [e, e2] X.env = (false, eval e X.env) :: starEach [e2] X.env := by rfl) (hpl : (backTo pos (starEach [e2] X.env)).any (·.1) = false := by rfl) :
    PI X (.Tuple elts kk tpos) (.Call (.Name "zip" p) [e, e2] [] pos) (iZipM X.K ta) := by
  refine ⟨fun pins s σ H R I h => ?_⟩
  refine Call_ (ld_blt I hg hm PyProof.Rows.boot_zip (PyProof.Rows.callWith_type1 (thn (ha.run pos pins s σ H _ I h) fun us s1 ⟨vs, H1, I1, r1, a, b, xs, ys, ex, hqx, hqy, hl, q⟩ => ?_) hs hpl))
  subst ex
  cases r1 with
  | cons r rr =>
    cases rr with
    | cons r' rr =>
      cases rr
      cases r
      cases r'
      obtain ⟨its, rv, p1, _⟩ := I1.tuple hqx
      obtain ⟨its2, rv2, p2, _⟩ := I1.list hqy
      have p1' : s1.heap.IsTuple a its.toArray := p1
      obtain ⟨o1, ho1, _⟩ := id p1'
      refine zip_begins2 (begins_tuple a its.toArray) (begins_list b its2.toArray) p1' p2.isList fun h' hz hTI hTO h1 h2 hsz hk => wpAny_pyIter_zip hz ?_
      have I2 : Inv X pins σ H1 { s1 with heap := h' } := I1.kept (t' := s1.toks) hk
      refine ⟨_, _, _, _, H1, rfl, I2, turn_zipM (Heap.lt_size ho1) p2.lt, ⟨hz, hTI, ⟨_, _, hTO⟩, ⟨_, h1, rfl, rfl⟩, ⟨_, h2, rfl, rfl⟩, Nat.zero_le _⟩, fun c hcm => ?_, q⟩
      have hle : s1.heap.objs.size ≤ c := ge5 hcm
      exact I1.fpOk hle (I1.hok.fresh hle)
section
variable {K : PySem.W.Frag} {a b : Addr} {xs ys : List V} {g : TG} {tt : TT} {te : TE} {vs : List Nat} {σ : L2.St} {H1 : Hp} {D : Addr} {Qd : Hp → Prop}
/-- a list comprehension over such a zip -/
theorem lc_zipM (hn : xs.length = ys.length) (Pv : Nat → Hp → Prop) (h0 : Pv 0 (upd H1 D (.lst []))) (hl : ∀ i H, Pv i H → SqT K H a xs ∧ SqL K H b ys)
    (hs : ∀ i x y T H, xs[i]? = some x → ys[i]? = some y → Pv i H → H T = none → g (.ref T) (wipe σ vs) (upd H T (.tup [x, y])) fun σ2 H2 => wipe σ2 vs = wipe σ vs ∧ tt σ2 H2 fun b H3 =>
      if b = true then te σ2 H3 fun y H4 => ∃ acc, H4 D = some (.lst acc) ∧ acc.length < sizeLine ∧ Pv (i + 1) (upd H4 D (.lst (acc ++ [y]))) else Pv (i + 1) H3) (hd : ∀ H, Pv ys.length H → Qd H) :
    ∃ W : Nat → Nat → Hp → Prop, (∃ m, W 0 m (upd H1 D (.lst []))) ∧ ∀ i m H, W i m H →
      ((ItzM K a b ys.length).stop i H ∧ Qd H) ∨ ((ItzM K a b ys.length).go i H ∧ ∃ Nx : Hp → Prop, (∀ H', Nx H' → ∃ m', m' < m ∧ W (i + 1) m' H') ∧ ∀ x H', (ItzM K a b ys.length).yld i H x H' → g x (wipe σ vs) H' fun σ2 H2 => wipe σ2 vs = wipe σ vs ∧ tt σ2 H2 fun b H3 =>
        if b = true then te σ2 H3 fun y H4 => ∃ acc, H4 D = some (.lst acc) ∧ acc.length < sizeLine ∧ Nx (upd H4 D (.lst (acc ++ [y]))) else Nx H3) := by
  refine ⟨fun i m H => m = ys.length - i ∧ i ≤ ys.length ∧ Pv i H, ⟨ys.length, rfl, Nat.zero_le _, h0⟩, ?_⟩
  rintro i m H ⟨rfl, hi, p⟩
  obtain ⟨qx, qy⟩ := hl i H p
  by_cases hlt : i < ys.length
  · refine .inr ⟨⟨xs, ys, qx, qy, hn, rfl, hlt⟩, Pv (i + 1), fun H' p' => ⟨_, by omega, rfl, hlt, p'⟩, fun v H' y => ?_⟩
    obtain ⟨T, x', y', rfl, hT, rfl, f1, f2⟩ := y
    exact hs i x' y' T H (f1 xs qx) (f2 ys qy) p hT
  · obtain rfl : i = ys.length := by omega
    exact .inl ⟨⟨xs, ys, qx, qy, hn, rfl, Nat.le_refl _⟩, hd H p⟩
/-- .. over a zip of two lists -/
theorem lc_zipL (hn : xs.length = ys.length) (Pv : Nat → Hp → Prop) (h0 : Pv 0 (upd H1 D (.lst []))) (hl : ∀ i H, Pv i H → SqL K H a xs ∧ SqL K H b ys)
    (hs : ∀ i x y T H, xs[i]? = some x → ys[i]? = some y → Pv i H → H T = none → g (.ref T) (wipe σ vs) (upd H T (.tup [x, y])) fun σ2 H2 => wipe σ2 vs = wipe σ vs ∧ tt σ2 H2 fun b H3 =>
      if b = true then te σ2 H3 fun y H4 => ∃ acc, H4 D = some (.lst acc) ∧ acc.length < sizeLine ∧ Pv (i + 1) (upd H4 D (.lst (acc ++ [y]))) else Pv (i + 1) H3) (hd : ∀ H, Pv ys.length H → Qd H) :
    ∃ W : Nat → Nat → Hp → Prop, (∃ m, W 0 m (upd H1 D (.lst []))) ∧ ∀ i m H, W i m H →
      ((Itz K a b).stop i H ∧ Qd H) ∨ ((Itz K a b).go i H ∧ ∃ Nx : Hp → Prop, (∀ H', Nx H' → ∃ m', m' < m ∧ W (i + 1) m' H') ∧ ∀ x H', (Itz K a b).yld i H x H' → g x (wipe σ vs) H' fun σ2 H2 => wipe σ2 vs = wipe σ vs ∧ tt σ2 H2 fun b H3 =>
        if b = true then te σ2 H3 fun y H4 => ∃ acc, H4 D = some (.lst acc) ∧ acc.length < sizeLine ∧ Nx (upd H4 D (.lst (acc ++ [y]))) else Nx H3) := by
  refine ⟨fun i m H => m = ys.length - i ∧ i ≤ ys.length ∧ Pv i H, ⟨ys.length, rfl, Nat.zero_le _, h0⟩, ?_⟩
  rintro i m H ⟨rfl, hi, p⟩
  obtain ⟨qx, qy⟩ := hl i H p
  by_cases hlt : i < ys.length
  · have hlx : i < xs.length := by omega
    refine .inr ⟨⟨xs, ys, _, _, qx, qy, List.getElem?_eq_getElem hlx, List.getElem?_eq_getElem hlt⟩, Pv (i + 1), fun H' p' => ⟨_, by omega, rfl, hlt, p'⟩, fun v H' y => ?_⟩
    obtain ⟨T, x', y', rfl, hT, rfl, f1, f2⟩ := y
    exact hs i x' y' T H (f1 xs qx) (f2 ys qy) p hT
  · obtain rfl : i = ys.length := by omega
    exact .inl ⟨⟨xs, ys, qx, qy, Or.inr (Nat.le_refl _)⟩, hd H p⟩
end
end ZPM
/-! ### tuples whose object is known, and dict of such a tuple of pairs -/
namespace DTT
open PySem PySem.Spec PyProof.Rows L2 GXP
/-- a tuple of no subclass, with no dict of its own -/
def PlO (o : Obj) : Prop := o.cls = .type "tuple" ∧ o.dict = none
section
variable {X : Cx} {pins : List (Addr × Obj)} {σ : L2.St} {a : Addr} {m : Nat} {s : Shared} {E : Value → Shared → Prop}
theorem call_tuple_gxF (hr : Room 1 X.A) (hf : X.A.frames = some X.stack) {Q : VK} (hG : GReady X pins σ m cyT (fun ys H => ∀ p o, H p = none → PlO o → Q (.ref p) (upd H p (.frz o (.tup ys)))) a s) :
    wpAny (model X.prog X.w) X.A (call (.type "tuple") [.ref a]) (EP X pins σ Q) E s := by
  obtain ⟨g, go, sg, Hg, fp, ce, M, I0, ha, lim, ready⟩ := id hG.ex
  have hTI : s.TypeIs (.ref a) "generator" := (M.isGen _ ha).typeIs
  refine callType_codes (Q₁ := fun obj s1 => s1.TypeIs obj "tuple" ∧ EP X pins σ Q obj s1) F.called_tuple (F.typeCall_tuple_1 _) F.entry_object_init (codeAny_of_tree ?_) fun obj s1 h1 =>
    ⟨h1.1, F.args_object_init_2 obj _, object_init_meets F.called_tuple.init.lookup F.called_tuple.made (by decide) X.prog X.w X.A.in1 _ s1 ⟨h1.1, rfl, h1.2⟩⟩
  show wpAny _ X.A.in1.in1 (do checkBuiltinCall "tuple.__new__" ⟨[.type "tuple", .ref a], []⟩; again (.builtin "tuple.__new__" ⟨[.type "tuple", .ref a], []⟩)) _ _ s
  refine wpAny_bind (wpAny_of_eq (F.newCall_tuple_1 _) (wpAny_pure ⟨plainId_quiet F.plain_tuple_new _, codeAny_builtin F.entry_tuple_new ?_⟩))
  rw [Around.under_plainId F.plain_tuple_new]
  have hsub := sub_tuple_self
  have hinit := init_tuple_lookup
  have hmh := madeHere_tuple
  have hr1 := hr.dp
  have hr2 := hr.hd
  have col := fun (Q : List Value → Shared → Prop) (E : Value → Shared → Prop) hQ => gx_collect (A := X.A.in1.in1) (E := E) (Q := Q) hG hr2 hf (Nat.le_succ _) (by show X.A.units + 1 + 1 + 2 ≤ _; omega) (by show X.A.depth < _; omega) hQ
  wp_walk using wpAny_typeOf hTI, col
  intro items s' ys H I' r' z' q'
  show wpAny _ _ (Builtin.Tuple.tupleExact items.toArray >>= fun v => ret v) _ _ _
  unfold Builtin.Tuple.tupleExact
  refine wpAny_bind (wpAny_newObj_type (wpAny_pure ?_) ?_)
  · have hn : H s'.heap.objs.size = none := I'.hok.fresh (Nat.le_refl _)
    refine ⟨⟨_, Heap.get?_push_size _ rfl, rfl⟩, .ref s'.heap.objs.size, _, I'.laid (t' := s'.toks) (o := .frz _ (.tup ys)) (fun b o e => Heap.get?_push_of_some _ e) (Nat.le_refl _) ⟨Heap.get?_push_size _ rfl, z', items, r', ⟨_, Heap.get?_push_size _ rfl, rfl, 0, rfl⟩⟩, rfl, q' _ _ hn ⟨rfl, rfl⟩⟩
  · show items.toArray.size ≤ sizeLine
    rw [List.size_toArray, ← r'.length]
    exact z'
end
section
variable {X : Cx}
theorem pe_tupleGxF {k : Nat} {c P : Addr} {elt tg iter : Expr} {ifs : List Expr} {scope : Scope} {own : List (Str × Nat)} {wi : TI} {g : TG} {tt : TT} {te : TE} {p pos gpos : Pos} (hg : Gl X "tuple") (hm : X.mg "tuple" = none) (G : GxOk X k c P elt tg iter ifs scope own wi g tt te)
    (he : starEach [gxE elt tg iter ifs scope gpos] X.env = (false, eval (gxE elt tg iter ifs scope gpos) X.env) :: starEach [] X.env := by rfl) :
    PE X (.Call (.Name "tuple" p) [gxE elt tg iter ifs scope gpos] [] pos) (tGx P wi g tt te (own.map (·.2)) (fun _ => cyT) fun Q ys H => ∀ p o, H p = none → PlO o → Q (.ref p) (upd H p (.frz o (.tup ys)))) := by
  refine ⟨fun pins s σ H Q I h => ?_⟩
  refine wpAny_Call_Name_kw (ld_blt I hg hm (by decide +kernel : bootBuiltins "tuple" = some (.type "tuple")) (PyProof.Rows.callWith_type1 ?_ he (by rfl)))
  rw [he]
  show wpAny _ _ (spliced ((false, eval (gxE elt tg iter ifs scope gpos) X.env) :: backTo pos (starEach [] X.env))) _ _ s
  exact Calls.spliced_cons (thn (G.make I h) fun u s1 ⟨a, m, e, hG⟩ => e ▸ Calls.spliced_nil (call_tuple_gxF (G.hr.mono (by omega)) I.ok.frames hG))
theorem pairs2 {pins : List (Addr × Obj)} {σ : L2.St} {H : Hp} {s : Shared} (I : L2.Inv X pins σ H s) : ∀ {ps : List Addr} {kvs : List (Key × V)}, Paired (fun p kv => SqT X.K H p [kV kv.1, kv.2]) ps kvs →
    ∃ (prs : List (Key × Value)) (qs : List (Value × Value)), KV kvs prs ∧ prs.length = ps.length ∧ qs.length = ps.length ∧ ∀ (j : Nat) (k v : Value), qs[j]? = some (k, v) → ∃ (b : Addr) (kk : Key), ps[j]? = some b ∧ IsTup s.heap b #[k, v] ∧ prs[j]? = some (kk, v) ∧ keyIs kk k = true
  | _, _, .nil => ⟨[], [], .nil, rfl, rfl, fun j k v e => by simp at e⟩
  | _, _, .cons (a := p) (b := kv) h t => by
    obtain ⟨prs, qs, r, hl, hm, hp⟩ := pairs2 I t
    obtain ⟨its, rv, ht, _⟩ := I.tuple h
    obtain ⟨u, y, ei, ru, ry⟩ := vals2 rv
    subst ei
    refine ⟨(kv.1, y) :: prs, (u, y) :: qs, .cons ⟨rfl, ry⟩ r, by rw [List.length_cons, List.length_cons, hl], by rw [List.length_cons, List.length_cons, hm], fun j k v e => ?_⟩
    cases j with
    | zero =>
      have e' : (u, y) = (k, v) := Option.some.inj e
      obtain ⟨rfl, rfl⟩ := Prod.mk.inj e'
      exact ⟨p, kv.1, rfl, ht, rfl, kV_is (P := X.prog) (w := X.w) ru⟩
    | succ j =>
      obtain ⟨b, kk, h1, h2, h3, h4⟩ := hp j k v e
      exact ⟨b, kk, h1, h2, h3, h4⟩
/-- dict(t) of a tuple of pairs (key, value) whose object is known -/
theorem call_dictT (hcalm : X.calm = true) : CallR X (.type "dict") (fun xs H Q => ∃ (a : Addr) (o : Obj) (ps : List Addr) (kvs : List (Key × V)), xs = [.ref a] ∧ H a = some (.frz o (.tup (ps.map V.ref))) ∧ PlO o ∧ Paired (fun p kv => SqT X.K H p [kV kv.1, kv.2]) ps kvs ∧
    ∀ p, H p = none → Q (.ref p) (upd H p (.dK (mergeK [] kvs)))) := by
  intro pins s σ H xs us Q I r q
  obtain ⟨a, o, ps, kvs, ex, ha, ⟨hc, hd⟩, hp, q⟩ := q
  subst ex
  obtain ⟨u, eu, rx⟩ := vals1 r
  subst eu
  cases rx
  obtain ⟨ho, hz, its, rv, ht⟩ := (show ObjOk X.prog X.w H s.heap a (.frz o (.tup (ps.map V.ref))) from I.hok a _ ha)
  have ei := refs_at rv
  subst ei
  rw [List.length_map] at hz
  obtain ⟨o', ho', hc', n, hdat⟩ := ht
  rw [ho] at ho'
  cases ho'
  obtain ⟨prs, qs, rel, hl, hm, hpr⟩ := pairs2 I hp
  refine _root_.PySem.call_dict_pairs (knd := mixKind X.prog X.w) (kvs := prs) (PairArg.tuple a (ps.map Value.ref).toArray (fun j => ps.getD j 0) qs) (I.ok.hd hcalm) ⟨⟨o, n, ho, hc, hd, hdat⟩, by rw [List.size_toArray, List.length_map, hm], fun j k v e => ?_⟩ ⟨by rw [hl, hm], fun i k v e => ?_⟩ (by rw [hm]; exact hz) fun h' tk hd' k => ?_
  · obtain ⟨b, kk, e1, e2, e3, e4⟩ := hpr j k v e
    have eb : ps.getD j 0 = b := by rw [List.getD_eq_getElem?_getD, e1]; rfl
    refine ⟨?_, .inl ?_⟩
    · show (List.map Value.ref ps).toArray[j]? = some (Value.ref (ps.getD j 0))
      rw [eb]
      simp [e1]
    · show s.heap.IsTuple (ps.getD j 0) #[k, v]
      rw [eb]
      exact e2
  · obtain ⟨b, kk, e1, e2, e3, e4⟩ := hpr i k v e
    exact ⟨kk, e3, e4⟩
  · have hmd : (s.heap.objs.size == sysModules) = false := beq_eq_false_iff_ne.mpr (Nat.ne_of_gt I.big)
    have hlen : (mergeK [] kvs).length ≤ sizeLine := by
      refine Nat.le_trans (length_mergeK kvs []) ?_
      rw [List.length_nil, Nat.zero_add, rel.length, hl]
      exact hz
    exact ⟨.ref s.heap.objs.size, upd H s.heap.objs.size (.dK (mergeK [] kvs)), I.laid (t' := tk) (fun b o e => k b o List.not_mem_nil e) (Nat.le_refl _) (show ObjOk X.prog X.w _ _ _ (.dK (mergeK [] kvs)) from ⟨hlen, hmd, merged [] prs, KV.merge rel .nil, hd'⟩), rfl, q _ (I.hok.fresh (Nat.le_refl _))⟩
end
end DTT
/-! ### sorted of a tuple of ints of any length -/
namespace AUG
open PySem PySem.Spec PyProof.Rows L2
section
variable {X : Cx}
theorem sorted_tupL {prog : Program} {w : World} {A : Around} {E : Value → Shared → Prop} {s : Shared} {t : Addr} {vs : List Value} {ns : List Int} {Q : Value → Shared → Prop} (ht : IsTup s.heap t vs.toArray) (hI : IntsAre vs ns) (hz : vs.length ≤ sizeLine)
    (h : ∀ (h1 h' : Heap) (e : Nat) (out : Array Value) (ns' : List Int), (∀ b o, s.heap.get? b = some o → h1.get? b = some o) → (∀ b o, h1.get? b = some o → h'.get? b = some o) → h'.get? h1.objs.size = some (seqObj "list" out e) → IntsAre out.toList ns' → ns'.Perm ns → ns'.Pairwise (· ≤ ·) → Q (.ref h1.objs.size) { s with heap := h' }) :
    wpAny (model prog w) A (call (.builtin "sorted") [.ref t]) Q E s := by
  obtain ⟨o, ho, hc, n, hd⟩ := ht
  refine Calls.call_function_entry kind_sorted plain_sorted entry_sorted (args_sorted1 _) ?_
  unfold Builtin.«sorted»
  refine wpAny_bind (m := checkCount "sorted" 1 1 _) (wpAny_pure ?_)
  refine wpAny_bind (wpAny_collect_seq (T := "tuple") t (.inr rfl) ho hc hd (fun h1 k1 => ?_) (by simpa using hz))
  have e0 : vs.toArray.toList = vs := rfl
  rw [e0]
  refine wpAny_bind (wpAny_newList (s := { s with heap := h1 }) ?_ hz)
  have hoL : (h1.push (seqObj "list" vs.toArray 0)).get? h1.objs.size = some (seqObj "list" vs.toArray 0) := Heap.get?_push_size _ rfl
  show wpAny _ _ _ _ _ { s with heap := h1.push (seqObj "list" vs.toArray 0) }
  refine wpAny_bind (wpAny_holding (wpAny_call_entry slot_list_sort ⟨_, hoL, rfl⟩ entry_list_sort (SrtO.list_sort_ord (s := { s with heap := h1.push (seqObj "list" vs.toArray 0) }) SrtO.swo_int hoL hz (fun h2 => SrtO.ints_sortable hI h2) fun out a1 a2 => ⟨_, rfl, ?_⟩) (args_list_sort _)))
  obtain ⟨k1', k2, k3⟩ := SrtO.ints_out hI a1 a2
  obtain ⟨e, he⟩ := sortedHeap_at (out := out.toArray) hoL
  refine wpAny_pure ⟨_, rfl, h h1 _ e out.toArray (out.map SrtO.iv) k1 (fun b o hb1 => ?_) he k1' k2 k3⟩
  have hlt := Heap.lt_size hb1
  rw [sortedHeap_old (Nat.ne_of_lt hlt) (by rw [size_push']; exact Nat.lt_succ_of_lt hlt)]
  exact Heap.get?_push_of_some _ hb1
def rSortedTL (K : PySem.W.Frag) : List V → Hp → VK → Prop := fun vs H Q => ∃ (a : Addr) (ns : List Int), vs = [V.ref a] ∧ SqT K H a (ns.map V.int) ∧
  ∀ (ns' : List Int) (p : Addr), ns'.Perm ns → ns'.Pairwise (· ≤ ·) → H p = none → Q (.ref p) (upd H p (.lst (ns'.map V.int)))
theorem cr_sortedTL : CallR X (.builtin "sorted") (rSortedTL X.K) := by
  intro pins s σ H vs us Q I r h
  obtain ⟨a, ns, rfl, hs, q⟩ := h
  obtain ⟨its, rv, ht, hz⟩ := I.tuple hs
  rw [Vals.ref1 r]
  have hi := rv.ints
  refine sorted_tupL ht hi (by rw [← rv.length]; exact hz) fun g h' e out ns' k1 kp he h1 h2 h3 => ?_
  have hlen : (ns'.map V.int).length ≤ sizeLine := by
    rw [List.length_map, h2.length_eq]
    rw [List.length_map] at hz
    exact hz
  have I1 : Inv X pins σ H { s with heap := g } := I.kept (t' := s.toks) k1
  exact ⟨.ref _, upd H g.objs.size (.lst (ns'.map V.int)), I1.laid (t' := s.toks) kp (Nat.le_refl _) ⟨hlen, out.toList, e, vals_of_ints h1, he⟩, rfl, q ns' _ h2 h3 (I1.hok.fresh (Nat.le_refl _))⟩
end
end AUG
/-! ### cycles of a permutation, as lists -/
namespace PG
/-- f leads from each item to the next, from the last to e -/
def Path (f : Nat → Nat) : List Nat → Nat → Prop
  | [], _ => True
  | x :: l, e => f x = l.headD e ∧ Path f l e
theorem headD_app (u v : List Nat) (e : Nat) : (u ++ v).headD e = u.headD (v.headD e) := by
  cases u <;> rfl
theorem path_app {f : Nat → Nat} : ∀ {u v : List Nat} {e : Nat}, Path f (u ++ v) e ↔ Path f u (v.headD e) ∧ Path f v e
  | [], v, e => ⟨fun h => ⟨trivial, h⟩, fun h => h.2⟩
  | x :: u, v, e => by
    show (f x = (u ++ v).headD e ∧ Path f (u ++ v) e) ↔ (f x = u.headD (v.headD e) ∧ Path f u (v.headD e)) ∧ Path f v e
    rw [headD_app, path_app (u := u) (v := v), and_assoc]
theorem path_congr {f g : Nat → Nat} : ∀ {c : List Nat} {e : Nat}, (∀ x ∈ c, f x = g x) → Path f c e → Path g c e
  | [], _, _, _ => trivial
  | x :: l, e, h, ⟨h1, h2⟩ => ⟨(h x List.mem_cons_self).symm.trans h1, path_congr (fun y m => h y (List.mem_cons_of_mem _ m)) h2⟩
/-- a cycle -/
def Cyc (f : Nat → Nat) (c : List Nat) : Prop := c ≠ [] ∧ c.Nodup ∧ Path f c (c.headD 0)
theorem headD_ne {c : List Nat} (h : c ≠ []) (d e : Nat) : c.headD d = c.headD e := by
  cases c with
  | nil => exact absurd rfl h
  | cons x l => rfl
theorem headD_mem {c : List Nat} (h : c ≠ []) (d : Nat) : c.headD d ∈ c := by
  cases c with
  | nil => exact absurd rfl h
  | cons x l => exact List.mem_cons_self
theorem Cyc.rot {f : Nat → Nat} {u v : List Nat} (h : Cyc f (u ++ v)) : Cyc f (v ++ u) := by
  obtain ⟨h1, h2, h3⟩ := h
  by_cases hu : u = []
  · subst hu
    rw [List.append_nil]
    exact ⟨h1, h2, h3⟩
  by_cases hv : v = []
  · subst hv
    rw [List.append_nil] at h1 h2 h3
    exact ⟨h1, h2, h3⟩
  refine ⟨fun z => hv (List.append_eq_nil_iff.mp z).1, ?_, ?_⟩
  · exact (List.perm_append_comm.nodup_iff).mp h2
  · obtain ⟨p1, p2⟩ := path_app.mp h3
    rw [headD_app] at p1 p2 ⊢
    refine path_app.mpr ⟨?_, ?_⟩
    · rw [headD_ne hu _ (v.headD 0)]
      exact p2
    · rw [headD_ne hv _ (u.headD (v.headD 0))]
      exact p1
theorem path_same {f : Nat → Nat} {e : Nat} : ∀ {c d : List Nat} {x : Nat}, Path f (x :: c) e → Path f (x :: d) e → e ∉ c → e ∉ d → c = d
  | [], [], _, _, _, _, _ => rfl
  | [], y :: d, x, h1, h2, _, n2 => by
    have e1 : f x = e := h1.1
    have e2 : f x = y := h2.1
    exact absurd (show e ∈ y :: d by rw [← e1, e2]; exact List.mem_cons_self) n2
  | y :: c, [], x, h1, h2, n1, _ => by
    have e1 : f x = y := h1.1
    have e2 : f x = e := h2.1
    exact absurd (show e ∈ y :: c by rw [← e2, e1]; exact List.mem_cons_self) n1
  | y :: c, z :: d, x, h1, h2, n1, n2 => by
    have e1 : f x = y := h1.1
    have e2 : f x = z := h2.1
    have e3 : y = z := e1.symm.trans e2
    subst e3
    rw [path_same h1.2 h2.2 (fun m => n1 (List.mem_cons_of_mem _ m)) fun m => n2 (List.mem_cons_of_mem _ m)]
theorem Cyc.same {f : Nat → Nat} {x : Nat} {c d : List Nat} (h : Cyc f (x :: c)) (k : Cyc f (x :: d)) : c = d :=
  path_same h.2.2 k.2.2 (List.nodup_cons.mp h.2.1).1 (List.nodup_cons.mp k.2.1).1
theorem Cyc.at {f : Nat → Nat} {c : List Nat} (h : Cyc f c) {x : Nat} (m : x ∈ c) : ∃ l, Cyc f (x :: l) ∧ ∀ y, y ∈ x :: l ↔ y ∈ c := by
  obtain ⟨u, v, rfl⟩ := List.append_of_mem m
  exact ⟨v ++ u, h.rot, fun y => by simp [or_comm, or_left_comm]⟩
/-- two cycles with a common item have the same items -/
theorem Cyc.mem {f : Nat → Nat} {c d : List Nat} (h : Cyc f c) (k : Cyc f d) {x : Nat} (m : x ∈ c) (n : x ∈ d) (y : Nat) : y ∈ c ↔ y ∈ d := by
  obtain ⟨l, h1, h2⟩ := h.at m
  obtain ⟨r, k1, k2⟩ := k.at n
  rw [← h2, ← k2, h1.same k1]
theorem Cyc.eq {f : Nat → Nat} {c d : List Nat} (h : Cyc f c) (k : Cyc f d) (e : c.headD 0 = d.headD 0) : c = d := by
  cases c with
  | nil => exact absurd rfl h.1
  | cons x c =>
    cases d with
    | nil => exact absurd rfl k.1
    | cons y d =>
      have e : x = y := e
      subst e
      rw [h.same k]
theorem path_next {f : Nat → Nat} : ∀ {c : List Nat} {e x : Nat}, Path f c e → x ∈ c → f x ∈ c.tail ∨ f x = e
  | [], _, _, _, m => by cases m
  | y :: l, e, x, ⟨h1, h2⟩, m => by
    rcases List.mem_cons.mp m with z | m
    · rw [z, h1]
      cases l with
      | nil => exact .inr rfl
      | cons w l => exact .inl List.mem_cons_self
    · rcases path_next h2 m with z | z
      · exact .inl (List.mem_of_mem_tail z)
      · exact .inr z
theorem Cyc.next {f : Nat → Nat} {c : List Nat} (h : Cyc f c) {x : Nat} (m : x ∈ c) : f x ∈ c := by
  rcases path_next h.2.2 m with z | z
  · exact List.mem_of_mem_tail z
  · rw [z]
    exact headD_mem h.1 0
theorem path_pred {f : Nat → Nat} : ∀ {c : List Nat} {e x : Nat}, Path f c e → x ∈ c → x = c.headD e ∨ ∃ y ∈ c, f y = x
  | [], _, _, _, m => by cases m
  | y :: l, e, x, ⟨h1, h2⟩, m => by
    rcases List.mem_cons.mp m with z | m
    · exact .inl z
    · rcases path_pred h2 m with z | ⟨w, mw, e1⟩
      · exact .inr ⟨y, List.mem_cons_self, h1.trans z.symm⟩
      · exact .inr ⟨w, List.mem_cons_of_mem _ mw, e1⟩
theorem path_last {f : Nat → Nat} : ∀ {c : List Nat} {e : Nat}, c ≠ [] → Path f c e → ∃ y ∈ c, f y = e
  | [], _, h, _ => absurd rfl h
  | [x], e, _, h => ⟨x, List.mem_cons_self, h.1⟩
  | x :: y :: l, e, _, h => by
    obtain ⟨w, m, e1⟩ := path_last (by simp) h.2
    exact ⟨w, List.mem_cons_of_mem _ m, e1⟩
theorem Cyc.pred {f : Nat → Nat} {c : List Nat} (h : Cyc f c) {x : Nat} (m : x ∈ c) : ∃ y ∈ c, f y = x := by
  rcases path_pred h.2.2 m with z | z
  · obtain ⟨y, my, e⟩ := path_last h.1 h.2.2
    exact ⟨y, my, by rw [z]; exact e.trans (headD_ne h.1 _ _)⟩
  · exact z
/-! ### all cycles -/
/-- f has just these cycles on the numbers of D -/
structure Dec (f : Nat → Nat) (D : List Nat) (cs : List (List Nat)) : Prop where
  cyc : ∀ c ∈ cs, Cyc f c
  perm : cs.flatten.Perm D
  nd : D.Nodup
theorem Dec.nodup {f : Nat → Nat} {N : List Nat} {cs : List (List Nat)} (h : Dec f N cs) : cs.flatten.Nodup := h.perm.nodup_iff.mpr h.nd
theorem Dec.mem {f : Nat → Nat} {N : List Nat} {cs : List (List Nat)} (h : Dec f N cs) {x : Nat} : (∃ c ∈ cs, x ∈ c) ↔ x ∈ N := by
  rw [← h.perm.mem_iff, List.mem_flatten]
/-- the least of its cycle -/
def Lst (f : Nat → Nat) (d : Nat) : Prop := ∃ c, Cyc f c ∧ d ∈ c ∧ ∀ x ∈ c, d ≤ x
/-- the cycles in order, each from its least item on -/
structure Fcs (f : Nat → Nat) (N : List Nat) (cs : List (List Nat)) : Prop where
  dec : Dec f N cs
  least : ∀ c ∈ cs, ∀ x ∈ c, c.headD 0 ≤ x
  asc : (cs.map fun c => c.headD 0).Pairwise (· < ·)
theorem Fcs.heads {f : Nat → Nat} {N : List Nat} {cs : List (List Nat)} (h : Fcs f N cs) (d : Nat) : d ∈ (cs.map fun c => c.headD 0) ↔ d ∈ N ∧ Lst f d := by
  constructor
  · intro m
    obtain ⟨c, mc, rfl⟩ := List.mem_map.mp m
    have hc := h.dec.cyc c mc
    exact ⟨h.dec.mem.mp ⟨c, mc, headD_mem hc.1 0⟩, c, hc, headD_mem hc.1 0, h.least c mc⟩
  · rintro ⟨hd, c0, k, m0, l0⟩
    obtain ⟨c, mc, mdc⟩ := h.dec.mem.mpr hd
    have hc := h.dec.cyc c mc
    have e := hc.mem k mdc m0 (c.headD 0)
    have h1 := l0 _ (e.mp (headD_mem hc.1 0))
    have h2 := h.least c mc d mdc
    exact List.mem_map.mpr ⟨c, mc, Nat.le_antisymm h2 h1⟩
theorem sorted_two : ∀ {xs ys : List Nat}, xs.Pairwise (· < ·) → ys.Pairwise (· < ·) → (∀ k, k ∈ xs ↔ k ∈ ys) → xs = ys
  | [], [], _, _, _ => rfl
  | [], y :: ys, _, _, h => absurd ((h y).mpr List.mem_cons_self) List.not_mem_nil
  | x :: xs, [], _, _, h => absurd ((h x).mp List.mem_cons_self) List.not_mem_nil
  | x :: xs, y :: ys, hx, hy, h => by
    obtain ⟨x1, x2⟩ := List.pairwise_cons.mp hx
    obtain ⟨y1, y2⟩ := List.pairwise_cons.mp hy
    have e : x = y := by
      rcases List.mem_cons.mp ((h x).mp List.mem_cons_self) with e | m
      · exact e
      · rcases List.mem_cons.mp ((h y).mpr List.mem_cons_self) with e | n
        · exact e.symm
        · have a := y1 x m
          have b := x1 y n
          omega
    subst e
    congr 1
    refine sorted_two x2 y2 fun k => ⟨fun m => ?_, fun m => ?_⟩
    · rcases List.mem_cons.mp ((h k).mp (List.mem_cons_of_mem _ m)) with e | n
      · have := x1 k m
        omega
      · exact n
    · rcases List.mem_cons.mp ((h k).mpr (List.mem_cons_of_mem _ m)) with e | n
      · have := y1 k m
        omega
      · exact n
theorem eq_heads {f : Nat → Nat} : ∀ {cs ds : List (List Nat)}, (∀ c ∈ cs, Cyc f c) → (∀ c ∈ ds, Cyc f c) → (cs.map fun c => c.headD 0) = (ds.map fun c => c.headD 0) → cs = ds
  | [], [], _, _, _ => rfl
  | [], _ :: _, _, _, h => by simp at h
  | _ :: _, [], _, _, h => by simp at h
  | c :: cs, d :: ds, h, k, e => by
    rw [List.map_cons, List.map_cons] at e
    obtain ⟨e1, e2⟩ := List.cons.inj e
    rw [(h c List.mem_cons_self).eq (k d List.mem_cons_self) e1, eq_heads (fun x m => h x (List.mem_cons_of_mem _ m)) (fun x m => k x (List.mem_cons_of_mem _ m)) e2]
theorem Fcs.unique {f : Nat → Nat} {N : List Nat} {cs ds : List (List Nat)} (h : Fcs f N cs) (k : Fcs f N ds) : cs = ds :=
  eq_heads h.dec.cyc k.dec.cyc (sorted_two h.asc k.asc fun d => (h.heads d).trans (k.heads d).symm)
def lm : List Nat → Nat
  | [] => 0
  | [x] => x
  | x :: y :: l => min x (lm (y :: l))
theorem lm_mem : ∀ {c : List Nat}, c ≠ [] → lm c ∈ c
  | [], h => absurd rfl h
  | [x], _ => List.mem_cons_self
  | x :: y :: l, _ => by
    have ih := lm_mem (c := y :: l) (by simp)
    rw [lm]
    rcases Nat.le_total x (lm (y :: l)) with h | h
    · rw [Nat.min_eq_left h]
      exact List.mem_cons_self
    · rw [Nat.min_eq_right h]
      exact List.mem_cons_of_mem _ ih
theorem lm_le : ∀ {c : List Nat} {x : Nat}, x ∈ c → lm c ≤ x
  | [], _, m => by cases m
  | [y], x, m => by
    rw [List.mem_singleton.mp m]
    exact Nat.le_refl _
  | y :: z :: l, x, m => by
    rw [lm]
    rcases List.mem_cons.mp m with e | m
    · rw [e]
      exact Nat.min_le_left _ _
    · exact Nat.le_trans (Nat.min_le_right _ _) (lm_le m)
theorem mins_nodup : ∀ {cs : List (List Nat)}, cs.flatten.Nodup → (∀ c ∈ cs, c ≠ []) → (cs.map lm).Nodup
  | [], _, _ => List.nodup_nil
  | c :: cs, h, hn => by
    rw [List.flatten_cons] at h
    obtain ⟨h1, h2, h3⟩ := List.nodup_append.mp h
    refine List.nodup_cons.mpr ⟨fun m => ?_, mins_nodup h2 fun d m => hn d (List.mem_cons_of_mem _ m)⟩
    obtain ⟨d, md, e⟩ := List.mem_map.mp m
    have m1 := lm_mem (hn c List.mem_cons_self)
    have m2 := lm_mem (hn d (List.mem_cons_of_mem _ md))
    exact h3 _ m1 _ (List.mem_flatten.mpr ⟨d, md, m2⟩) e.symm
/-- however the cycles are written, there are as many -/
theorem Dec.length {f : Nat → Nat} {N : List Nat} {cs ds : List (List Nat)} (h : Dec f N cs) (k : Dec f N ds) : cs.length = ds.length := by
  have mem : ∀ {cs : List (List Nat)}, Dec f N cs → ∀ d, d ∈ cs.map lm ↔ d ∈ N ∧ Lst f d := fun {cs} h d => by
    constructor
    · intro m
      obtain ⟨c, mc, rfl⟩ := List.mem_map.mp m
      have hc := h.cyc c mc
      exact ⟨h.mem.mp ⟨c, mc, lm_mem hc.1⟩, c, hc, lm_mem hc.1, fun x => lm_le⟩
    · rintro ⟨hd, c0, k, m0, l0⟩
      obtain ⟨c, mc, mdc⟩ := h.mem.mpr hd
      have hc := h.cyc c mc
      have h1 := l0 _ ((hc.mem k mdc m0 _).mp (lm_mem hc.1))
      exact List.mem_map.mpr ⟨c, mc, Nat.le_antisymm (lm_le mdc) h1⟩
  have p : (cs.map lm).Perm (ds.map lm) := (List.perm_ext_iff_of_nodup (mins_nodup h.nodup fun c m => (h.cyc c m).1) (mins_nodup k.nodup fun c m => (k.cyc c m).1)).mpr fun d => (mem h d).trans (mem k d).symm
  have := p.length_eq
  rwa [List.length_map, List.length_map] at this
theorem Dec.inj {f : Nat → Nat} {N : List Nat} {cs : List (List Nat)} (h : Dec f N cs) {a b : Nat} (ha : a ∈ N) (hb : b ∈ N) (e : f a = f b) : a = b := by
  obtain ⟨c, mc, ma⟩ := h.mem.mpr ha
  obtain ⟨d, md, mb⟩ := h.mem.mpr hb
  have hc := h.cyc c mc
  have hd := h.cyc d md
  have m1 := hc.next ma
  have m2 := hd.next mb
  rw [e] at m1
  have mab : b ∈ c := (hc.mem hd m1 m2 b).mpr mb
  obtain ⟨l, k1, k2⟩ := hc.at ma
  obtain ⟨r, j1, j2⟩ := hc.at mab
  -- from f a around to a, and from f b = f a around to b
  have hx : ∀ {x : Nat} {l : List Nat}, Cyc f (x :: l) → Cyc f (l ++ [x]) := fun h => Cyc.rot (u := [_]) h
  have p1 := hx k1
  have p2 := hx j1
  have e1 : (l ++ [a]).headD 0 = f a := by
    have := k1.2.2.1
    rw [this]
    cases l <;> rfl
  have e2 : (r ++ [b]).headD 0 = f b := by
    have := j1.2.2.1
    rw [this]
    cases r <;> rfl
  have e3 := p1.eq p2 (by rw [e1, e2, e])
  have := congrArg (fun l : List Nat => l.getLast?) e3
  simpa using this
/-! ### one more number in a cycle, a cycle cut in two -/
/-- x goes in ahead of y -/
def ins (f : Nat → Nat) (x y : Nat) (d : Nat) : Nat := if d = x then y else if f d = y then x else f d
theorem path_sub {f g : Nat → Nat} {e e' : Nat} : ∀ {c : List Nat}, Path f c e → e ∉ c.tail → (∀ z ∈ c, f z ∈ c.tail → g z = f z) → (∀ z ∈ c, f z = e → g z = e') → Path g c e'
  | [], _, _, _, _ => trivial
  | [z], h, _, _, h2 => ⟨h2 z List.mem_cons_self h.1, trivial⟩
  | z :: w :: l, h, n, h1, h2 => by
    have e1 : f z = w := h.1
    refine ⟨?_, path_sub h.2 (fun m => n (List.mem_cons_of_mem _ m)) (fun x m k => h1 x (List.mem_cons_of_mem _ m) (List.mem_cons_of_mem _ k)) fun x m => h2 x (List.mem_cons_of_mem _ m)⟩
    rw [h1 z List.mem_cons_self (by rw [e1]; exact List.mem_cons_self), e1]
    rfl
theorem Cyc.ins {f : Nat → Nat} {x y : Nat} {u v : List Nat} (h : Cyc f (u ++ y :: v)) (hx : x ∉ u ++ y :: v) : Cyc (PG.ins f x y) (u ++ x :: y :: v) := by
  have r := h.rot
  have e1 : y :: v ++ u = y :: (v ++ u) := rfl
  rw [e1] at r
  have hx' : x ∉ y :: (v ++ u) := fun m => hx (by simp at m ⊢; rcases m with m | m | m <;> simp [m])
  have key : Cyc (PG.ins f x y) (x :: y :: (v ++ u)) := by
    refine ⟨by simp, List.nodup_cons.mpr ⟨hx', r.2.1⟩, ?_, ?_⟩
    · show PG.ins f x y x = y
      unfold PG.ins
      rw [if_pos rfl]
    · refine path_sub r.2.2 (List.nodup_cons.mp r.2.1).1 (fun z mz m => ?_) fun z mz e => ?_
      · unfold PG.ins
        rw [if_neg (fun w : z = x => hx' (w ▸ mz)), if_neg (fun w : f z = y => (List.nodup_cons.mp r.2.1).1 (by rw [w] at m; exact m))]
      · unfold PG.ins
        rw [if_neg (fun w : z = x => hx' (w ▸ mz)), if_pos (show f z = y from e)]
        rfl
  have r2 := Cyc.rot (u := x :: y :: v) (v := u) key
  exact r2
theorem Cyc.ins_other {f : Nat → Nat} {x y : Nat} {c : List Nat} (h : Cyc f c) (hx : x ∉ c) (hy : y ∉ c) : Cyc (PG.ins f x y) c := by
  refine ⟨h.1, h.2.1, path_congr (fun z m => ?_) h.2.2⟩
  unfold PG.ins
  rw [if_neg (fun w : z = x => hx (w ▸ m)), if_neg (fun w : f z = y => hy (w ▸ h.next m))]
theorem Cyc.congr {f g : Nat → Nat} {c : List Nat} (h : Cyc f c) (e : ∀ x ∈ c, f x = g x) : Cyc g c := ⟨h.1, h.2.1, path_congr e h.2.2⟩
theorem path_det {f g : Nat → Nat} : ∀ {c : List Nat} {e : Nat}, Path f c e → Path g c e → ∀ x ∈ c, f x = g x
  | [], _, _, _, _, m => by cases m
  | y :: l, e, ⟨h1, h2⟩, ⟨k1, k2⟩, x, m => by
    rcases List.mem_cons.mp m with z | m
    · rw [z, h1, k1]
    · exact path_det h2 k2 x m
theorem Cyc.det {f g : Nat → Nat} {c : List Nat} (h : Cyc f c) (k : Cyc g c) : ∀ x ∈ c, f x = g x := path_det h.2.2 k.2.2
theorem Dec.congr {f g : Nat → Nat} {D : List Nat} {cs : List (List Nat)} (h : Dec f D cs) (e : ∀ x ∈ D, f x = g x) : Dec g D cs :=
  ⟨fun c m => (h.cyc c m).congr fun x mx => e x (h.mem.mp ⟨c, m, mx⟩), h.perm, h.nd⟩
/-- the cycle that holds an item, written from it on, ahead of the others -/
theorem Dec.front {f : Nat → Nat} {D : List Nat} {cs : List (List Nat)} (h : Dec f D cs) {c : List Nat} (mc : c ∈ cs) {x : Nat} (m : x ∈ c) : ∃ l ds, Dec f D ((x :: l) :: ds) ∧ ds.length + 1 = cs.length ∧ ∀ y, y ∈ x :: l ↔ y ∈ c := by
  obtain ⟨as, bs, rfl⟩ := List.append_of_mem mc
  obtain ⟨u, v, rfl⟩ := List.append_of_mem m
  have hc := h.cyc _ mc
  have mem : ∀ y, y ∈ x :: (v ++ u) ↔ y ∈ u ++ x :: v := fun y => by simp [or_comm, or_left_comm]
  refine ⟨v ++ u, as ++ bs, ⟨fun d md => ?_, ?_, h.nd⟩, by simp; omega, mem⟩
  · rcases List.mem_cons.mp md with e | md
    · rw [e]
      exact hc.rot
    · refine h.cyc d ?_
      rcases List.mem_append.mp md with w | w
      · exact List.mem_append_left _ w
      · exact List.mem_append_right _ (List.mem_cons_of_mem _ w)
  · refine List.Perm.trans ?_ h.perm
    simp only [List.flatten_cons, List.flatten_append]
    have p1 : (x :: (v ++ u)).Perm (u ++ x :: v) := by
      have : (x :: v ++ u).Perm (u ++ x :: v) := List.perm_append_comm
      exact this
    refine (p1.append_right _).trans ?_
    rw [← List.append_assoc]
    refine (List.Perm.append_right _ List.perm_append_comm).trans ?_
    rw [List.append_assoc]
theorem Dec.other {f : Nat → Nat} {D : List Nat} {c : List Nat} {ds : List (List Nat)} (h : Dec f D (c :: ds)) {d : List Nat} (m : d ∈ ds) : ∀ x ∈ d, x ∉ c := fun x mx mc => by
  have := h.nodup
  rw [List.flatten_cons] at this
  exact (List.nodup_append.mp this).2.2 x mc x (List.mem_flatten.mpr ⟨d, m, mx⟩) rfl
/-- a new number ahead of y -/
theorem Dec.ins {f : Nat → Nat} {D : List Nat} {y : Nat} {l : List Nat} {ds : List (List Nat)} (h : Dec f D ((y :: l) :: ds)) {x : Nat} (hx : x ∉ D) : Dec (PG.ins f x y) (x :: D) ((x :: y :: l) :: ds) := by
  have hm : ∀ c ∈ (y :: l) :: ds, x ∉ c := fun c m mx => hx (h.mem.mp ⟨c, m, mx⟩)
  refine ⟨fun c m => ?_, ?_, List.nodup_cons.mpr ⟨hx, h.nd⟩⟩
  · rcases List.mem_cons.mp m with e | m
    · rw [e]
      exact (h.cyc _ List.mem_cons_self).ins (u := []) (hm _ List.mem_cons_self)
    · exact (h.cyc _ (List.mem_cons_of_mem _ m)).ins_other (hm _ (List.mem_cons_of_mem _ m)) fun my => h.other m y my List.mem_cons_self
  · rw [List.flatten_cons]
    show (x :: (y :: l ++ ds.flatten)).Perm _
    exact List.Perm.cons x (by rw [← List.flatten_cons]; exact h.perm)
/-- a cycle through y and z, cut in two by new numbers a and b -/
def cut (f : Nat → Nat) (a b y z : Nat) (d : Nat) : Nat := if d = a then z else if d = b then y else if f d = y then a else if f d = z then b else f d
theorem Dec.cut {f : Nat → Nat} {D : List Nat} {y z : Nat} {l r : List Nat} {ds : List (List Nat)} (h : Dec f D ((y :: l ++ z :: r) :: ds)) {a b : Nat} (ha : a ∉ D) (hb : b ∉ D) (ab : a ≠ b) : Dec (PG.cut f a b y z) (a :: b :: D) ((y :: l ++ [b]) :: (z :: r ++ [a]) :: ds) := by
  have hc := h.cyc _ List.mem_cons_self
  have nd := hc.2.1
  have na : ∀ c ∈ (y :: l ++ z :: r) :: ds, a ∉ c := fun c m mx => ha (h.mem.mp ⟨c, m, mx⟩)
  have nb : ∀ c ∈ (y :: l ++ z :: r) :: ds, b ∉ c := fun c m mx => hb (h.mem.mp ⟨c, m, mx⟩)
  have ma := na _ List.mem_cons_self
  have mb := nb _ List.mem_cons_self
  obtain ⟨n1, n2, n3⟩ := List.nodup_append.mp nd
  have yz : y ≠ z := fun e => n3 y List.mem_cons_self z List.mem_cons_self e
  obtain ⟨p1, p2⟩ := path_app.mp hc.2.2
  have p1 : Path f (y :: l) z := p1
  have p2 : Path f (z :: r) y := p2
  have zl : z ∉ (y :: l) := fun m => n3 z m z List.mem_cons_self rfl
  have yr : y ∉ (z :: r) := fun m => n3 y List.mem_cons_self y m rfl
  have q1 : Path (PG.cut f a b y z) (y :: l) b := by
    refine path_sub p1 (fun m => zl (List.mem_cons_of_mem _ m)) (fun w mw m => ?_) fun w mw e => ?_
    · have m : f w ∈ l := m
      unfold PG.cut
      rw [if_neg (fun e : w = a => ma (List.mem_append_left _ (e ▸ mw))), if_neg (fun e : w = b => mb (List.mem_append_left _ (e ▸ mw))), if_neg (fun e : f w = y => (List.nodup_cons.mp n1).1 (e ▸ m)), if_neg (fun e : f w = z => zl (List.mem_cons_of_mem _ (e ▸ m)))]
    · unfold PG.cut
      rw [if_neg (fun e : w = a => ma (List.mem_append_left _ (e ▸ mw))), if_neg (fun e : w = b => mb (List.mem_append_left _ (e ▸ mw))), if_neg (fun e2 => yz (e2.symm.trans e)), if_pos e]
  have q2 : Path (PG.cut f a b y z) (z :: r) a := by
    refine path_sub p2 (fun m => yr (List.mem_cons_of_mem _ m)) (fun w mw m => ?_) fun w mw e => ?_
    · have m : f w ∈ r := m
      unfold PG.cut
      rw [if_neg (fun e : w = a => ma (List.mem_append_right _ (e ▸ mw))), if_neg (fun e : w = b => mb (List.mem_append_right _ (e ▸ mw))), if_neg (fun e : f w = y => yr (List.mem_cons_of_mem _ (e ▸ m))), if_neg (fun e : f w = z => (List.nodup_cons.mp n2).1 (e ▸ m))]
    · unfold PG.cut
      rw [if_neg (fun e : w = a => ma (List.mem_append_right _ (e ▸ mw))), if_neg (fun e : w = b => mb (List.mem_append_right _ (e ▸ mw))), if_pos e]
  have cb : PG.cut f a b y z b = y := by
    unfold PG.cut
    rw [if_neg (Ne.symm ab), if_pos rfl]
  have ca : PG.cut f a b y z a = z := by
    unfold PG.cut
    rw [if_pos rfl]
  refine ⟨fun c m => ?_, ?_, ?_⟩
  · rcases List.mem_cons.mp m with e | m
    · rw [e]
      refine ⟨by simp, ?_, path_app.mpr ⟨q1, cb, trivial⟩⟩
      exact List.nodup_append.mpr ⟨n1, by simp, fun w mw v mv e => mb (List.mem_append_left _ (by rw [← List.mem_singleton.mp mv, ← e]; exact mw))⟩
    · rcases List.mem_cons.mp m with e | m
      · rw [e]
        refine ⟨by simp, ?_, path_app.mpr ⟨q2, ca, trivial⟩⟩
        exact List.nodup_append.mpr ⟨n2, by simp, fun w mw v mv e => ma (List.mem_append_right _ (by rw [← List.mem_singleton.mp mv, ← e]; exact mw))⟩
      · have hd := h.cyc c (List.mem_cons_of_mem _ m)
        refine hd.congr fun w mw => ?_
        have nw := h.other m (f w) (hd.next mw)
        unfold PG.cut
        rw [if_neg (fun e : w = a => na c (List.mem_cons_of_mem _ m) (e ▸ mw)), if_neg (fun e : w = b => nb c (List.mem_cons_of_mem _ m) (e ▸ mw)), if_neg (fun e : f w = y => nw (by rw [e]; exact List.mem_append_left _ List.mem_cons_self)), if_neg (fun e : f w = z => nw (by rw [e]; exact List.mem_append_right _ List.mem_cons_self))]
  · have p := h.perm
    simp only [List.flatten_cons] at p ⊢
    refine List.Perm.trans ?_ (List.Perm.cons a (List.Perm.cons b p))
    have e1 : y :: l ++ [b] ++ (z :: r ++ [a] ++ ds.flatten) = (y :: l) ++ (b :: ((z :: r) ++ a :: ds.flatten)) := by simp
    rw [e1]
    refine (List.perm_middle).trans ?_
    refine List.Perm.trans ?_ (List.Perm.swap a b _)
    refine List.Perm.cons b ?_
    rw [← List.append_assoc]
    refine (List.perm_middle).trans ?_
    exact List.Perm.refl _
  · exact List.nodup_cons.mpr ⟨fun m => by rcases List.mem_cons.mp m with e | m; exact ab e; exact ha m, List.nodup_cons.mpr ⟨hb, h.nd⟩⟩
theorem Dec.alone {f : Nat → Nat} {D : List Nat} {ds : List (List Nat)} (h : Dec f D ds) {b : Nat} (hb : b ∉ D) (e : f b = b) : Dec f (b :: D) ([b] :: ds) := by
  refine ⟨fun c m => ?_, ?_, List.nodup_cons.mpr ⟨hb, h.nd⟩⟩
  · rcases List.mem_cons.mp m with z | m
    · rw [z]
      exact ⟨by simp, by simp, e, trivial⟩
    · exact h.cyc c m
  · rw [List.flatten_cons]
    exact List.Perm.cons b h.perm
theorem Dec.swap {f : Nat → Nat} {D D' : List Nat} {ds : List (List Nat)} (h : Dec f D ds) (p : D.Perm D') : Dec f D' ds := ⟨h.cyc, h.perm.trans p, p.nodup_iff.mp h.nd⟩
end PG
/-! ### turning orders -/
namespace PG
def nxtA (h : Nat) : List Nat → Nat → Nat
  | [], _ => 0
  | x :: l, d => if x = d then l.headD h else nxtA h l d
/-- the one behind d, around -/
def nxt (own : List Nat) (d : Nat) : Nat := nxtA (own.headD 0) own d
theorem nxtA_path (h : Nat) : ∀ {l : List Nat}, l.Nodup → Path (nxtA h l) l h
  | [], _ => trivial
  | x :: l, nd => by
    obtain ⟨n1, n2⟩ := List.nodup_cons.mp nd
    refine ⟨by rw [nxtA, if_pos rfl], path_congr (fun y m => ?_) (nxtA_path h n2)⟩
    rw [nxtA, if_neg (fun e : x = y => n1 (e ▸ m))]
theorem nxt_cyc {own : List Nat} (nd : own.Nodup) (ne : own ≠ []) : Cyc (nxt own) own := ⟨ne, nd, nxtA_path _ nd⟩
def fol : List (List Nat) → Nat → Nat
  | [], _ => 0
  | own :: ts, d => if d ∈ own then nxt own d else fol ts d
theorem fol_at : ∀ {ts : List (List Nat)}, ts.flatten.Nodup → ∀ {own : List Nat}, own ∈ ts → ∀ {d : Nat}, d ∈ own → fol ts d = nxt own d
  | [], _, _, m, _, _ => by cases m
  | o :: ts, nd, own, m, d, md => by
    rw [List.flatten_cons] at nd
    obtain ⟨n1, n2, n3⟩ := List.nodup_append.mp nd
    rw [fol]
    rcases List.mem_cons.mp m with e | m
    · rw [← e, if_pos md]
    · rw [if_neg (fun mo => n3 d mo d (List.mem_flatten.mpr ⟨own, m, md⟩) rfl), fol_at n2 m md]
theorem own_nodup {ts : List (List Nat)} (nd : ts.flatten.Nodup) {own : List Nat} (m : own ∈ ts) : own.Nodup := by
  obtain ⟨A, B, rfl⟩ := List.append_of_mem m
  rw [List.flatten_append, List.flatten_cons] at nd
  exact (List.nodup_append.mp (List.nodup_append.mp nd).2.1).1
theorem fol_cyc {ts : List (List Nat)} (nd : ts.flatten.Nodup) {own : List Nat} (m : own ∈ ts) (ne : own ≠ []) : Cyc (fol ts) own :=
  (nxt_cyc (own_nodup nd m) ne).congr fun _ mx => (fol_at nd m mx).symm
/-- what turns all darts as ts does is fol ts -/
theorem fol_det {ts : List (List Nat)} {D : List Nat} (p : ts.flatten.Perm D) (nd : D.Nodup) {g : Nat → Nat} (h : ∀ own ∈ ts, own ≠ [] → Cyc g own) : ∀ d ∈ D, fol ts d = g d := fun d m => by
  obtain ⟨own, mo, md⟩ := List.mem_flatten.mp (p.mem_iff.mpr m)
  have ne : own ≠ [] := List.ne_nil_of_mem md
  exact (fol_cyc (p.nodup_iff.mpr nd) mo ne).det (h own mo ne) d md
theorem split_at {α : Type} {ts : List α} {u : Nat} {own : α} (h : ts[u]? = some own) : ∃ A B, ts = A ++ own :: B ∧ A.length = u ∧ ∀ c, ts.set u c = A ++ c :: B := by
  obtain ⟨hu, e⟩ := List.getElem?_eq_some_iff.mp h
  refine ⟨ts.take u, ts.drop (u + 1), ?_, by rw [List.length_take]; omega, fun c => ?_⟩
  · rw [← e]
    exact (List.take_append_drop u ts).symm.trans (by rw [List.drop_eq_getElem_cons hu])
  · rw [List.set_eq_take_append_cons_drop, if_pos hu]
/-- a new dart ahead of y -/
theorem ins_turn {ts : List (List Nat)} {D : List Nat} (p : ts.flatten.Perm D) (nd : D.Nodup) {u x y : Nat} {l r : List Nat} (h : ts[u]? = some (l ++ y :: r)) (hx : x ∉ D) : (ts.set u (l ++ x :: y :: r)).flatten.Perm (x :: D) ∧ ∀ d ∈ x :: D, fol (ts.set u (l ++ x :: y :: r)) d = ins (fol ts) x y d := by
  obtain ⟨A, B, rfl, hA, hs⟩ := split_at h
  rw [hs]
  have p' : (A ++ (l ++ x :: y :: r) :: B).flatten.Perm (x :: D) := by
    refine List.Perm.trans ?_ (List.Perm.cons x p)
    simp only [List.flatten_append, List.flatten_cons]
    have e1 : A.flatten ++ (l ++ x :: y :: r ++ B.flatten) = (A.flatten ++ l) ++ x :: (y :: r ++ B.flatten) := by simp
    have e2 : A.flatten ++ (l ++ y :: r ++ B.flatten) = (A.flatten ++ l) ++ (y :: r ++ B.flatten) := by simp
    rw [e1, e2]
    exact List.perm_middle
  have nf := p.nodup_iff.mpr nd
  have hm : ∀ own ∈ A ++ (l ++ y :: r) :: B, x ∉ own := fun own m mx => hx (p.mem_iff.mp (List.mem_flatten.mpr ⟨own, m, mx⟩))
  have hmid : (l ++ y :: r) ∈ A ++ (l ++ y :: r) :: B := by simp
  refine ⟨p', fol_det p' (List.nodup_cons.mpr ⟨hx, nd⟩) fun own m ne => ?_⟩
  have other : own ∈ A ++ (l ++ y :: r) :: B → y ∉ own → Cyc (ins (fol (A ++ (l ++ y :: r) :: B)) x y) own := fun m ny => (fol_cyc nf m ne).ins_other (hm own m) ny
  have dis : ∀ own, own ∈ A ∨ own ∈ B → y ∉ own := fun own m my => by
    rw [List.flatten_append, List.flatten_cons] at nf
    obtain ⟨n1, n2, n3⟩ := List.nodup_append.mp nf
    rcases m with m | m
    · exact n3 y (List.mem_flatten.mpr ⟨own, m, my⟩) y (List.mem_append_left _ (by simp)) rfl
    · exact (List.nodup_append.mp n2).2.2 y (by simp) y (List.mem_flatten.mpr ⟨own, m, my⟩) rfl
  rcases List.mem_append.mp m with m | m
  · exact other (List.mem_append_left _ m) (dis own (.inl m))
  · rcases List.mem_cons.mp m with e | m
    · rw [e]
      exact (fol_cyc nf hmid (by simp)).ins (hm _ hmid)
    · exact other (List.mem_append_right _ (List.mem_cons_of_mem _ m)) (dis own (.inr m))
theorem add_turn {ts : List (List Nat)} {D : List Nat} (p : ts.flatten.Perm D) (nd : D.Nodup) {x : Nat} (hx : x ∉ D) : (ts ++ [[x]]).flatten.Perm (x :: D) ∧ ∀ d ∈ x :: D, fol (ts ++ [[x]]) d = if d = x then x else fol ts d := by
  have p' : (ts ++ [[x]]).flatten.Perm (x :: D) := by
    rw [List.flatten_append]
    refine List.perm_append_comm.trans ?_
    exact List.Perm.cons x p
  have nf := p.nodup_iff.mpr nd
  refine ⟨p', fol_det p' (List.nodup_cons.mpr ⟨hx, nd⟩) fun own m ne => ?_⟩
  rcases List.mem_append.mp m with m | m
  · refine (fol_cyc nf m ne).congr fun d md => ?_
    rw [if_neg (fun e : d = x => hx (p.mem_iff.mp (List.mem_flatten.mpr ⟨own, m, e ▸ md⟩)))]
  · rw [List.mem_singleton.mp m]
    refine ⟨by simp, by simp, ?_, trivial⟩
    show (if x = x then x else fol ts x) = x
    rw [if_pos rfl]
/-! ### faces -/
def phi (f : Nat → Nat) (d : Nat) : Nat := f (d ^^^ 1)
theorem xor1 (d : Nat) : d ^^^ 1 = if d % 2 = 0 then d + 1 else d - 1 := by
  have h1 : (d ^^^ 1) / 2 = d / 2 := by
    have := Nat.xor_div_two (a := d) (b := 1)
    rw [this]
    simp
  have h2 := Nat.xor_mod_two_eq_one (a := d) (b := 1)
  have h3 : (1 : Nat) % 2 = 1 := rfl
  generalize d ^^^ 1 = e at *
  by_cases h4 : d % 2 = 0
  · rw [if_pos h4]
    have : e % 2 = 1 := h2.mpr fun w => by have := w.mpr h3; omega
    omega
  · rw [if_neg h4]
    have : ¬ e % 2 = 1 := fun w => h2.mp w ⟨fun _ => h3, fun _ => by omega⟩
    omega
theorem xor1_lt {d m : Nat} (h : d < 2 * m) : d ^^^ 1 < 2 * m := by
  rw [xor1]
  split <;> omega
theorem xor1_xor1 (d : Nat) : d ^^^ 1 ^^^ 1 = d := by
  rw [xor1, xor1]
  split <;> split <;> omega
theorem xor1_a (m : Nat) : (2 * m) ^^^ 1 = 2 * m + 1 := by
  rw [xor1]
  split <;> omega
theorem xor1_b (m : Nat) : (2 * m + 1) ^^^ 1 = 2 * m := by
  rw [xor1]
  split <;> omega
theorem not_a (m : Nat) : 2 * m ∉ List.range (2 * m) := by simp
theorem not_b (m : Nat) : 2 * m + 1 ∉ List.range (2 * m) := by simp
theorem not_ba (m : Nat) : 2 * m + 1 ∉ 2 * m :: List.range (2 * m) := by simp
theorem range_ba (m : Nat) : ((2 * m + 1) :: 2 * m :: List.range (2 * m)).Perm (List.range (2 * (m + 1))) := by
  have e : List.range (2 * (m + 1)) = List.range (2 * m) ++ [2 * m] ++ [2 * m + 1] := by
    rw [show 2 * (m + 1) = 2 * m + 1 + 1 by omega, List.range_succ, List.range_succ]
  rw [e]
  refine List.Perm.trans (List.Perm.cons _ ?_) (List.perm_append_comm (l₁ := [2 * m + 1]))
  exact List.perm_append_comm (l₁ := [2 * m])
theorem range_ab (m : Nat) : (2 * m :: (2 * m + 1) :: List.range (2 * m)).Perm (List.range (2 * (m + 1))) := (List.Perm.swap _ _ _).trans (range_ba m)
/-- the faces behind a leaf -/
theorem leaf_dec {f g : Nat → Nat} {m y : Nat} {l : List Nat} {ds : List (List Nat)} (h : Dec (phi f) (List.range (2 * m)) ((y :: l) :: ds)) (hg : ∀ d ∈ (2 * m + 1) :: 2 * m :: List.range (2 * m), g d = if d = 2 * m + 1 then 2 * m + 1 else ins f (2 * m) y d) : Dec (phi g) (List.range (2 * (m + 1))) ((2 * m :: (2 * m + 1) :: y :: l) :: ds) := by
  have hy : y < 2 * m := List.mem_range.mp (h.mem.mp ⟨_, List.mem_cons_self, List.mem_cons_self⟩)
  have h1 := h.ins (not_b m)
  have h2 := h1.ins (x := 2 * m) (by simp)
  refine (h2.congr fun d md => ?_).swap (range_ab m)
  rcases List.mem_cons.mp md with e | md
  · subst e
    show _ = g ((2 * m) ^^^ 1)
    rw [xor1_a, hg _ (by simp), if_pos rfl]
    unfold ins
    rw [if_pos rfl]
  · rcases List.mem_cons.mp md with e | md
    · subst e
      show _ = g ((2 * m + 1) ^^^ 1)
      rw [xor1_b, hg _ (by simp), if_neg (by omega)]
      unfold ins
      rw [if_neg (show 2 * m + 1 ≠ 2 * m by omega), if_pos rfl, if_neg (show y ≠ 2 * m + 1 by omega), if_pos rfl]
    · have hd := List.mem_range.mp md
      have hx := xor1_lt hd
      show _ = g (d ^^^ 1)
      rw [hg _ (by simp [hx]), if_neg (by omega)]
      have hf : phi f d < 2 * m := by
        obtain ⟨c, mc, mdc⟩ := h.mem.mpr md
        exact List.mem_range.mp (h.mem.mp ⟨c, mc, (h.cyc c mc).next mdc⟩)
      unfold ins
      rw [show f (d ^^^ 1) = phi f d from rfl, if_neg (show d ≠ 2 * m by omega), if_neg (show d ≠ 2 * m + 1 by omega), if_neg (show d ^^^ 1 ≠ 2 * m by omega)]
      by_cases e : phi f d = y
      · rw [if_pos e, if_pos e, if_pos rfl]
      · rw [if_neg e, if_neg e, if_neg (show phi f d ≠ 2 * m + 1 by omega)]
/-- the faces behind an edge between two places of a face -/
theorem edge_dec {f g : Nat → Nat} {m y z : Nat} {l r : List Nat} {ds : List (List Nat)} (h : Dec (phi f) (List.range (2 * m)) ((y :: l ++ z :: r) :: ds)) (hg : ∀ d ∈ (2 * m + 1) :: 2 * m :: List.range (2 * m), g d = ins (ins f (2 * m) y) (2 * m + 1) z d) : Dec (phi g) (List.range (2 * (m + 1))) ((y :: l ++ [2 * m + 1]) :: (z :: r ++ [2 * m]) :: ds) := by
  have hy : y < 2 * m := List.mem_range.mp (h.mem.mp ⟨_, List.mem_cons_self, by simp⟩)
  have hz : z < 2 * m := List.mem_range.mp (h.mem.mp ⟨_, List.mem_cons_self, by simp⟩)
  have nd := (h.cyc _ List.mem_cons_self).2.1
  have yz : y ≠ z := fun e => (List.nodup_append.mp nd).2.2 y List.mem_cons_self z List.mem_cons_self e
  have h2 := h.cut (not_a m) (not_b m) (by omega)
  refine (h2.congr fun d md => ?_).swap (range_ab m)
  rcases List.mem_cons.mp md with e | md
  · subst e
    show _ = g ((2 * m) ^^^ 1)
    rw [xor1_a, hg _ (by simp)]
    unfold cut ins
    rw [if_pos rfl, if_pos rfl]
  · rcases List.mem_cons.mp md with e | md
    · subst e
      show _ = g ((2 * m + 1) ^^^ 1)
      rw [xor1_b, hg _ (by simp)]
      unfold cut ins
      rw [if_neg (show 2 * m + 1 ≠ 2 * m by omega), if_pos rfl, if_neg (show 2 * m ≠ 2 * m + 1 by omega), if_pos rfl, if_neg yz]
    · have hd := List.mem_range.mp md
      have hx := xor1_lt hd
      show _ = g (d ^^^ 1)
      rw [hg _ (by simp [hx])]
      unfold cut ins
      rw [show f (d ^^^ 1) = phi f d from rfl, if_neg (show d ≠ 2 * m by omega), if_neg (show d ≠ 2 * m + 1 by omega), if_neg (show d ^^^ 1 ≠ 2 * m + 1 by omega), if_neg (show d ^^^ 1 ≠ 2 * m by omega)]
      by_cases e : phi f d = y
      · rw [if_pos e, if_pos e, if_neg (show 2 * m ≠ z by omega)]
      · rw [if_neg e, if_neg e]
/-- the faces behind a loop in one place -/
theorem loop_dec {f g : Nat → Nat} {m y : Nat} {l : List Nat} {ds : List (List Nat)} (h : Dec (phi f) (List.range (2 * m)) ((y :: l) :: ds)) (hg : ∀ d ∈ (2 * m + 1) :: 2 * m :: List.range (2 * m), g d = ins (ins f (2 * m) y) (2 * m + 1) y d) : Dec (phi g) (List.range (2 * (m + 1))) ([2 * m + 1] :: (2 * m :: y :: l) :: ds) := by
  have hy : y < 2 * m := List.mem_range.mp (h.mem.mp ⟨_, List.mem_cons_self, List.mem_cons_self⟩)
  have h1 := h.ins (not_a m)
  have h2 : Dec (phi g) (2 * m :: List.range (2 * m)) ((2 * m :: y :: l) :: ds) := h1.congr fun d md => by
    rcases List.mem_cons.mp md with e | md
    · subst e
      show _ = g ((2 * m) ^^^ 1)
      rw [xor1_a, hg _ (by simp)]
      unfold ins
      rw [if_pos rfl, if_pos rfl]
    · have hd := List.mem_range.mp md
      have hx := xor1_lt hd
      show _ = g (d ^^^ 1)
      rw [hg _ (by simp [hx])]
      unfold ins
      rw [show f (d ^^^ 1) = phi f d from rfl, if_neg (show d ≠ 2 * m by omega), if_neg (show d ^^^ 1 ≠ 2 * m + 1 by omega), if_neg (show d ^^^ 1 ≠ 2 * m by omega)]
      by_cases e : phi f d = y
      · rw [if_pos e, if_neg (show 2 * m ≠ y by omega)]
      · rw [if_neg e, if_neg e]
  refine (h2.alone (not_ba m) ?_).swap (range_ba m)
  show g ((2 * m + 1) ^^^ 1) = _
  rw [xor1_b, hg _ (by simp)]
  unfold ins
  rw [if_neg (by omega), if_pos rfl, if_pos rfl]
/-! ### plane graphs -/
structure Pg (es : List (Nat × Nat)) (ts : List (List Nat)) : Prop where
  perm : ts.flatten.Perm (List.range (2 * es.length))
  org : ∀ (k u v : Nat), es[k]? = some (u, v) → (∃ l, ts[u]? = some l ∧ 2 * k ∈ l) ∧ ∃ l, ts[v]? = some l ∧ 2 * k + 1 ∈ l
  n1 : 1 ≤ ts.length
  conn : ∀ S : Nat → Prop, S 0 → (∀ e ∈ es, S e.1 ↔ S e.2) → ∀ w < ts.length, S w
  euler : es ≠ [] → ∃ cs, Dec (phi (fol ts)) (List.range (2 * es.length)) cs ∧ cs.length + ts.length = 2 + es.length
  nil : es = [] → ts = [[]]
theorem org_keep {es : List (Nat × Nat)} {ts ts' : List (List Nat)} (h : ∀ (k u v : Nat), es[k]? = some (u, v) → (∃ l, ts[u]? = some l ∧ 2 * k ∈ l) ∧ ∃ l, ts[v]? = some l ∧ 2 * k + 1 ∈ l) (hk : ∀ (u d : Nat), (∃ l, ts[u]? = some l ∧ d ∈ l) → ∃ l, ts'[u]? = some l ∧ d ∈ l) {u v : Nat} (ha : ∃ l, ts'[u]? = some l ∧ 2 * es.length ∈ l) (hb : ∃ l, ts'[v]? = some l ∧ 2 * es.length + 1 ∈ l) :
    ∀ (k u' v' : Nat), (es ++ [(u, v)])[k]? = some (u', v') → (∃ l, ts'[u']? = some l ∧ 2 * k ∈ l) ∧ ∃ l, ts'[v']? = some l ∧ 2 * k + 1 ∈ l := fun k u' v' e => by
  rcases Nat.lt_trichotomy k es.length with hl | hl | hl
  · rw [List.getElem?_append_left hl] at e
    obtain ⟨h1, h2⟩ := h k u' v' e
    exact ⟨hk _ _ h1, hk _ _ h2⟩
  · subst hl
    rw [List.getElem?_append_right (Nat.le_refl _), Nat.sub_self] at e
    have e : (u, v) = (u', v') := Option.some.inj e
    obtain ⟨rfl, rfl⟩ := Prod.mk.inj e
    exact ⟨ha, hb⟩
  · rw [List.getElem?_eq_none (by rw [List.length_append, List.length_singleton]; omega)] at e
    cases e
theorem set_keep {ts : List (List Nat)} {u : Nat} {l r : List Nat} {x y : Nat} (h : ts[u]? = some (l ++ y :: r)) (w d : Nat) (hd : ∃ o, ts[w]? = some o ∧ d ∈ o) : ∃ o, (ts.set u (l ++ x :: y :: r))[w]? = some o ∧ d ∈ o := by
  obtain ⟨o, h1, h2⟩ := hd
  rw [List.getElem?_set]
  by_cases e : u = w
  · subst e
    rw [h] at h1
    obtain rfl := Option.some.inj h1
    have := (List.getElem?_eq_some_iff.mp h).1
    rw [if_pos rfl, if_pos this]
    exact ⟨_, rfl, by simp at h2 ⊢; rcases h2 with z | z | z <;> simp [z]⟩
  · rw [if_neg e]
    exact ⟨o, h1, h2⟩
theorem Pg.leaf {es : List (Nat × Nat)} {ts : List (List Nat)} (h : Pg es ts) (ne : es ≠ []) {u y : Nat} {l r : List Nat} (hu : ts[u]? = some (l ++ y :: r)) : Pg (es ++ [(u, ts.length)]) (ts.set u (l ++ 2 * es.length :: y :: r) ++ [[2 * es.length + 1]]) := by
  have ul := (List.getElem?_eq_some_iff.mp hu).1
  obtain ⟨p1, g1⟩ := ins_turn h.perm List.nodup_range hu (not_a es.length)
  have nd1 : (2 * es.length :: List.range (2 * es.length)).Nodup := List.nodup_cons.mpr ⟨not_a _, List.nodup_range⟩
  obtain ⟨p2, g2⟩ := add_turn p1 nd1 (not_ba es.length)
  have le : (es ++ [(u, ts.length)]).length = es.length + 1 := by rw [List.length_append]; rfl
  have lt : (ts.set u (l ++ 2 * es.length :: y :: r) ++ [[2 * es.length + 1]]).length = ts.length + 1 := by rw [List.length_append, List.length_set]; rfl
  refine ⟨?_, org_keep h.org (fun w d hd => ?_) ?_ ?_, by omega, fun S h0 hS w hw => ?_, fun _ => ?_, fun z => by simp at z⟩
  · rw [le]
    exact p2.trans (range_ba _)
  · obtain ⟨o, h1, h2⟩ := set_keep (x := 2 * es.length) hu w d hd
    exact ⟨o, by rw [List.getElem?_append_left (List.getElem?_eq_some_iff.mp h1).1]; exact h1, h2⟩
  · refine ⟨l ++ 2 * es.length :: y :: r, ?_, by simp⟩
    rw [List.getElem?_append_left (by rw [List.length_set]; exact ul), List.getElem?_set, if_pos rfl, if_pos ul]
  · refine ⟨[2 * es.length + 1], ?_, by simp⟩
    rw [List.getElem?_append_right (by rw [List.length_set]; exact Nat.le_refl _), List.length_set, Nat.sub_self]
    rfl
  · rw [lt] at hw
    have old := h.conn S h0 fun e m => hS e (List.mem_append_left _ m)
    by_cases e : w < ts.length
    · exact old w e
    · have : w = ts.length := by omega
      subst this
      exact (hS (u, ts.length) (by simp)).mp (old u ul)
  · obtain ⟨cs, hd, hc⟩ := h.euler ne
    have hy : y ∈ List.range (2 * es.length) := h.perm.mem_iff.mp (List.mem_flatten.mpr ⟨_, List.mem_of_getElem? hu, by simp⟩)
    obtain ⟨c, mc, my⟩ := hd.mem.mpr hy
    obtain ⟨L, ds, hf, hl, _⟩ := hd.front mc my
    rw [le, lt]
    refine ⟨_, leaf_dec hf fun d md => ?_, ?_⟩
    · rw [g2 d md]
      by_cases e : d = 2 * es.length + 1
      · rw [if_pos e, if_pos e]
      · rw [if_neg e, if_neg e]
        exact g1 d (by
          rcases List.mem_cons.mp md with z | z
          · exact absurd z e
          · exact z)
    · rw [List.length_cons]
      omega
theorem Pg.edge {es : List (Nat × Nat)} {ts : List (List Nat)} (h : Pg es ts) {u v y z : Nat} {l r l' r' : List Nat} (hu : ts[u]? = some (l ++ y :: r)) (hv : (ts.set u (l ++ 2 * es.length :: y :: r))[v]? = some (l' ++ z :: r')) (hz0 : z < 2 * es.length)
    {cs : List (List Nat)} (hd : Dec (phi (fol ts)) (List.range (2 * es.length)) cs) {c : List Nat} (mc : c ∈ cs) (my : y ∈ c) (mz : z ∈ c) : Pg (es ++ [(u, v)]) ((ts.set u (l ++ 2 * es.length :: y :: r)).set v (l' ++ (2 * es.length + 1) :: z :: r')) := by
  have ul := (List.getElem?_eq_some_iff.mp hu).1
  have vl := (List.getElem?_eq_some_iff.mp hv).1
  have hy0 : y < 2 * es.length := List.mem_range.mp (hd.mem.mp ⟨c, mc, my⟩)
  have ne : es ≠ [] := fun z => by
    rw [z] at hy0
    exact Nat.not_lt_zero _ hy0
  obtain ⟨p1, g1⟩ := ins_turn h.perm List.nodup_range hu (not_a es.length)
  have nd1 : (2 * es.length :: List.range (2 * es.length)).Nodup := List.nodup_cons.mpr ⟨not_a _, List.nodup_range⟩
  obtain ⟨p2, g2⟩ := ins_turn p1 nd1 hv (not_ba es.length)
  have le : (es ++ [(u, v)]).length = es.length + 1 := by rw [List.length_append]; rfl
  have lt : ((ts.set u (l ++ 2 * es.length :: y :: r)).set v (l' ++ (2 * es.length + 1) :: z :: r')).length = ts.length := by rw [List.length_set, List.length_set]
  have n1 := h.n1
  have hg : ∀ d ∈ (2 * es.length + 1) :: 2 * es.length :: List.range (2 * es.length), fol ((ts.set u (l ++ 2 * es.length :: y :: r)).set v (l' ++ (2 * es.length + 1) :: z :: r')) d = ins (ins (fol ts) (2 * es.length) y) (2 * es.length + 1) z d := fun d md => by
    rw [g2 d md]
    unfold ins
    by_cases e : d = 2 * es.length + 1
    · rw [if_pos e, if_pos e]
    · rw [if_neg e, if_neg e, g1 d (by
        rcases List.mem_cons.mp md with q | q
        · exact absurd q e
        · exact q)]
      rfl
  refine ⟨?_, org_keep h.org (fun w d hd => set_keep hv w d (set_keep hu w d hd)) ?_ ?_, by omega, fun S h0 hS w hw => ?_, fun _ => ?_, fun z => by simp at z⟩
  · rw [le]
    exact p2.trans (range_ba _)
  · refine set_keep hv u _ ⟨l ++ 2 * es.length :: y :: r, ?_, by simp⟩
    rw [List.getElem?_set, if_pos rfl, if_pos ul]
  · refine ⟨l' ++ (2 * es.length + 1) :: z :: r', ?_, by simp⟩
    rw [List.getElem?_set, if_pos rfl, if_pos vl]
  · rw [lt] at hw
    exact h.conn S h0 (fun e m => hS e (List.mem_append_left _ m)) w hw
  · obtain ⟨cs2, hd2, hc⟩ := h.euler ne
    have hlen := hd.length hd2
    obtain ⟨L, ds, hf, hl, hmem⟩ := hd.front mc my
    rw [le, lt]
    by_cases e : y = z
    · subst e
      refine ⟨_, loop_dec hf hg, ?_⟩
      rw [List.length_cons, List.length_cons]
      omega
    · have mL : z ∈ L := by
        rcases List.mem_cons.mp ((hmem z).mpr mz) with q | q
        · exact absurd q.symm e
        · exact q
      obtain ⟨L1, L2, rfl⟩ := List.append_of_mem mL
      refine ⟨_, edge_dec (l := L1) (r := L2) hf hg, ?_⟩
      rw [List.length_cons, List.length_cons]
      omega
theorem Pg.zero : Pg [] [[]] := by
  refine ⟨List.Perm.refl _, fun k u v e => by simp at e, by decide, fun S h0 _ w hw => ?_, fun h => absurd rfl h, fun _ => rfl⟩
  have : w = 0 := by
    have : w < 1 := hw
    omega
  rw [this]
  exact h0
theorem Pg.leaf0 : Pg [(0, 1)] [[0], [1]] := by
  refine ⟨List.Perm.refl _, fun k u v e => ?_, by decide, fun S h0 hS w hw => ?_, fun _ => ⟨[[0, 1]], ⟨fun c m => ?_, List.Perm.refl _, List.nodup_range⟩, rfl⟩, fun z => by simp at z⟩
  · match k with
    | 0 =>
      have e : (0, 1) = (u, v) := Option.some.inj e
      obtain ⟨rfl, rfl⟩ := Prod.mk.inj e
      exact ⟨⟨[0], rfl, by simp⟩, [1], rfl, by simp⟩
    | k + 1 => simp at e
  · have h1 := (hS (0, 1) (by simp)).mp h0
    have : w < 2 := hw
    have : w = 0 ∨ w = 1 := by omega
    rcases this with e | e <;> rw [e]
    · exact h0
    · exact h1
  · rw [List.mem_singleton.mp m]
    exact ⟨by simp, by simp, by decide, by decide, trivial⟩
theorem Pg.loop0 : Pg [(0, 0)] [[0, 1]] := by
  refine ⟨List.Perm.refl _, fun k u v e => ?_, by decide, fun S h0 hS w hw => ?_, fun _ => ⟨[[0], [1]], ⟨fun c m => ?_, List.Perm.refl _, List.nodup_range⟩, rfl⟩, fun z => by simp at z⟩
  · match k with
    | 0 =>
      have e : (0, 0) = (u, v) := Option.some.inj e
      obtain ⟨rfl, rfl⟩ := Prod.mk.inj e
      exact ⟨⟨[0, 1], rfl, by simp⟩, [0, 1], rfl, by simp⟩
    | k + 1 => simp at e
  · have : w < 1 := hw
    have : w = 0 := by omega
    rw [this]
    exact h0
  · simp only [List.mem_cons, List.not_mem_nil, or_false] at m
    rcases m with e | e <;> rw [e]
    · exact ⟨by simp, by simp, by decide, trivial⟩
    · exact ⟨by simp, by simp, by decide, trivial⟩
end PG
/-! ### faces as they are found -/
namespace PG
structure Pmu (f : Nat → Nat) (N : Nat) : Prop where
  lt : ∀ d < N, f d < N
  inj : ∀ a < N, ∀ b < N, f a = f b → a = b
theorem flat_filter : ∀ ts : List (List Nat), (ts.filter fun l => !l.isEmpty).flatten = ts.flatten
  | [] => rfl
  | [] :: ts => by
    rw [List.filter_cons_of_neg (by simp), flat_filter ts]
    rfl
  | (x :: l) :: ts => by
    rw [List.filter_cons_of_pos (by simp), List.flatten_cons, List.flatten_cons, flat_filter ts]
theorem fol_dec {ts : List (List Nat)} {D : List Nat} (p : ts.flatten.Perm D) (nd : D.Nodup) : Dec (fol ts) D (ts.filter fun l => !l.isEmpty) := by
  refine ⟨fun c m => ?_, by rw [flat_filter]; exact p, nd⟩
  obtain ⟨h1, h2⟩ := List.mem_filter.mp m
  exact fol_cyc (p.nodup_iff.mpr nd) h1 (fun z => by rw [z] at h2; simp at h2)
theorem fol_pmu {ts : List (List Nat)} {N : Nat} (p : ts.flatten.Perm (List.range N)) : Pmu (fol ts) N := by
  have h := fol_dec p List.nodup_range
  refine ⟨fun d hd => ?_, fun a ha b hb e => h.inj (List.mem_range.mpr ha) (List.mem_range.mpr hb) e⟩
  obtain ⟨c, mc, md⟩ := h.mem.mpr (List.mem_range.mpr hd)
  exact List.mem_range.mp (h.mem.mp ⟨c, mc, (h.cyc c mc).next md⟩)
theorem phi_pmu {ts : List (List Nat)} {m : Nat} (p : ts.flatten.Perm (List.range (2 * m))) : Pmu (phi (fol ts)) (2 * m) := by
  have h := fol_pmu p
  refine ⟨fun d hd => h.lt _ (xor1_lt hd), fun a ha b hb e => ?_⟩
  have := h.inj _ (xor1_lt ha) _ (xor1_lt hb) e
  have := congrArg (fun d => d ^^^ 1) this
  rwa [xor1_xor1, xor1_xor1] at this
structure TrOk (f : Nat → Nat) (N i : Nat) (fs : List (List Nat)) : Prop where
  cyc : ∀ c ∈ fs, Cyc f c
  nd : fs.flatten.Nodup
  lt : ∀ x ∈ fs.flatten, x < N
  all : ∀ x < i, x ∈ fs.flatten
  least : ∀ c ∈ fs, ∀ x ∈ c, c.headD 0 ≤ x
  asc : (fs.map fun c => c.headD 0).Pairwise (· < ·)
  hd : ∀ c ∈ fs, c.headD 0 < i
theorem TrOk.zero (f : Nat → Nat) (N : Nat) : TrOk f N 0 [] := ⟨fun c m => (by cases m), List.nodup_nil, fun x m => (by cases m), fun x h => absurd h (Nat.not_lt_zero _), fun c m => (by cases m), List.Pairwise.nil, fun c m => (by cases m)⟩
theorem TrOk.fin {f : Nat → Nat} {N : Nat} {fs : List (List Nat)} (h : TrOk f N N fs) : Fcs f (List.range N) fs := by
  refine ⟨⟨h.cyc, ?_, List.nodup_range⟩, h.least, h.asc⟩
  exact (List.perm_ext_iff_of_nodup h.nd List.nodup_range).mpr fun x => ⟨fun m => List.mem_range.mpr (h.lt x m), fun m => h.all x (List.mem_range.mp m)⟩
structure InOk (f : Nat → Nat) (N i : Nat) (fs : List (List Nat)) (t : List Nat) (cur : Nat) : Prop where
  nd : t.Nodup
  dis : ∀ x ∈ t, x ∉ fs.flatten
  lt : ∀ x ∈ t, x < N
  cl : cur < N
  nil : t = [] → cur = i
  path : t ≠ [] → t.headD 0 = i ∧ Path f t cur
theorem InOk.zero {f : Nat → Nat} {N i : Nat} {fs : List (List Nat)} (hi : i < N) : InOk f N i fs [] i := ⟨List.nodup_nil, fun x m => (by cases m), fun x m => (by cases m), hi, fun _ => rfl, fun h => absurd rfl h⟩
theorem InOk.len {f : Nat → Nat} {N i : Nat} {fs : List (List Nat)} {t : List Nat} {cur : Nat} (h : InOk f N i fs t cur) : t.length ≤ N := by
  have := List.Nodup.length_le_of_subset (l₂ := List.range N) h.nd fun x m => List.mem_range.mpr (h.lt x m)
  rwa [List.length_range] at this
theorem InOk.step {f : Nat → Nat} {N i : Nat} {fs : List (List Nat)} {t : List Nat} {cur : Nat} (P : Pmu f N) (h : InOk f N i fs t cur) (n1 : cur ∉ fs.flatten) (n2 : cur ∉ t) : InOk f N i fs (t ++ [cur]) (f cur) := by
  refine ⟨?_, fun x m => ?_, fun x m => ?_, P.lt _ h.cl, fun z => by simp at z, fun _ => ⟨?_, path_app.mpr ⟨?_, rfl, trivial⟩⟩⟩
  · exact List.nodup_append.mpr ⟨h.nd, by simp, fun a ha b hb e => n2 (by rw [← List.mem_singleton.mp hb, ← e]; exact ha)⟩
  · rcases List.mem_append.mp m with m | m
    · exact h.dis x m
    · rw [List.mem_singleton.mp m]
      exact n1
  · rcases List.mem_append.mp m with m | m
    · exact h.lt x m
    · rw [List.mem_singleton.mp m]
      exact h.cl
  · by_cases e : t = []
    · rw [e]
      exact h.nil e
    · rw [headD_app, headD_ne e _ 0]
      exact (h.path e).1
  · by_cases e : t = []
    · rw [e]
      trivial
    · exact (h.path e).2
theorem flat_snoc (fs : List (List Nat)) (t : List Nat) : (fs ++ [t]).flatten = fs.flatten ++ t := by simp
theorem path_in {f : Nat → Nat} : ∀ {t : List Nat} {e : Nat} {u v : List Nat} {c : Nat}, Path f t e → t = u ++ c :: v → u ≠ [] → ∃ y ∈ u, f y = c := fun {t e u v c} h et hu => by
  rw [et] at h
  exact path_last hu (path_app.mp h).1
/-- the walk ends where it began -/
theorem InOk.stop {f : Nat → Nat} {N i : Nat} {fs : List (List Nat)} {t : List Nat} {cur : Nat} (P : Pmu f N) (T : TrOk f N i fs) (hi : i < N) (h : InOk f N i fs t cur) (m : cur ∈ fs.flatten ∨ cur ∈ t) : TrOk f N (i + 1) (if t = [] then fs else fs ++ [t]) := by
  by_cases e : t = []
  · rw [if_pos e]
    have ec := h.nil e
    rw [e, ec] at m
    have mi : i ∈ fs.flatten := m.resolve_right List.not_mem_nil
    exact ⟨T.cyc, T.nd, T.lt, fun x hx => by
      by_cases q : x = i
      · rw [q]
        exact mi
      · exact T.all x (by omega), T.least, T.asc, fun c mc => Nat.lt_succ_of_lt (T.hd c mc)⟩
  · rw [if_neg e]
    obtain ⟨e1, p⟩ := h.path e
    obtain ⟨y, my, ey⟩ := path_last e p
    have n1 : cur ∉ fs.flatten := fun m => by
      obtain ⟨c, mc, mx⟩ := List.mem_flatten.mp m
      obtain ⟨z, mz, ez⟩ := (T.cyc c mc).pred mx
      have hz := T.lt z (List.mem_flatten.mpr ⟨c, mc, mz⟩)
      have := P.inj y (h.lt y my) z hz (ey.trans ez.symm)
      rw [← this] at mz
      exact h.dis y my (List.mem_flatten.mpr ⟨c, mc, mz⟩)
    have m2 := m.resolve_left n1
    have hcyc : cur = i := by
      obtain ⟨u, v, et⟩ := List.append_of_mem m2
      by_cases hu : u = []
      · rw [← e1, et, hu]
        rfl
      · exfalso
        obtain ⟨z, mz, ez⟩ := path_in p et hu
        have p2 := p
        rw [et] at p2
        obtain ⟨w, mw, ew⟩ := path_last (by simp) (path_app.mp p2).2
        have hz := h.lt z (by rw [et]; exact List.mem_append_left _ mz)
        have hw := h.lt w (by rw [et]; exact List.mem_append_right _ mw)
        have := P.inj z hz w hw (ez.trans ew.symm)
        have nd := h.nd
        rw [et] at nd
        exact (List.nodup_append.mp nd).2.2 z mz w mw this
    rw [hcyc] at p
    have cy : Cyc f t := ⟨e, h.nd, by rw [e1]; exact p⟩
    have mi : i ∈ t := by
      rw [← e1]
      exact headD_mem e 0
    have ge : ∀ x ∈ t, i ≤ x := fun x mx => Nat.not_lt.mp fun hx => h.dis x mx (T.all x hx)
    refine ⟨fun c mc => ?_, ?_, fun x mx => ?_, fun x hx => ?_, fun c mc => ?_, ?_, fun c mc => ?_⟩
    · rcases List.mem_append.mp mc with mc | mc
      · exact T.cyc c mc
      · rw [List.mem_singleton.mp mc]
        exact cy
    · rw [flat_snoc]
      exact List.nodup_append.mpr ⟨T.nd, h.nd, fun a ha b hb e => h.dis b hb (e ▸ ha)⟩
    · rw [flat_snoc] at mx
      rcases List.mem_append.mp mx with mx | mx
      · exact T.lt x mx
      · exact h.lt x mx
    · rw [flat_snoc]
      by_cases q : x = i
      · rw [q]
        exact List.mem_append_right _ mi
      · exact List.mem_append_left _ (T.all x (by omega))
    · rcases List.mem_append.mp mc with mc | mc
      · exact T.least c mc
      · rw [List.mem_singleton.mp mc, e1]
        exact ge
    · rw [List.map_append]
      refine List.pairwise_append.mpr ⟨T.asc, by simp, fun a ha b hb => ?_⟩
      obtain ⟨c, mc, rfl⟩ := List.mem_map.mp ha
      have hb : b = t.headD 0 := List.mem_singleton.mp hb
      rw [hb, e1]
      exact T.hd c mc
    · rcases List.mem_append.mp mc with mc | mc
      · exact Nat.lt_succ_of_lt (T.hd c mc)
      · rw [List.mem_singleton.mp mc, e1]
        exact Nat.lt_succ_self _
/-- the list of the faces -/
def FcOf (m : Nat) (ts : List (List Nat)) (fs : List (List Nat)) : Prop := if m = 0 then fs = [[]] else Fcs (phi (fol ts)) (List.range (2 * m)) fs
theorem FcOf.unique {m : Nat} {ts fs gs : List (List Nat)} (h : FcOf m ts fs) (k : FcOf m ts gs) : fs = gs := by
  unfold FcOf at h k
  by_cases e : m = 0
  · rw [if_pos e] at h k
    rw [h, k]
  · rw [if_neg e] at h k
    exact h.unique k
theorem Fcs.ne {f : Nat → Nat} {N : Nat} {fs : List (List Nat)} (h : Fcs f (List.range N) fs) (hN : 0 < N) : fs ≠ [] := fun z => by
  obtain ⟨c, mc, _⟩ := h.dec.mem.mpr (List.mem_range.mpr hN)
  rw [z] at mc
  cases mc
theorem FcOf.pos {m : Nat} {ts fs : List (List Nat)} (h : FcOf m ts fs) : 0 < fs.length := by
  unfold FcOf at h
  by_cases e : m = 0
  · rw [if_pos e] at h
    rw [h]
    decide
  · rw [if_neg e] at h
    exact List.length_pos_iff.mpr (h.ne (by omega))
theorem Pg.faces {es : List (Nat × Nat)} {ts fs : List (List Nat)} (h : Pg es ts) (k : FcOf es.length ts fs) : fs.length + ts.length = 2 + es.length := by
  unfold FcOf at k
  by_cases e : es.length = 0
  · rw [if_pos e] at k
    have e0 := List.length_eq_zero_iff.mp e
    rw [k, h.nil e0, e0]
    rfl
  · rw [if_neg e] at k
    obtain ⟨cs, h1, h2⟩ := h.euler fun z => e (by rw [z]; rfl)
    rw [k.dec.length h1]
    exact h2
end PG
namespace KP
open PySem PySem.Spec PyProof.Rows L2 EXT SDT GXP AUG
open PG (Path Cyc Dec Fcs TrOk InOk Pmu fol phi FcOf Pg)
def veB : List Value := [.type "ValueError", .type "Exception", .type "BaseException", .type "object"]
def topS (i : Nat) : Stmt := PySem.Challenge.pw_spinfield_k17_more_edges.main.body.getD i (.Pass ⟨0, 0, 0, 0⟩)
abbrev s_Plane_init : Stmt := inClass (topS 6) 0
abbrev n_Plane_init : List Str := ["self", "count", "edges", "turns", "edge", "turn"]
theorem sc_Plane_init : FnScope n_Plane_init ["self", "count", "edges", "turns"] (defScope s_Plane_init) := ⟨rfl, rfl, rfl, by decide +kernel, rfl, by decide +kernel, by decide +kernel⟩
abbrev s_check_edges : Stmt := topS 7
abbrev n_check_edges : List Str := ["count", "edges", "u", "v"]
theorem sc_check_edges : FnScope n_check_edges ["count", "edges"] (defScope s_check_edges) := ⟨rfl, rfl, rfl, by decide +kernel, rfl, by decide +kernel, by decide +kernel⟩
abbrev s_check_turns : Stmt := topS 8
abbrev n_check_turns : List Str := ["count", "edges", "turns", "leaving", "_", "index", "u", "v", "turn", "darts"]
theorem sc_check_turns : FnScope n_check_turns ["count", "edges", "turns"] (defScope s_check_turns) := ⟨rfl, rfl, rfl, by decide +kernel, rfl, by decide +kernel, by decide +kernel⟩
abbrev s_check_together : Stmt := topS 9
abbrev n_check_together : List Str := ["count", "edges", "near", "_", "u", "v", "reached", "waiting", "vertex", "other"]
theorem sc_check_together : FnScope n_check_together ["count", "edges"] (defScope s_check_together) := ⟨rfl, rfl, rfl, by decide +kernel, rfl, by decide +kernel, by decide +kernel⟩
abbrev s_faces : Stmt := topS 10
abbrev n_faces : List Str := ["plane", "following", "turn", "dart", "behind", "found", "least", "face"]
theorem sc_faces : FnScope n_faces ["plane"] (defScope s_faces) := ⟨rfl, rfl, rfl, by decide +kernel, rfl, by decide +kernel, by decide +kernel⟩
abbrev s_with_leaf : Stmt := topS 11
abbrev n_with_leaf : List Str := ["plane", "vertex", "place", "dart", "turns"]
theorem sc_with_leaf : FnScope n_with_leaf ["plane", "vertex", "place"] (defScope s_with_leaf) := ⟨rfl, rfl, rfl, by decide +kernel, rfl, by decide +kernel, by decide +kernel⟩
abbrev s_with_edge : Stmt := topS 12
abbrev n_with_edge : List Str := ["plane", "first", "place", "second", "other", "dart", "turns"]
theorem sc_with_edge : FnScope n_with_edge ["plane", "first", "place", "second", "other"] (defScope s_with_edge) := ⟨rfl, rfl, rfl, by decide +kernel, rfl, by decide +kernel, by decide +kernel⟩
abbrev s_with_dart : Stmt := topS 13
abbrev n_with_dart : List Str := ["turns", "vertex", "place", "dart", "turn"]
theorem sc_with_dart : FnScope n_with_dart ["turns", "vertex", "place", "dart"] (defScope s_with_dart) := ⟨rfl, rfl, rfl, by decide +kernel, rfl, by decide +kernel, by decide +kernel⟩
abbrev s_law_cell : Stmt := topS 15
abbrev n_law_cell : List Str := ["script", "k"]
theorem sc_law_cell : FnScope n_law_cell ["script", "k"] (defScope s_law_cell) := ⟨rfl, rfl, rfl, by decide +kernel, rfl, by decide +kernel, by decide +kernel⟩
abbrev s_law_mix : Stmt := topS 16
abbrev n_law_mix : List Str := ["cell", "k", "number"]
theorem sc_law_mix : FnScope n_law_mix ["cell", "k"] (defScope s_law_mix) := ⟨rfl, rfl, rfl, by decide +kernel, rfl, by decide +kernel, by decide +kernel⟩
abbrev s_law_faces : Stmt := topS 18
abbrev n_law_faces : List Str := ["edges", "turns", "follower", "own", "k", "seen", "found", "start", "face", "dart"]
theorem sc_law_faces : FnScope n_law_faces ["edges", "turns"] (defScope s_law_faces) := ⟨rfl, rfl, rfl, by decide +kernel, rfl, by decide +kernel, by decide +kernel⟩
abbrev s_law_place : Stmt := topS 19
abbrev n_law_place : List Str := ["turns", "vertex", "dart"]
theorem sc_law_place : FnScope n_law_place ["turns", "vertex", "dart"] (defScope s_law_place) := ⟨rfl, rfl, rfl, by decide +kernel, rfl, by decide +kernel, by decide +kernel⟩
abbrev s_law_owner : Stmt := topS 20
abbrev n_law_owner : List Str := ["turns", "dart", "vertex"]
theorem sc_law_owner : FnScope n_law_owner ["turns", "dart"] (defScope s_law_owner) := ⟨rfl, rfl, rfl, by decide +kernel, rfl, by decide +kernel, by decide +kernel⟩
abbrev s_law_plane : Stmt := topS 21
abbrev n_law_plane : List Str := ["script", "first", "most", "vertices", "edges", "turns", "k", "cell", "faces_v", "face", "one", "other", "u", "dart", "place", "v", "own"]
theorem sc_law_plane : FnScope n_law_plane ["script", "first", "most", "vertices"] (defScope s_law_plane) := ⟨rfl, rfl, rfl, by decide +kernel, rfl, by decide +kernel, by decide +kernel⟩
abbrev s_law_put : Stmt := topS 22
abbrev n_law_put : List Str := ["turns", "vertex", "place", "dart", "own"]
theorem sc_law_put : FnScope n_law_put ["turns", "vertex", "place", "dart"] (defScope s_law_put) := ⟨rfl, rfl, rfl, by decide +kernel, rfl, by decide +kernel, by decide +kernel⟩
abbrev s_law_same : Stmt := topS 23
abbrev n_law_same : List Str := ["plane", "count", "edges", "turns"]
theorem sc_law_same : FnScope n_law_same ["plane", "count", "edges", "turns"] (defScope s_law_same) := ⟨rfl, rfl, rfl, by decide +kernel, rfl, by decide +kernel, by decide +kernel⟩
abbrev s_law : Stmt := topS 24
abbrev n_law : List Str := ["script", "count", "edges", "turns", "cell", "other", "k", "first", "second", "sizes", "vertex", "place", "place_two", "leaf", "dart", "good", "more", "wide", "plane", "told", "e"]
theorem sc_law : FnScope n_law ["script"] (defScope s_law) := ⟨rfl, rfl, rfl, by decide +kernel, rfl, by decide +kernel, by decide +kernel⟩
structure Top (K : PySem.W.Frag) (mg : Str → Option Value) : Type where
  f_check_edges : Addr
  d_check_edges : FuncData
  F_check_edges : Fun K "_check_edges" "_check_edges" s_check_edges f_check_edges d_check_edges
  b_check_edges : Binds K d_check_edges ["count", "edges"] []
  g_check_edges : mg "_check_edges" = some (.ref f_check_edges)
  f_check_turns : Addr
  d_check_turns : FuncData
  F_check_turns : Fun K "_check_turns" "_check_turns" s_check_turns f_check_turns d_check_turns
  b_check_turns : Binds K d_check_turns ["count", "edges", "turns"] []
  g_check_turns : mg "_check_turns" = some (.ref f_check_turns)
  f_check_together : Addr
  d_check_together : FuncData
  F_check_together : Fun K "_check_together" "_check_together" s_check_together f_check_together d_check_together
  b_check_together : Binds K d_check_together ["count", "edges"] []
  g_check_together : mg "_check_together" = some (.ref f_check_together)
  f_faces : Addr
  d_faces : FuncData
  F_faces : Fun K "faces" "faces" s_faces f_faces d_faces
  b_faces : Binds K d_faces ["plane"] []
  g_faces : mg "faces" = some (.ref f_faces)
  f_with_leaf : Addr
  d_with_leaf : FuncData
  F_with_leaf : Fun K "with_leaf" "with_leaf" s_with_leaf f_with_leaf d_with_leaf
  b_with_leaf : Binds K d_with_leaf ["plane", "vertex", "place"] []
  g_with_leaf : mg "with_leaf" = some (.ref f_with_leaf)
  f_with_edge : Addr
  d_with_edge : FuncData
  F_with_edge : Fun K "with_edge" "with_edge" s_with_edge f_with_edge d_with_edge
  b_with_edge : Binds K d_with_edge ["plane", "first", "place", "second", "other"] []
  g_with_edge : mg "with_edge" = some (.ref f_with_edge)
  f_with_dart : Addr
  d_with_dart : FuncData
  F_with_dart : Fun K "_with_dart" "_with_dart" s_with_dart f_with_dart d_with_dart
  b_with_dart : Binds K d_with_dart ["turns", "vertex", "place", "dart"] []
  g_with_dart : mg "_with_dart" = some (.ref f_with_dart)
  f_law_cell : Addr
  d_law_cell : FuncData
  F_law_cell : Fun K "_law_cell" "_law_cell" s_law_cell f_law_cell d_law_cell
  b_law_cell : Binds K d_law_cell ["script", "k"] []
  g_law_cell : mg "_law_cell" = some (.ref f_law_cell)
  f_law_mix : Addr
  d_law_mix : FuncData
  F_law_mix : Fun K "_law_mix" "_law_mix" s_law_mix f_law_mix d_law_mix
  b_law_mix : Binds K d_law_mix ["cell", "k"] []
  g_law_mix : mg "_law_mix" = some (.ref f_law_mix)
  f_law_faces : Addr
  d_law_faces : FuncData
  F_law_faces : Fun K "_law_faces" "_law_faces" s_law_faces f_law_faces d_law_faces
  b_law_faces : Binds K d_law_faces ["edges", "turns"] []
  g_law_faces : mg "_law_faces" = some (.ref f_law_faces)
  f_law_place : Addr
  d_law_place : FuncData
  F_law_place : Fun K "_law_place" "_law_place" s_law_place f_law_place d_law_place
  b_law_place : Binds K d_law_place ["turns", "vertex", "dart"] []
  g_law_place : mg "_law_place" = some (.ref f_law_place)
  f_law_owner : Addr
  d_law_owner : FuncData
  F_law_owner : Fun K "_law_owner" "_law_owner" s_law_owner f_law_owner d_law_owner
  b_law_owner : Binds K d_law_owner ["turns", "dart"] []
  g_law_owner : mg "_law_owner" = some (.ref f_law_owner)
  f_law_plane : Addr
  d_law_plane : FuncData
  F_law_plane : Fun K "_law_plane" "_law_plane" s_law_plane f_law_plane d_law_plane
  b_law_plane : Binds K d_law_plane ["script", "first", "most", "vertices"] []
  g_law_plane : mg "_law_plane" = some (.ref f_law_plane)
  f_law_put : Addr
  d_law_put : FuncData
  F_law_put : Fun K "_law_put" "_law_put" s_law_put f_law_put d_law_put
  b_law_put : Binds K d_law_put ["turns", "vertex", "place", "dart"] []
  g_law_put : mg "_law_put" = some (.ref f_law_put)
  f_law_same : Addr
  d_law_same : FuncData
  F_law_same : Fun K "_law_same" "_law_same" s_law_same f_law_same d_law_same
  b_law_same : Binds K d_law_same ["plane", "count", "edges", "turns"] []
  g_law_same : mg "_law_same" = some (.ref f_law_same)
  t_MOST_VERTICES : Tok
  g_MOST_VERTICES : mg "MOST_VERTICES" = some (.int 100 t_MOST_VERTICES)
  t_MOST_EDGES : Tok
  g_MOST_EDGES : mg "MOST_EDGES" = some (.int 160 t_MOST_EDGES)
  f_FieldError : Addr
  g_FieldError : mg "FieldError" = some (.ref f_FieldError)
  q_FieldError : PySem.W.excIn K f_FieldError veB "ValueError.__new__" = true
  k_FieldError : PySem.W.keepIn K (.ref f_FieldError) = true
  b_FieldError : PySem.W.subIn K (.ref f_FieldError) (.type "BaseException") = some true
  y_FieldError : PySem.W.typeIn K (.ref f_FieldError) = some (.type "type")
  f_InvalidPlane : Addr
  g_InvalidPlane : mg "InvalidPlane" = some (.ref f_InvalidPlane)
  q_InvalidPlane : PySem.W.excIn K f_InvalidPlane veB "ValueError.__new__" = true
  k_InvalidPlane : PySem.W.keepIn K (.ref f_InvalidPlane) = true
  b_InvalidPlane : PySem.W.subIn K (.ref f_InvalidPlane) (.type "BaseException") = some true
  y_InvalidPlane : PySem.W.typeIn K (.ref f_InvalidPlane) = some (.type "type")
  C_Plane : Addr
  g_Plane : mg "Plane" = some (.ref C_Plane)
  cl_Plane : Cls K C_Plane
  f_Plane_init : Addr
  d_Plane_init : FuncData
  c_Plane_init : Addr
  P_Plane_init : Addr
  F_Plane_init : FunC K "__init__" "Plane.__init__" s_Plane_init f_Plane_init d_Plane_init c_Plane_init
  b_Plane_init : Binds K d_Plane_init ["self", "count", "edges", "turns"] []
  mk_Plane : Mk K C_Plane f_Plane_init
  na_Plane_count : NoAttr K C_Plane "count"
  na_Plane_edges : NoAttr K C_Plane "edges"
  na_Plane_turns : NoAttr K C_Plane "turns"
  m_abs : mg "abs" = none
  m_enumerate : mg "enumerate" = none
  m_int : mg "int" = none
  m_isinstance : mg "isinstance" = none
  m_len : mg "len" = none
  m_list : mg "list" = none
  m_range : mg "range" = none
  m_sorted : mg "sorted" = none
  m_tuple : mg "tuple" = none
  m_zip : mg "zip" = none
  xm_InvalidPlane : PySem.W.exmOne K (.ref f_InvalidPlane) (.ref f_FieldError) = some true
  ki_InvalidPlane : PySem.W.kitOne K (.ref f_InvalidPlane) (.ref f_InvalidPlane) = some true
  ec_InvalidPlane : ExcC K f_InvalidPlane
structure Tb {K : PySem.W.Frag} {mg : Str → Option Value} (T : Top K mg) (base : Heap) : Prop where
  t_Plane_init : LamX.TabB base mg T.c_Plane_init T.P_Plane_init
/-- the tables stand -/
structure Tg {K : PySem.W.Frag} {mg : Str → Option Value} (T : Top K mg) (H : Hp) : Prop where
  t_Plane_init : GxR.TabG H T.P_Plane_init
theorem Tg.ext {K : PySem.W.Frag} {mg : Str → Option Value} {T : Top K mg} {H H1 : Hp} (G : Tg T H) (s : Ext H H1) : Tg T H1 := ⟨s.tab G.t_Plane_init⟩
theorem sl2 : (2 : Nat) ≤ sizeLine := by rw [sizeLine_eq]; decide
theorem sl_of {n : Nat} (h : n ≤ 1000000) : n ≤ sizeLine := by rw [sizeLine_eq]; omega
theorem sl_lt {n : Nat} (h : n < 1000000) : n < sizeLine := by rw [sizeLine_eq]; omega
end KP
namespace KP
open PySem PySem.Spec PyProof.Rows L2 EXT SDT GXP AUG
open PG (Path Cyc Dec Fcs TrOk InOk Pmu fol phi FcOf Pg)
section
variable {P : Program} {w : World} {K : PySem.W.Frag} {mg : Str → Option Value} {base : Heap}
/-- // by a divisor that is not 0, below 2 ^ 9000 -/
def CDivZ (_ j : Int) : Prop := j ≠ 0 ∧ j.natAbs.log2 < 9000
theorem op_fdivZ {X : Cx} : OpR X (binaryOp .FloorDiv) (rI CDivZ fun i j => .int (i.fdiv j)) := opI fun i j _ _ _ _ _ hc q =>
  floordiv_int hc.1 q (.inl (PyProof.noPylong_of_log2 hc.2))
theorem same_upd {H : Hp} {p : Addr} {o : HO} (h : H p = none) : Same H (upd H p o) := fun b x e => by
  rw [upd_ne (ne_of_none e h)]
  exact e
theorem _root_.L2.Same.tup {K : PySem.W.Frag} {H H' : Hp} {a : Addr} {xs : List V} (e : Same H H') (h : SqT K H a xs) : SqT K H' a xs := e.ext.tup h
theorem take_snoc {α : Type} {l : List α} {i : Nat} {x : α} (h : l[i]? = some x) : l.take (i + 1) = l.take i ++ [x] := by
  rw [List.take_add_one, h]
  rfl
theorem _root_.L2.FunC.okN {x qual : Str} {st : Stmt} {f c : Addr} {fd : FuncData} {N ps : List Str} {k : Nat} {sp : Sp} (F : FunC K x qual st f fd c) (S : FnScope N ps (defScope st)) (len : ∀ vs H Q E, sp vs H Q E → vs.length = ps.length)
    (hbody : ∀ (A : Around) (outer : List Env) (s : Shared) (H : Hp) (vs : List V) (Q : VK) (E : XK), Room k (A.deeper (envOfC qual (defScope st) s.heap.objs.size f (.ref c))) → sp vs H Q E →
      ∃ t, PSs (cxOf (L2N.CX P w) P w K mg base N qual (defScope st) f (.ref c) A outer s H E) (defBody st) t ∧ t { nx := fun _ H' => Q .non H', rt := Q } (start N vs) H) :
    FnOk P w K mg base (L2N.CX P w) (k + 1) f fd ps sp := by
  obtain ⟨oc, od, kV, doc, pm, an, ct, osl, e, lk, hcd⟩ := F.ex
  subst e
  exact fn_of lk hcd S len fun A outer s H vs Q E hr hsp => hbody A outer s H vs Q E hr hsp
theorem iteB {c : Bool} {A B : Prop} (h1 : c = true → A) (h2 : c = false → B) : if c = true then A else B := by
  cases c
  · exact iteF (h2 rfl)
  · exact iteT (h1 rfl)
/-! ### lists of lists -/
def natV (m : List Nat) : List V := m.map fun k => V.int ((k : Nat) : Int)
theorem natV_len (m : List Nat) : (natV m).length = m.length := List.length_map _
theorem natV_get {m : List Nat} {i k : Nat} (h : m[i]? = some k) : (natV m)[i]? = some (.int ((k : Nat) : Int)) := by
  unfold natV
  rw [List.getElem?_map, h]
  rfl
theorem natV_app (a b : List Nat) : natV (a ++ b) = natV a ++ natV b := List.map_append
/-- a list of new lists -/
structure LLs (H0 H : Hp) (l : Addr) (as : List Addr) (ls : List (List Nat)) : Prop where
  ext : Ext H0 H
  hl : H l = some (.lst (as.map V.ref))
  len : as.length = ls.length
  at_ : ∀ (i : Nat) (a : Addr) (xs : List Nat), as[i]? = some a → ls[i]? = some xs → H a = some (.lst (natV xs))
  nd : as.Nodup
  nl : l ∉ as
  fr : ∀ a ∈ as, H0 a = none
  frl : H0 l = none
theorem LLs.up {H0 H H' : Hp} {l : Addr} {as : List Addr} {ls : List (List Nat)} (h : LLs H0 H l as ls) (s : Ext H H') : LLs H0 H' l as ls :=
  ⟨h.ext.trans s, s.lst h.hl, h.len, fun i a xs h1 h2 => s.lst (h.at_ i a xs h1 h2), h.nd, h.nl, h.fr, h.frl⟩
/-- something else that was new is changed -/
theorem LLs.else {H0 H : Hp} {l : Addr} {as : List Addr} {ls : List (List Nat)} (h : LLs H0 H l as ls) {d : Addr} {o : HO} (d0 : H0 d = none) (dl : d ≠ l) (da : d ∉ as) : LLs H0 (upd H d o) l as ls :=
  ⟨h.ext.own d0, by rw [upd_ne dl.symm]; exact h.hl, h.len, fun i a xs h1 h2 => by
    rw [upd_ne (fun z : a = d => da (by rw [← z]; exact List.mem_of_getElem? h1))]
    exact h.at_ i a xs h1 h2, h.nd, h.nl, h.fr, h.frl⟩
theorem LLs.item {H0 H : Hp} {l : Addr} {as : List Addr} {ls : List (List Nat)} (h : LLs H0 H l as ls) {i : Nat} (hi : i < ls.length) : ∃ a xs, as[i]? = some a ∧ ls[i]? = some xs ∧ H a = some (.lst (natV xs)) ∧ a ≠ l ∧ H0 a = none := by
  have h1 := List.getElem?_eq_getElem (show i < as.length by rw [h.len]; exact hi)
  have h2 := List.getElem?_eq_getElem hi
  have m := List.mem_of_getElem? h1
  exact ⟨_, _, h1, h2, h.at_ i _ _ h1 h2, fun z => h.nl (z ▸ m), h.fr _ m⟩
theorem nodup_at {as : List Addr} (nd : as.Nodup) {i j : Nat} {a b : Addr} (hi : as[i]? = some a) (hj : as[j]? = some b) (e : a = b) : i = j := by
  obtain ⟨i1, e1⟩ := List.getElem?_eq_some_iff.mp hi
  obtain ⟨j1, e2⟩ := List.getElem?_eq_some_iff.mp hj
  have hp := List.pairwise_iff_getElem.mp (show as.Pairwise (· ≠ ·) from nd)
  rcases Nat.lt_trichotomy i j with h | h | h
  · exact absurd (by rw [e1, e2, e]) (hp i j i1 j1 h)
  · exact h
  · exact absurd (by rw [e1, e2, e]) (hp j i j1 i1 h)
/-- one of the lists is changed -/
theorem LLs.chg {H0 H : Hp} {l : Addr} {as : List Addr} {ls : List (List Nat)} (h : LLs H0 H l as ls) {i : Nat} {a : Addr} (hi : as[i]? = some a) (ys : List Nat) : LLs H0 (upd H a (.lst (natV ys))) l as (ls.set i ys) := by
  have m := List.mem_of_getElem? hi
  have il := (List.getElem?_eq_some_iff.mp hi).1
  refine ⟨h.ext.own (h.fr a m), ?_, by rw [List.length_set]; exact h.len, fun j b xs h1 h2 => ?_, h.nd, h.nl, h.fr, h.frl⟩
  · rw [upd_ne (fun z : l = a => h.nl (by rw [z]; exact m))]
    exact h.hl
  · rw [List.getElem?_set] at h2
    by_cases e : i = j
    · subst e
      rw [if_pos rfl, if_pos (by rw [← h.len]; exact il)] at h2
      obtain rfl := Option.some.inj h2
      rw [hi] at h1
      obtain rfl := Option.some.inj h1
      exact upd_same
    · rw [if_neg e] at h2
      rw [upd_ne (fun z => e (nodup_at h.nd hi h1 z.symm))]
      exact h.at_ j b xs h1 h2
theorem LLs.fresh {H0 H : Hp} {l : Addr} {as : List Addr} {ls : List (List Nat)} (h : LLs H0 H l as ls) {d : Addr} (hd : H d = none) : H0 d = none ∧ d ≠ l ∧ d ∉ as := by
  refine ⟨h.ext.free hd, fun z => ?_, fun m => ?_⟩
  · rw [z, h.hl] at hd
    cases hd
  · obtain ⟨j, hj⟩ := List.getElem?_of_mem m
    have hjl := (List.getElem?_eq_some_iff.mp hj).1
    have := h.at_ j d _ hj (List.getElem?_eq_getElem (by rw [← h.len]; exact hjl))
    rw [hd] at this
    cases this
theorem LLs.zero {H0 : Hp} {l : Addr} (hl : H0 l = none) : LLs H0 (upd H0 l (.lst [])) l [] [] := ⟨ext_upd hl, upd_same, rfl, fun i a xs h => by simp at h, List.nodup_nil, List.not_mem_nil, fun a m => absurd m List.not_mem_nil, hl⟩
/-- one list more -/
theorem LLs.more {H0 H : Hp} {l : Addr} {as : List Addr} {ls : List (List Nat)} (h : LLs H0 H l as ls) {a : Addr} {ys : List Nat} (ha : H a = some (.lst (natV ys))) (a0 : H0 a = none) (al : a ≠ l) (aa : a ∉ as) : LLs H0 (upd H l (.lst (as.map V.ref ++ [.ref a]))) l (as ++ [a]) (ls ++ [ys]) := by
  refine ⟨h.ext.own h.frl, ?_, by rw [List.length_append, List.length_append, h.len]; rfl, fun i b xs h1 h2 => ?_, ?_, fun m => ?_, fun b m => ?_, h.frl⟩
  · rw [upd_same, List.map_append]
    rfl
  · by_cases e : i < as.length
    · rw [List.getElem?_append_left e] at h1
      rw [List.getElem?_append_left (by rw [← h.len]; exact e)] at h2
      rw [upd_ne (fun z : b = l => h.nl (by rw [← z]; exact List.mem_of_getElem? h1))]
      exact h.at_ i b xs h1 h2
    · rw [List.getElem?_append_right (by omega)] at h1
      rw [List.getElem?_append_right (by rw [← h.len]; omega)] at h2
      cases hk : i - as.length with
      | zero =>
        rw [hk] at h1
        rw [← h.len, hk] at h2
        obtain rfl := Option.some.inj h1
        obtain rfl := Option.some.inj h2
        rw [upd_ne al]
        exact ha
      | succ k =>
        rw [hk] at h1
        simp at h1
  · exact List.nodup_append.mpr ⟨h.nd, by simp, fun x hx y hy e => aa (by rw [← List.mem_singleton.mp hy, ← e]; exact hx)⟩
  · rcases List.mem_append.mp m with m | m
    · exact h.nl m
    · exact al (List.mem_singleton.mp m).symm
  · rcases List.mem_append.mp m with m | m
    · exact h.fr b m
    · rw [List.mem_singleton.mp m]
      exact a0
/-- one of the lists is put in place of another -/
theorem LLs.put {H0 H : Hp} {l : Addr} {as : List Addr} {ls : List (List Nat)} (h : LLs H0 H l as ls) {i : Nat} (hi : i < ls.length) {a : Addr} {ys : List Nat} (ha : H a = some (.lst (natV ys))) (a0 : H0 a = none) (al : a ≠ l) (aa : a ∉ as) : LLs H0 (upd H l (.lst ((as.map V.ref).set i (.ref a)))) l (as.set i a) (ls.set i ys) := by
  refine ⟨h.ext.own h.frl, ?_, by rw [List.length_set, List.length_set, h.len], fun j b xs h1 h2 => ?_, ?_, fun m => ?_, fun b m => ?_, h.frl⟩
  · rw [upd_same, List.map_set]
  · rw [List.getElem?_set] at h1 h2
    by_cases e : i = j
    · subst e
      rw [if_pos rfl, if_pos (by rw [h.len]; exact hi)] at h1
      rw [if_pos rfl, if_pos hi] at h2
      obtain rfl := Option.some.inj h1
      obtain rfl := Option.some.inj h2
      rw [upd_ne al]
      exact ha
    · rw [if_neg e] at h1 h2
      rw [upd_ne (fun z : b = l => h.nl (by rw [← z]; exact List.mem_of_getElem? h1))]
      exact h.at_ j b xs h1 h2
  · obtain ⟨A, B, e, _, hs⟩ := PG.split_at (List.getElem?_eq_getElem (show i < as.length by rw [h.len]; exact hi))
    rw [hs]
    have nd := h.nd
    rw [e] at nd aa
    obtain ⟨n1, n2, n3⟩ := List.nodup_append.mp nd
    obtain ⟨n4, n5⟩ := List.nodup_cons.mp n2
    refine List.nodup_append.mpr ⟨n1, List.nodup_cons.mpr ⟨fun m => aa (by simp [m]), n5⟩, fun x hx y hy z => ?_⟩
    rcases List.mem_cons.mp hy with q | q
    · exact aa (by rw [← q, ← z]; simp [hx])
    · exact n3 x hx y (List.mem_cons_of_mem _ q) z
  · rcases List.mem_or_eq_of_mem_set m with m | m
    · exact h.nl m
    · exact al m.symm
  · rcases List.mem_or_eq_of_mem_set m with m | m
    · exact h.fr b m
    · rw [m]
      exact a0
/-! ### zip of a tuple and a list, walked by a statement -/
theorem for_zipTL {a b : Addr} {xs ys : List V} {g : TG} {tb : TS} {D : Ends} {σ : L2.St} {H : Hp} (hn : xs.length = ys.length) (Pv : Nat → L2.St → Hp → Prop) (h0 : Pv 0 σ H) (hq : ∀ i σ H, Pv i σ H → SqT K H a xs ∧ SqL K H b ys)
    (hs : ∀ (i : Nat) (x y : V) (T : Addr) (σ : L2.St) (H : Hp), xs[i]? = some x → ys[i]? = some y → Pv i σ H → H T = none → g (.ref T) σ (upd H T (.tup [x, y])) fun σ2 H2 => tb { D with nx := Pv (i + 1), ct := Pv (i + 1), bk := D.nx } σ2 H2)
    (hd : ∀ σ H, Pv ys.length σ H → D.nx σ H) :
    ∃ W : Nat → Nat → L2.St → Hp → Prop, (∃ m, W 0 m σ H) ∧ ∀ i m σ H, W i m σ H →
      ((ZPM.ItzM K a b ys.length).stop i H ∧ D.nx σ H) ∨ ((ZPM.ItzM K a b ys.length).go i H ∧ ∃ N : L2.St → Hp → Prop, (∀ σ' H', N σ' H' → ∃ m', m' < m ∧ W (i + 1) m' σ' H') ∧ ∀ v H', (ZPM.ItzM K a b ys.length).yld i H v H' → g v σ H' fun σ2 H2 => tb { D with nx := N, ct := N, bk := D.nx } σ2 H2) := by
  refine ⟨fun i m σ H => m = ys.length - i ∧ i ≤ ys.length ∧ Pv i σ H, ⟨ys.length, rfl, Nat.zero_le _, h0⟩, ?_⟩
  rintro i m σ H ⟨rfl, hi, p⟩
  obtain ⟨qx, qy⟩ := hq i σ H p
  by_cases hlt : i < ys.length
  · refine .inr ⟨⟨xs, ys, qx, qy, hn, rfl, hlt⟩, Pv (i + 1), fun σ' H' p' => ⟨ys.length - (i + 1), by omega, rfl, hlt, p'⟩, fun v H' y => ?_⟩
    obtain ⟨T, x', y', rfl, hT, rfl, f1, f2⟩ := y
    exact hs i x' y' T σ H (f1 xs qx) (f2 ys qy) p hT
  · obtain rfl : i = ys.length := by omega
    exact .inl ⟨⟨xs, ys, qx, qy, hn, rfl, Nat.le_refl _⟩, hd σ H p⟩
/-! ### pairs of ints -/
abbrev EgI := Int × Int
def PrI (K : PySem.W.Frag) (H : Hp) (v : V) (e : EgI) : Prop := ∃ a, v = .ref a ∧ SqT K H a [.int e.1, .int e.2]
theorem pri_up {H H' : Hp} (s : Ext H H') {xs : List V} {es : List EgI} (h : Paired (PrI K H) xs es) : Paired (PrI K H') xs es := paired_imp (fun _ _ ⟨a, e, g⟩ => ⟨a, e, s.tup g⟩) h
/-- tuples of ints -/
def TuI (K : PySem.W.Frag) (H : Hp) (v : V) (l : List Int) : Prop := ∃ a, v = .ref a ∧ SqT K H a (l.map V.int)
theorem tui_up {H H' : Hp} (s : Ext H H') {xs : List V} {ls : List (List Int)} (h : Paired (TuI K H) xs ls) : Paired (TuI K H') xs ls := paired_imp (fun _ _ ⟨a, e, g⟩ => ⟨a, e, s.tup g⟩) h
/-! ### data that may be laid -/
def Gd (n : Nat) (d : PyData) : Prop := d.canLay0 = true ∧ d.depth ≤ n
theorem gd_int (i : Int) : Gd 3 (.int i) := ⟨by simp [PyData.canLay0], by simp [PyData.depth]⟩
theorem gd_all {n : Nat} : ∀ {ds : List PyData}, (∀ x ∈ ds, Gd n x) → PyData.canLayAll0 ds = true ∧ PyData.depthAll ds ≤ n
  | [], _ => ⟨by simp [PyData.canLayAll0], by simp [PyData.depthAll]⟩
  | d :: ds, h => by
    obtain ⟨h1, h2⟩ := h d List.mem_cons_self
    obtain ⟨h3, h4⟩ := gd_all fun x m => h x (List.mem_cons_of_mem _ m)
    simp only [PyData.canLayAll0, PyData.depthAll, h1, h3, Bool.and_self, true_and]
    omega
theorem gd_tup {n : Nat} {ds : List PyData} (h : ∀ x ∈ ds, Gd n x) : Gd (n + 1) (.tuple ds) := by
  obtain ⟨h1, h2⟩ := gd_all h
  refine ⟨by simp only [PyData.canLay0, h1], ?_⟩
  simp only [PyData.depth]
  omega
theorem gd_lst {n : Nat} {ds : List PyData} (h : ∀ x ∈ ds, Gd n x) : Gd (n + 1) (.list ds) := by
  obtain ⟨h1, h2⟩ := gd_all h
  refine ⟨by simp only [PyData.canLay0, h1], ?_⟩
  simp only [PyData.depth]
  omega
theorem Gd.up {n m : Nat} {d : PyData} (h : Gd n d) (k : n ≤ m) : Gd m d := ⟨h.1, Nat.le_trans h.2 k⟩
theorem Gd.sh {n : Nat} {d : PyData} (h : Gd n d) (k : n ≤ 64 := by decide) : SeqAt.shaped d = true := by
  unfold SeqAt.shaped
  rw [h.1, Bool.true_and]
  exact decide_eq_true (Nat.le_trans h.2 k)
theorem eqv_self {n : Nat} {d : PyData} (h : Gd n d) : PyData.eqv d d = true := SeqAt.eqv_refl d h.1
/-! ### the checks of a plane graph -/
def goodE (n : Int) (es : List EgI) : Prop := 1 ≤ n ∧ n ≤ 100 ∧ es.length ≤ 160 ∧ ∀ e ∈ es, 0 ≤ e.1 ∧ e.1 < n ∧ 0 ≤ e.2 ∧ e.2 < n
def spCE (T : Top K mg) : Sp := fun vs H Q E => ∃ (a : Addr) (xs : List V) (es : List EgI) (n : Int), vs = [.int n, .ref a] ∧ SqT K H a xs ∧ Paired (PrI K H) xs es ∧ (goodE n es → ∀ H', Ext H H' → Q .non H') ∧ (¬ goodE n es → ∀ H', Ext H H' → E (.ref T.f_InvalidPlane) none H')
theorem ok_check_edges (T : Top K mg) : FnOk P w K mg base (L2N.CX P w) 1 T.f_check_edges T.d_check_edges ["count", "edges"] (spCE T) := by
  refine T.F_check_edges.okN sc_check_edges (fun vs H Q E h => ?_) (fun cdv A outer s H vs Q E hr h => ?_)
  · obtain ⟨a, xs, es, n, rfl, _⟩ := h
    rfl
  obtain ⟨a, xs, es, n, rfl, ha, hx, q1, q2⟩ := h
  refine ⟨_, (pss_cons (ps_if (pt_not (pt_chain op_le op_le pe_int (pv 0) (pe_glob (v := .int 100) (by rfl) T.g_MOST_VERTICES ⟨_, rfl⟩))) (pss_one (L2N.ps_raise rfl (L2N.takes_of rfl rfl rfl rfl) (L2N.pmk_own PySem.F.excBase_ValueError T.q_InvalidPlane T.g_InvalidPlane T.k_InvalidPlane (raises_own T.b_InvalidPlane T.y_InvalidPlane) (by rfl)))) pss_nil)
      (pss_cons (ps_if (pt_cmpR op_gt (pe_callB call_len_seq (by rfl) T.m_len (by decide +kernel) (pa_cons (pv 1) pa_nil)) (pe_glob (v := .int 160) (by rfl) T.g_MOST_EDGES ⟨_, rfl⟩) (nomark _)) (pss_one (L2N.ps_raise rfl (L2N.takes_of rfl rfl rfl rfl) (L2N.pmk_own PySem.F.excBase_ValueError T.q_InvalidPlane T.g_InvalidPlane T.k_InvalidPlane (raises_own T.b_InvalidPlane T.y_InvalidPlane) (by rfl)))) pss_nil)
      (pss_one (ps_for (passes_of rfl) rfl (pi_tup (pv 1)) (pg_tup rfl (pgs_cons (pg_name (i := 2) sc_check_edges.nd rfl (by first | exact .inl rfl | exact .inr rfl)) (pgs_cons (pg_name (i := 3) sc_check_edges.nd rfl (by first | exact .inl rfl | exact .inr rfl)) pgs_nil))) (pss_one (ps_if (pt_not (PW.pt (pw_and (pt_chain op_le op_lt pe_int (pv 2) (pv 0)) (pw_and1 (pt_chain op_le op_lt pe_int (pv 3) (pv 0)))))) (pss_one (L2N.ps_raise rfl (L2N.takes_of rfl rfl rfl rfl) (L2N.pmk_own PySem.F.excBase_ValueError T.q_InvalidPlane T.g_InvalidPlane T.k_InvalidPlane (raises_own T.b_InvalidPlane T.y_InvalidPlane) (by rfl)))) pss_nil)))))), ?_⟩
  have lx := hx.length
  refine ⟨_, rfl, _, _, rfl, rfl, _, rfl, ite2 (fun e1 => ?_) (fun e1 => ⟨_, rfl, iteT (q2 (fun g => e1 (decide_eq_true g.1)) H (Ext.refl H))⟩)⟩
  have e1 : (1 : Int) ≤ n := of_decide_eq_true e1
  refine ⟨_, _, rfl, rfl, _, rfl, iteB (fun e2 => ?_) (fun e2 => ?_)⟩
  · have e2 : ¬ n ≤ 100 := by simpa using e2
    exact q2 (fun g => e2 g.2.1) H (Ext.refl H)
  have e2 : n ≤ 100 := by simpa using e2
  refine ⟨_, rfl, a, _, rfl, .inr ha, _, _, rfl, rfl, _, rfl, iteB (fun e3 => ?_) (fun e3 => ?_)⟩
  · have e3 : (160 : Int) < ((xs.length : Nat) : Int) := of_decide_eq_true e3
    exact q2 (fun g => by have := g.2.2.1; omega) H (Ext.refl H)
  have e3 : ¬ (160 : Int) < ((xs.length : Nat) : Int) := of_decide_eq_false e3
  refine ⟨_, rfl, a, rfl, ⟨_, ha⟩, for_tup (xs := xs) (fun i σ HA => (∃ y2 y3, σ = [some (.int n), some (.ref a), y2, y3]) ∧ HA = H ∧ ∀ e ∈ es.take i, 0 ≤ e.1 ∧ e.1 < n ∧ 0 ≤ e.2 ∧ e.2 < n) ⟨⟨_, _, rfl⟩, rfl, fun e m => by simp at m⟩ (fun i σ HA _ h => by rw [h.2.1]; exact ha) (fun i v σ HA hi hP => ?_) (fun σ HA hP => ?_)⟩
  · obtain ⟨⟨y2, y3, rfl⟩, rfl, hall⟩ := hP
    obtain ⟨⟨u, v⟩, hei, a1, rfl, ha1⟩ := paired_at hx hi
    have hm := List.mem_of_getElem? hei
    refine ⟨a1, _, rfl, ha1, rfl, _, _, rfl, _, _, rfl, rfl, ?_⟩
    dsimp only [gName]
    have bad : ¬ (0 ≤ u ∧ u < n ∧ 0 ≤ v ∧ v < n) → E (.ref T.f_InvalidPlane) none HA := fun hb => q2 (fun g => hb (g.2.2.2 _ hm)) HA (Ext.refl HA)
    refine ⟨_, rfl, _, _, rfl, rfl, _, rfl, ite2 (fun c1 => ?_) (fun c1 => ⟨_, rfl, ?_⟩)⟩
    · refine ⟨_, rfl, _, _, rfl, rfl, _, rfl, iteB (fun c2 => ?_) (fun c2 => ?_)⟩
      · refine ⟨_, rfl, _, _, rfl, rfl, _, rfl, ite2 (fun c3 => ?_) (fun c3 => ⟨_, rfl, ?_⟩)⟩
        · refine ⟨_, rfl, _, _, rfl, rfl, _, rfl, ?_⟩
          have c1 : (0 : Int) ≤ u := of_decide_eq_true c1
          have c2 : u < n := of_decide_eq_true c2
          have c3 : (0 : Int) ≤ v := of_decide_eq_true c3
          by_cases c4 : v < n
          · show if (!decide (v < n)) = true then _ else _
            rw [decide_eq_true c4]
            refine iteF ⟨⟨_, _, rfl⟩, rfl, fun e m => ?_⟩
            rw [take_snoc hei] at m
            rcases List.mem_append.mp m with m | m
            · exact hall e m
            · rw [List.mem_singleton.mp m]
              exact ⟨c1, c2, c3, c4⟩
          · show if (!decide (v < n)) = true then _ else _
            rw [decide_eq_false c4]
            exact iteT (bad fun g => c4 g.2.2.2)
        · exact iteT (bad fun g => c3 (decide_eq_true g.2.2.1))
      · exact iteT (bad fun g => of_decide_eq_false c2 g.2.1)
    · exact iteF (iteT (bad fun g => c1 (decide_eq_true g.1)))
  · obtain ⟨⟨y2, y3, rfl⟩, rfl, hall⟩ := hP
    rw [lx, List.take_length] at hall
    exact q1 ⟨e1, e2, by omega, hall⟩ _ (Ext.refl _)
/-! ### turning orders that are those of the edges -/
def nE (e : EgI) : Nat × Nat := (e.1.toNat, e.2.toNat)
/-- the vertex that a dart leaves -/
def org (es : List (Nat × Nat)) (d : Nat) : Nat := if d % 2 = 0 then (es.getD (d / 2) (0, 0)).1 else (es.getD (d / 2) (0, 0)).2
/-- the darts of a vertex, of the first k edges -/
def darts (es : List (Nat × Nat)) (k w : Nat) : List Nat := (List.range (2 * k)).filter fun d => decide (org es d = w)
theorem darts_succ (es : List (Nat × Nat)) (k w : Nat) : darts es (k + 1) w = darts es k w ++ (if org es (2 * k) = w then [2 * k] else []) ++ (if org es (2 * k + 1) = w then [2 * k + 1] else []) := by
  unfold darts
  rw [show 2 * (k + 1) = 2 * k + 1 + 1 by omega, List.range_succ, List.range_succ, List.filter_append, List.filter_append]
  congr 1
  · congr 1
    by_cases h : org es (2 * k) = w
    · rw [if_pos h, List.filter_cons_of_pos (by simpa using h)]
      rfl
    · rw [if_neg h, List.filter_cons_of_neg (by simpa using h)]
      rfl
  · by_cases h : org es (2 * k + 1) = w
    · rw [if_pos h, List.filter_cons_of_pos (by simpa using h)]
      rfl
    · rw [if_neg h, List.filter_cons_of_neg (by simpa using h)]
      rfl
theorem org_a {es : List (Nat × Nat)} {k : Nat} {e : Nat × Nat} (h : es[k]? = some e) : org es (2 * k) = e.1 ∧ org es (2 * k + 1) = e.2 := by
  unfold org
  rw [if_pos (by omega), if_neg (by omega), show 2 * k / 2 = k by omega, show (2 * k + 1) / 2 = k by omega, List.getD_eq_getElem?_getD, h]
  exact ⟨rfl, rfl⟩
/-- the list of the darts of each vertex -/
def leav (es : List (Nat × Nat)) (k n : Nat) : List (List Nat) := (List.range n).map (darts es k)
theorem leav_get {es : List (Nat × Nat)} {k n w : Nat} (h : w < n) : (leav es k n)[w]? = some (darts es k w) := by
  unfold leav
  rw [List.getElem?_map, List.getElem?_range h]
  rfl
theorem leav_len (es : List (Nat × Nat)) (k n : Nat) : (leav es k n).length = n := by
  unfold leav
  rw [List.length_map, List.length_range]
theorem leav_succ {es : List (Nat × Nat)} {k n : Nat} {e : Nat × Nat} (h : es[k]? = some e) (h1 : e.1 < n) (h2 : e.2 < n) : leav es (k + 1) n = ((leav es k n).set e.1 (darts es k e.1 ++ [2 * k])).set e.2 ((if e.1 = e.2 then darts es k e.1 ++ [2 * k] else darts es k e.2) ++ [2 * k + 1]) := by
  obtain ⟨o1, o2⟩ := org_a h
  refine List.ext_getElem? fun i => ?_
  rw [List.getElem?_set, List.getElem?_set, List.length_set, leav_len]
  by_cases hi : i < n
  · rw [leav_get hi, leav_get hi, darts_succ, o1, o2, if_pos h1, if_pos h2]
    by_cases c2 : e.2 = i
    · rw [if_pos c2, if_pos c2]
      by_cases c1 : e.1 = e.2
      · rw [if_pos c1, if_pos (c1.trans c2), c1, c2]
      · rw [if_neg c1, if_neg (fun z => c1 (z.trans c2.symm)), c2, List.append_nil]
    · rw [if_neg c2, if_neg c2, List.append_nil]
      by_cases c1 : e.1 = i
      · rw [if_pos c1, if_pos c1, c1]
      · rw [if_neg c1, if_neg c1, List.append_nil]
  · rw [List.getElem?_eq_none (by rw [leav_len]; omega), List.getElem?_eq_none (by rw [leav_len]; omega), if_neg (by omega), if_neg (by omega)]
/-- turning orders as they ought to be -/
def goodT (n : Nat) (es : List (Nat × Nat)) (tss : List (List Int)) : Prop := tss.length = n ∧ ∀ (w : Nat) (l : List Int), tss[w]? = some l → l.Perm ((darts es es.length w).map fun d => ((d : Nat) : Int))
def intsD (l : List Int) : List PyData := l.map PyData.int
theorem eqvAll_int : ∀ l m : List Int, PyData.eqvAll (intsD l) (intsD m) = decide (l = m)
  | [], [] => rfl
  | [], _ :: _ => rfl
  | _ :: _, [] => rfl
  | r :: l, s :: m => by
    show (PyData.eqv (.int r) (.int s) && PyData.eqvAll (intsD l) (intsD m)) = _
    rw [eqvAll_int l m]
    have e : PyData.eqv (.int r) (.int s) = decide (r = s) := by
      simp only [PyData.eqv]
      by_cases h : r = s <;> simp [h]
    rw [e]
    by_cases h : r = s <;> by_cases g : l = m <;> simp [h, g]
theorem eqv_ints (l m : List Int) : PyData.eqv (.list (intsD l)) (.list (intsD m)) = decide (l = m) := by
  show PyData.eqvAll (intsD l) (intsD m) = _
  exact eqvAll_int l m
theorem ints_dp {H : Hp} : ∀ l : List Int, DpAll K H (l.map V.int) (intsD l)
  | [] => .nil
  | r :: l => .cons (.int r) (ints_dp l)
theorem gd_intsL (l : List Int) : Gd 4 (.list (intsD l)) := gd_lst fun x m => by
  obtain ⟨r, _, rfl⟩ := List.mem_map.mp m
  exact gd_int r
theorem gd_intsT (l : List Int) : Gd 4 (.tuple (intsD l)) := gd_tup fun x m => by
  obtain ⟨r, _, rfl⟩ := List.mem_map.mp m
  exact gd_int r
theorem natV_int (l : List Nat) : natV l = (l.map fun d => ((d : Nat) : Int)).map V.int := by
  unfold natV
  rw [List.map_map]
  rfl
theorem darts_asc (es : List (Nat × Nat)) (k w : Nat) : ((darts es k w).map fun d => ((d : Nat) : Int)).Pairwise (· ≤ ·) := by
  unfold darts
  rw [List.pairwise_map]
  exact (List.pairwise_lt_range.filter _).imp fun h => Int.ofNat_le.mpr (Nat.le_of_lt h)
def spCT (T : Top K mg) : Sp := fun vs H Q E => ∃ (a b : Addr) (xs ys : List V) (es : List EgI) (tss : List (List Int)) (n : Nat), vs = [.int ((n : Nat) : Int), .ref a, .ref b] ∧ SqT K H a xs ∧ Paired (PrI K H) xs es ∧ (∀ e ∈ es, 0 ≤ e.1 ∧ e.1 < n ∧ 0 ≤ e.2 ∧ e.2 < n) ∧ es.length ≤ 1000 ∧ SqT K H b ys ∧ Paired (TuI K H) ys tss ∧ n ≤ 1000 ∧ (∀ l ∈ tss, l.length ≤ 1000) ∧
  (goodT n (es.map nE) tss → ∀ H', Ext H H' → Q .non H') ∧ (¬ goodT n (es.map nE) tss → ∀ H', Ext H H' → E (.ref T.f_InvalidPlane) none H')
theorem ok_check_turns (T : Top K mg) : FnOk P w K mg base (L2N.CX P w) 1 T.f_check_turns T.d_check_turns ["count", "edges", "turns"] (spCT T) := by
  refine T.F_check_turns.okN sc_check_turns (fun vs H Q E h => ?_) (fun cdv A outer s H vs Q E hr h => ?_)
  · obtain ⟨a, b, xs, ys, es, tss, n, rfl, _⟩ := h
    rfl
  obtain ⟨a, b, xs, ys, es, tss, n, rfl, ha, hx, hin, le, hb, hy, hn, hl, q1, q2⟩ := h
  refine ⟨_, (pss_cons (ps_if (pt_cmpR op_ne (pe_callB call_len_seq (by rfl) T.m_len (by decide +kernel) (pa_cons (pv 2) pa_nil)) (pv 0) (nomark _)) (pss_one (L2N.ps_raise rfl (L2N.takes_of rfl rfl rfl rfl) (L2N.pmk_own PySem.F.excBase_ValueError T.q_InvalidPlane T.g_InvalidPlane T.k_InvalidPlane (raises_own T.b_InvalidPlane T.y_InvalidPlane) (by rfl)))) pss_nil)
      (pss_cons (ps_setLc (i := 3) (own := [("_", 4)]) (g := gName 4) (tt := tYes) rfl sc_check_turns.nd rfl rfl (sw_true rfl rfl rfl (by decide +kernel)) (pi_tup (pv 2)) (blkOk_by (own := [("_", 4)]) (N := n_check_turns) (sc := defScope s_check_turns) (by decide +kernel)) (fun _ _ _ _ _ => (pg_name (i := 4) sc_check_turns.nd rfl (by first | exact .inl rfl | exact .inr rfl))) (fun _ _ _ _ _ => pts_nil) (fun _ _ _ _ _ => (pe_lst pa_nil)))
      (pss_cons (ps_for (passes_of rfl) rfl (pi_enumS rfl (by rfl) T.m_enumerate (pa_cons (pv 1) pa_nil)) (pg_tup rfl (pgs_cons (pg_name (i := 5) sc_check_turns.nd rfl (by first | exact .inl rfl | exact .inr rfl)) (pgs_cons (pg_tup rfl (pgs_cons (pg_name (i := 6) sc_check_turns.nd rfl (by first | exact .inl rfl | exact .inr rfl)) (pgs_cons (pg_name (i := 7) sc_check_turns.nd rfl (by first | exact .inl rfl | exact .inr rfl)) pgs_nil))) pgs_nil))) (pss_cons (ps_expr (pe_bm PySem.F.plainAttrs_list PySem.F.slot_list_append PySem.F.type_list_append mt_append (pe_ix ix_list (pv 3) (pv 6) (fun _ _ => rfl)) (pa_cons (pe_op op_mul pe_int (pv 5)) pa_nil)))
      (pss_one (ps_expr (pe_bm PySem.F.plainAttrs_list PySem.F.slot_list_append PySem.F.type_list_append mt_append (pe_ix ix_list (pv 3) (pv 7) (fun _ _ => rfl)) (pa_cons (pe_op op_add (pe_op op_mul pe_int (pv 5)) pe_int) pa_nil))))))
      (pss_one (ps_for (passes_of rfl) rfl (ZPM.pi_zipM (by rfl) T.m_zip (pa_cons (pv 2) (pa_cons (pv 3) pa_nil))) (pg_tup rfl (pgs_cons (pg_name (i := 8) sc_check_turns.nd rfl (by first | exact .inl rfl | exact .inr rfl)) (pgs_cons (pg_name (i := 9) sc_check_turns.nd rfl (by first | exact .inl rfl | exact .inr rfl)) pgs_nil))) (pss_one (ps_if (pt_cmpR (op_neD hr.units) (pe_callB cr_sortedTL (by rfl) T.m_sorted (by decide +kernel) (pa_cons (pv 8) pa_nil)) (pv 9) (nomark _)) (pss_one (L2N.ps_raise rfl (L2N.takes_of rfl rfl rfl rfl) (L2N.pmk_own PySem.F.excBase_ValueError T.q_InvalidPlane T.g_InvalidPlane T.k_InvalidPlane (raises_own T.b_InvalidPlane T.y_InvalidPlane) (by rfl)))) pss_nil))))))), ?_⟩
  have lx := hx.length
  have ly := hy.length
  refine ⟨_, rfl, b, _, rfl, .inr hb, _, rfl, rfl, _, rfl, iteB (fun e1 => ?_) (fun e1 => ?_)⟩
  · refine q2 (fun g => ?_) H (Ext.refl H)
    rw [ly, g.1] at e1
    simp at e1
  have e1 : ys.length = n := by
    have : ((ys.length : Nat) : Int) = ((n : Nat) : Int) := by simpa using e1
    omega
  have z0 : List.replicate n ([] : List Nat) = leav (es.map nE) 0 n := by
    refine List.ext_getElem? fun i => ?_
    rw [List.getElem?_replicate]
    by_cases hi : i < n
    · rw [if_pos hi, leav_get hi]
      rfl
    · rw [if_neg hi, List.getElem?_eq_none (by rw [leav_len]; omega)]
  refine ⟨_, rfl, b, rfl, ⟨_, hb⟩, fun D hD => lc_tup (xs := ys) (fun i HN => ∃ as, LLs H HN D as (List.replicate i [])) ⟨[], LLs.zero hD⟩ (fun i HN _ h => by obtain ⟨as, h⟩ := h; exact h.ext.tup hb) (fun i x0 HN hi hP => ?_) (fun HN hP => ?_)⟩
  · obtain ⟨as, L⟩ := hP
    have hil := (List.getElem?_eq_some_iff.mp hi).1
    refine ⟨rfl, by rw [sizeLine_eq]; simp, fun a1 ha1 => ?_⟩
    have x1 := ext_upd (o := .lst []) ha1
    have L1 := L.up x1
    have k1 : upd HN a1 (.lst []) a1 = some (.lst (natV [])) := upd_same
    have n1 : a1 ≠ D := fun z => by
      rw [z, L.hl] at ha1
      cases ha1
    have n2 : a1 ∉ as := fun m => by
      obtain ⟨j, hj⟩ := List.getElem?_of_mem m
      have hjl := (List.getElem?_eq_some_iff.mp hj).1
      have := L.at_ j a1 _ hj (List.getElem?_eq_getElem (by rw [← L.len]; exact hjl))
      rw [ha1] at this
      cases this
    refine ⟨_, L1.hl, ?_, as ++ [a1], ?_⟩
    · have := L.len
      rw [List.length_replicate] at this
      rw [List.length_map]
      exact sl_lt (by omega)
    · rw [List.replicate_succ']
      exact L1.more k1 (L.ext.free ha1) n1 n2
  obtain ⟨as, L⟩ := hP
  rw [e1, z0] at L
  dsimp only [gName]
  have ha1 := L.ext.tup ha
  refine ⟨_, rfl, a, xs, H, rfl, L.ext, .inr ha, fun J wJ => for_enum wJ (fun i σ HA => (∃ z4 z5 z6 z7 z8 z9, σ = [some (.int ((n : Nat) : Int)), some (.ref a), some (.ref b), some (.ref D), z4, z5, z6, z7, z8, z9]) ∧ LLs H HA D as (leav (es.map nE) i n)) ⟨⟨_, _, _, _, _, _, rfl⟩, L⟩ (fun i σ HA _ h => h.2.ext) (fun i x0 T0 σ HA hi hP hT0 => ?_) (fun σ HA hP => ?_)⟩
  · obtain ⟨⟨z4, z5, z6, z7, z8, z9, rfl⟩, LA⟩ := hP
    obtain ⟨⟨u, v⟩, hei, a1, rfl, g1⟩ := paired_at hx hi
    have hm := List.mem_of_getElem? hei
    obtain ⟨u0, u1, v0, v1⟩ := hin _ hm
    obtain ⟨u, rfl⟩ := Int.eq_ofNat_of_zero_le u0
    obtain ⟨v, rfl⟩ := Int.eq_ofNat_of_zero_le v0
    have u1 : u < n := by have : ((u : Nat) : Int) < ((n : Nat) : Int) := u1; omega
    have v1 : v < n := by have : ((v : Nat) : Int) < ((n : Nat) : Int) := v1; omega
    have hil := (List.getElem?_eq_some_iff.mp hei).1
    have hee : (es.map nE)[i]? = some (u, v) := by
      rw [List.getElem?_map, hei]
      rfl
    have xT := ext_upd (o := .tup [V.int ((i : Nat) : Int), V.ref a1]) hT0
    have LB := LA.up xT
    have kT : SqT K (upd HA T0 (.tup [V.int ((i : Nat) : Int), V.ref a1])) T0 [V.int ((i : Nat) : Int), V.ref a1] := SqT.of upd_same
    generalize upd HA T0 (.tup [V.int ((i : Nat) : Int), V.ref a1]) = HB at *
    have g1' := LB.ext.tup g1
    refine ⟨T0, _, rfl, kT, rfl, _, _, rfl, _, _, rfl, a1, _, rfl, g1', rfl, _, _, rfl, _, _, rfl, rfl, rfl, ?_⟩
    dsimp only [gName]
    obtain ⟨b1, l1, hb1, hl1, hH1, nb1, fb1⟩ := LB.item (i := u) (by rw [leav_len]; exact u1)
    rw [leav_get u1] at hl1
    obtain rfl := Option.some.inj hl1
    have dl : ∀ w, (darts (es.map nE) i w).length ≤ 2 * i := fun w => by
      unfold darts
      refine Nat.le_trans (List.length_filter_le _ _) ?_
      rw [List.length_range]
      exact Nat.le_refl _
    refine ⟨_, rfl, _, rfl, D, as.map V.ref, ((u : Nat) : Int), .ref b1, rfl, rfl, SqL.of LB.hl, atI_nat (by rw [List.getElem?_map, hb1]; rfl), .inl ⟨rfl, _, SqL.of hH1⟩, _, rfl, _, _, rfl, rfl, .inl ⟨by decide, by omega⟩, b1, natV (darts (es.map nE) i u), _, rfl, rfl, hH1, ?_, ?_⟩
    · rw [natV_len]
      have := dl u
      exact sl_lt (by omega)
    have LC := LB.chg hb1 (darts (es.map nE) i u ++ [2 * i])
    have eC : natV (darts (es.map nE) i u) ++ [V.int ((2 : Int) * ((i : Nat) : Int))] = natV (darts (es.map nE) i u ++ [2 * i]) := by
      rw [natV_app]
      rfl
    dsimp only [gName]
    rw [eC]
    generalize upd HB b1 (.lst (natV (darts (es.map nE) i u ++ [2 * i]))) = HC at *
    obtain ⟨b2, l2, hb2, hl2, hH2, nb2, fb2⟩ := LC.item (i := v) (by rw [List.length_set, leav_len]; exact v1)
    have el2 : l2 = if u = v then darts (es.map nE) i u ++ [2 * i] else darts (es.map nE) i v := by
      rw [List.getElem?_set, leav_len] at hl2
      by_cases e : u = v
      · rw [if_pos e, if_pos u1] at hl2
        rw [if_pos e]
        exact (Option.some.inj hl2).symm
      · rw [if_neg e, leav_get v1] at hl2
        rw [if_neg e]
        exact (Option.some.inj hl2).symm
    have ll2 : l2.length ≤ 2 * i + 1 := by
      rw [el2]
      split
      · have := dl u
        rw [List.length_append, List.length_singleton]
        omega
      · have := dl v
        omega
    refine ⟨_, rfl, _, rfl, D, as.map V.ref, ((v : Nat) : Int), .ref b2, rfl, rfl, SqL.of LC.hl, atI_nat (by rw [List.getElem?_map, hb2]; rfl), .inl ⟨rfl, _, SqL.of hH2⟩, _, rfl, _, _, rfl, rfl, .inl ⟨by decide, by omega⟩, _, _, rfl, rfl, b2, natV l2, _, rfl, rfl, hH2, ?_, ?_⟩
    · rw [natV_len]
      exact sl_lt (by omega)
    have LD := LC.chg hb2 (l2 ++ [2 * i + 1])
    have eD : natV l2 ++ [V.int ((2 : Int) * ((i : Nat) : Int) + 1)] = natV (l2 ++ [2 * i + 1]) := by
      rw [natV_app]
      rfl
    dsimp only [gName]
    rw [eD]
    refine ⟨⟨_, _, _, _, _, _, rfl⟩, ?_⟩
    rw [leav_succ hee u1 v1, ← el2]
    exact LD
  · obtain ⟨⟨z4, z5, z6, z7, z8, z9, rfl⟩, LA⟩ := hP
    rw [lx] at LA
    have lt : tss.length = n := by omega
    have lA := LA.len
    rw [leav_len] at lA
    have eM : (es.map nE).length = es.length := List.length_map _
    refine ⟨_, rfl, _, rfl, b, D, ys, as.map V.ref, rfl, LA.ext.tup hb, SqL.of LA.hl, by rw [List.length_map]; omega, for_zipTL (by rw [List.length_map]; omega) (fun i σ HB => (∃ z4 z5 z6 z7 z8 z9, σ = [some (.int ((n : Nat) : Int)), some (.ref a), some (.ref b), some (.ref D), z4, z5, z6, z7, z8, z9]) ∧ LLs H HB D as (leav (es.map nE) es.length n) ∧ ∀ w < i, ∀ l, tss[w]? = some l → l.Perm ((darts (es.map nE) es.length w).map fun d => ((d : Nat) : Int))) ⟨⟨_, _, _, _, _, _, rfl⟩, LA, fun w h => absurd h (Nat.not_lt_zero _)⟩ (fun i σ HB h => ⟨h.2.1.ext.tup hb, SqL.of h.2.1.hl⟩) (fun i x0 y0 T0 σ HB hi hj hP hT0 => ?_) (fun σ HB hP => ?_)⟩
    · obtain ⟨⟨z4, z5, z6, z7, z8, z9, rfl⟩, LB, hall⟩ := hP
      obtain ⟨l, hli, a1, rfl, g1⟩ := paired_at hy hi
      have hil := (List.getElem?_eq_some_iff.mp hli).1
      have hin' : i < n := by omega
      obtain ⟨b1, l1, hb1, hl1, hH1, nb1, fb1⟩ := LB.item (i := i) (by rw [leav_len]; exact hin')
      rw [leav_get hin'] at hl1
      obtain rfl := Option.some.inj hl1
      rw [List.getElem?_map, hb1] at hj
      obtain rfl : V.ref b1 = y0 := Option.some.inj hj
      have xT := ext_upd (o := .tup [V.ref a1, V.ref b1]) hT0
      have LC := LB.up xT
      have kT : SqT K (upd HB T0 (.tup [V.ref a1, V.ref b1])) T0 [V.ref a1, V.ref b1] := SqT.of upd_same
      have hH1 := xT.lst hH1
      generalize upd HB T0 (.tup [V.ref a1, V.ref b1]) = HC at *
      refine ⟨T0, _, rfl, kT, rfl, _, _, rfl, _, _, rfl, rfl, ?_⟩
      dsimp only [gName]
      refine ⟨_, rfl, a1, l, rfl, LC.ext.tup g1, fun ss p hperm hsrt hp => ?_⟩
      have xp := ext_upd (o := .lst (ss.map V.int)) hp
      have LD := LC.up xp
      have kp : upd HC p (.lst (ss.map V.int)) p = some (.lst (ss.map V.int)) := upd_same
      have hH1 := xp.lst hH1
      generalize upd HC p (.lst (ss.map V.int)) = HD at *
      rw [natV_int] at hH1
      refine ⟨_, rfl, .list (intsD ss), .list (intsD ((darts (es.map nE) es.length i).map fun d => ((d : Nat) : Int))), .lst (SqL.of kp) (ints_dp _), .lst (SqL.of hH1) (ints_dp _), (gd_intsL _).sh, (gd_intsL _).sh, ?_⟩
      rw [eqv_ints]
      refine ⟨_, rfl, iteB (fun z => ?_) (fun z => ?_)⟩
      · have z : ss ≠ (darts (es.map nE) es.length i).map fun d => ((d : Nat) : Int) := by simpa using z
        refine q2 (fun g => z ?_) _ LD.ext
        have := g.2 i l hli
        rw [eM] at this
        exact (hperm.trans this).eq_of_pairwise (fun a b _ _ => Int.le_antisymm) hsrt (darts_asc _ _ _)
      · have z : ss = (darts (es.map nE) es.length i).map fun d => ((d : Nat) : Int) := by simpa using z
        refine ⟨⟨_, _, _, _, _, _, rfl⟩, LD, fun w hw l' hl' => ?_⟩
        by_cases e : w = i
        · subst e
          rw [hli] at hl'
          obtain rfl := Option.some.inj hl'
          rw [← z]
          exact hperm.symm
        · exact hall w (by omega) l' hl'
    · obtain ⟨⟨z4, z5, z6, z7, z8, z9, rfl⟩, LB, hall⟩ := hP
      refine q1 ⟨lt, fun w l h => ?_⟩ _ LB.ext
      rw [eM]
      refine hall w ?_ l h
      rw [List.length_map, lA]
      have := (List.getElem?_eq_some_iff.mp h).1
      omega
/-! ### do the vertices hang together -/
def Conn (n : Nat) (es : List (Nat × Nat)) : Prop := ∀ S : Nat → Prop, S 0 → (∀ e ∈ es, S e.1 ↔ S e.2) → ∀ w < n, S w
/-- the neighbours of a vertex, by the first k edges -/
def nears (es : List (Nat × Nat)) (k n : Nat) : List (List Nat) := (es.take k).foldl (fun l e => (l.set e.1 (l.getD e.1 [] ++ [e.2])).set e.2 ((l.set e.1 (l.getD e.1 [] ++ [e.2])).getD e.2 [] ++ [e.1])) (List.replicate n [])
theorem nears_succ {es : List (Nat × Nat)} {k n : Nat} {e : Nat × Nat} (h : es[k]? = some e) : nears es (k + 1) n = ((nears es k n).set e.1 ((nears es k n).getD e.1 [] ++ [e.2])).set e.2 (((nears es k n).set e.1 ((nears es k n).getD e.1 [] ++ [e.2])).getD e.2 [] ++ [e.1]) := by
  unfold nears
  rw [take_snoc h, List.foldl_append]
  rfl
theorem nears_len (es : List (Nat × Nat)) (n : Nat) : ∀ k, (nears es k n).length = n
  | 0 => by
    unfold nears
    rw [List.take_zero]
    exact List.length_replicate
  | k + 1 => by
    by_cases h : k < es.length
    · rw [nears_succ (List.getElem?_eq_getElem h), List.length_set, List.length_set, nears_len es n k]
    · have : es.take (k + 1) = es.take k := by rw [List.take_of_length_le (by omega), List.take_of_length_le (by omega)]
      have e : nears es (k + 1) n = nears es k n := by unfold nears; rw [this]
      rw [e, nears_len es n k]
theorem getD_set' (l : List (List Nat)) (i j : Nat) (x : List Nat) : (l.set i x).getD j [] = if i = j ∧ i < l.length then x else l.getD j [] := by
  rw [List.getD_eq_getElem?_getD, List.getElem?_set, List.getD_eq_getElem?_getD]
  by_cases h : i = j
  · by_cases g : i < l.length
    · rw [if_pos h, if_pos g, if_pos ⟨h, g⟩]
      rfl
    · rw [if_pos h, if_neg g, if_neg (fun z => g z.2), List.getElem?_eq_none (by omega)]
  · rw [if_neg h, if_neg (fun z => h z.1)]
/-- who stands in the lists: the ends of the edges -/
theorem nears_mem {es : List (Nat × Nat)} {n : Nat} (hin : ∀ e ∈ es, e.1 < n ∧ e.2 < n) : ∀ k ≤ es.length, ∀ a b, b ∈ (nears es k n).getD a [] ↔ ∃ e ∈ es.take k, (e.1 = a ∧ e.2 = b) ∨ (e.2 = a ∧ e.1 = b)
  | 0, _, a, b => by
    unfold nears
    rw [List.take_zero]
    constructor
    · intro m
      have : (List.replicate n ([] : List Nat)).getD a [] = [] := by
        rw [List.getD_eq_getElem?_getD, List.getElem?_replicate]
        split <;> rfl
      rw [show List.foldl _ (List.replicate n []) [] = List.replicate n ([] : List Nat) from rfl, this] at m
      cases m
    · rintro ⟨e, m, _⟩
      cases m
  | k + 1, hk, a, b => by
    have ih := nears_mem hin k (by omega)
    have he := List.getElem?_eq_getElem (show k < es.length by omega)
    generalize es[k] = e at he
    obtain ⟨h1, h2⟩ := hin e (List.mem_of_getElem? he)
    rw [nears_succ he, take_snoc he, getD_set', getD_set', List.length_set, nears_len, getD_set', nears_len]
    have key : (∃ x ∈ es.take k ++ [e], (x.1 = a ∧ x.2 = b) ∨ (x.2 = a ∧ x.1 = b)) ↔ (b ∈ (nears es k n).getD a [] ∨ (e.1 = a ∧ e.2 = b) ∨ (e.2 = a ∧ e.1 = b)) := by
      rw [ih]
      constructor
      · rintro ⟨x, m, h⟩
        rcases List.mem_append.mp m with m | m
        · exact .inl ⟨x, m, h⟩
        · rw [List.mem_singleton.mp m] at h
          exact .inr h
      · rintro (⟨x, m, h⟩ | h)
        · exact ⟨x, List.mem_append_left _ m, h⟩
        · exact ⟨e, by simp, h⟩
    rw [key]
    by_cases c2 : e.2 = a
    · rw [if_pos ⟨c2, h2⟩]
      by_cases c1 : e.1 = e.2
      · rw [if_pos ⟨c1, h1⟩, List.mem_append, List.mem_append, List.mem_singleton, List.mem_singleton, c1, c2]
        constructor
        · rintro ((m | m) | m)
          · exact .inl m
          · exact .inr (.inl ⟨rfl, m.symm⟩)
          · exact .inr (.inl ⟨rfl, m.symm⟩)
        · rintro (m | m | m)
          · exact .inl (.inl m)
          · exact .inr m.2.symm
          · exact .inr m.2.symm
      · rw [if_neg (fun z => c1 z.1), List.mem_append, List.mem_singleton, c2]
        constructor
        · rintro (m | m)
          · exact .inl m
          · exact .inr (.inr ⟨rfl, m.symm⟩)
        · rintro (m | m | m)
          · exact .inl m
          · exact absurd (m.1.trans c2.symm) c1
          · exact .inr m.2.symm
    · rw [if_neg (fun z => c2 z.1)]
      by_cases c1 : e.1 = a
      · rw [if_pos ⟨c1, h1⟩, List.mem_append, List.mem_singleton, c1]
        constructor
        · rintro (m | m)
          · exact .inl m
          · exact .inr (.inl ⟨rfl, m.symm⟩)
        · rintro (m | m | m)
          · exact .inl m
          · exact .inr m.2.symm
          · exact absurd m.1 c2
      · rw [if_neg (fun z => c1 z.1)]
        constructor
        · exact .inl
        · rintro (m | m | m)
          · exact m
          · exact absurd m.1 c1
          · exact absurd m.1 c2
theorem nears_lens {es : List (Nat × Nat)} {n : Nat} : ∀ k ≤ es.length, ∀ a, ((nears es k n).getD a []).length ≤ 2 * k
  | 0, _, a => by
    have : (List.replicate n ([] : List Nat)).getD a [] = [] := by
      rw [List.getD_eq_getElem?_getD, List.getElem?_replicate]
      split <;> rfl
    show ((List.replicate n ([] : List Nat)).getD a []).length ≤ _
    rw [this]
    exact Nat.le_refl _
  | k + 1, hk, a => by
    have ih := nears_lens (es := es) (n := n) k (by omega)
    have he := List.getElem?_eq_getElem (show k < es.length by omega)
    generalize es[k] = e at he
    rw [nears_succ he, getD_set', getD_set']
    have h1 := ih a
    have h2 := ih e.1
    have h3 := ih e.2
    split
    · rename_i h
      split
      · rw [List.length_append, List.length_append, List.length_singleton, List.length_singleton]
        omega
      · rw [List.length_append, List.length_singleton]
        omega
    · rw [getD_set']
      split
      · rw [List.length_append, List.length_singleton]
        omega
      · omega
/-- the state of the search -/
structure Sr (n : Nat) (es : List (Nat × Nat)) (R Wt : List Nat) : Prop where
  nd : R.Nodup
  lt : ∀ r ∈ R, r < n
  zero : 0 ∈ R
  sub : ∀ x ∈ Wt, x ∈ R
  snd : ∀ S : Nat → Prop, S 0 → (∀ e ∈ es, S e.1 ↔ S e.2) → ∀ r ∈ R, S r
theorem Sr.len {n : Nat} {es : List (Nat × Nat)} {R Wt : List Nat} (h : Sr n es R Wt) : R.length ≤ n := by
  have := List.Nodup.length_le_of_subset (l₂ := List.range n) h.nd fun x m => List.mem_range.mpr (h.lt x m)
  rwa [List.length_range] at this
theorem Sr.fin {n : Nat} {es : List (Nat × Nat)} {R : List Nat} (h : Sr n es R []) (hcl : ∀ r ∈ R, ∀ b, (∃ e ∈ es, (e.1 = r ∧ e.2 = b) ∨ (e.2 = r ∧ e.1 = b)) → b ∈ R) : R.length = n ↔ Conn n es := by
  constructor
  · intro e S h0 hS w hw
    have all : w ∈ R := Decidable.byContradiction fun nm => by
      have : (w :: R).length ≤ n := by
        have := List.Nodup.length_le_of_subset (l₂ := List.range n) (List.nodup_cons.mpr ⟨nm, h.nd⟩) fun x m => by
          rcases List.mem_cons.mp m with q | q
          · rw [q]
            exact List.mem_range.mpr hw
          · exact List.mem_range.mpr (h.lt x q)
        rwa [List.length_range] at this
      rw [List.length_cons] at this
      omega
    exact h.snd S h0 hS w all
  · intro c
    have all := c (fun x => x ∈ R) h.zero fun e m => ⟨fun k => hcl _ k _ ⟨e, m, .inl ⟨rfl, rfl⟩⟩, fun k => hcl _ k _ ⟨e, m, .inr ⟨rfl, rfl⟩⟩⟩
    have := List.Nodup.length_le_of_subset (l₁ := List.range n) (l₂ := R) List.nodup_range fun x m => all x (List.mem_range.mp m)
    rw [List.length_range] at this
    have := h.len
    omega
/-- a dict of vertices that were reached -/
def kvR (R : List Nat) : List (Key × V) := R.map fun r => (Sum.inl ((r : Nat) : Int), V.bl true)
theorem valV_kvR (r : Nat) : ∀ R : List Nat, valV (kvR R) (Sum.inl ((r : Nat) : Int)) = if r ∈ R then some (.bl true) else none
  | [] => rfl
  | q :: R => by
    show valV ((Sum.inl ((q : Nat) : Int), V.bl true) :: kvR R) _ = _
    by_cases e : q = r
    · rw [valV_pos (by rw [e]), if_pos (by rw [e]; exact List.mem_cons_self)]
    · rw [valV_neg (fun z => e (by have := Sum.inl.inj z; omega)), valV_kvR r R]
      by_cases m : r ∈ R
      · rw [if_pos m, if_pos (List.mem_cons_of_mem _ m)]
      · rw [if_neg m, if_neg (fun z => by
          rcases List.mem_cons.mp z with w | w
          · exact e w.symm
          · exact m w)]
theorem putK_kvR {r : Nat} {R : List Nat} (h : r ∉ R) : putK (kvR R) (Sum.inl ((r : Nat) : Int)) (V.bl true) = kvR (R ++ [r]) := by
  rw [putK_new _ (by rw [valV_kvR, if_neg h])]
  unfold kvR
  rw [List.map_append]
  rfl
/-- the heap of the search -/
structure SrH (K : PySem.W.Frag) (H0 HA : Hp) (D d q : Addr) (as : List Addr) (nr : List (List Nat)) (n : Nat) (es : List (Nat × Nat)) (R Wt : List Nat) : Prop where
  L : LLs H0 HA D as nr
  hd : HA d = some (.dK (kvR R))
  hq : HA q = some (.lst (natV Wt))
  d0 : H0 d = none
  q0 : H0 q = none
  dq : d ≠ q
  dD : d ≠ D
  qD : q ≠ D
  da : d ∉ as
  qa : q ∉ as
  st : Sr n es R Wt
def spTog (T : Top K mg) : Sp := fun vs H Q E => ∃ (a : Addr) (xs : List V) (es : List EgI) (n : Nat), vs = [.int ((n : Nat) : Int), .ref a] ∧ SqT K H a xs ∧ Paired (PrI K H) xs es ∧ (∀ e ∈ es, 0 ≤ e.1 ∧ e.1 < n ∧ 0 ≤ e.2 ∧ e.2 < n) ∧ es.length ≤ 1000 ∧ 1 ≤ n ∧ n ≤ 1000 ∧
  (Conn n (es.map nE) → ∀ H', Ext H H' → Q .non H') ∧ (¬ Conn n (es.map nE) → ∀ H', Ext H H' → E (.ref T.f_InvalidPlane) none H')
theorem ok_check_together (T : Top K mg) : FnOk P w K mg base (L2N.CX P w) 1 T.f_check_together T.d_check_together ["count", "edges"] (spTog T) := by
  refine T.F_check_together.okN sc_check_together (fun vs H Q E h => ?_) (fun cdv A outer s H vs Q E hr h => ?_)
  · obtain ⟨a, xs, es, n, rfl, _⟩ := h
    rfl
  obtain ⟨a, xs, es, n, rfl, ha, hx, hin, le, n1, hn, q1, q2⟩ := h
  refine ⟨_, (pss_cons (ps_setLc (i := 2) (own := [("_", 3)]) (g := gName 3) (tt := tYes) rfl sc_check_together.nd rfl rfl (sw_true rfl rfl rfl (by decide +kernel)) (pi_range1 (by rfl) T.m_range (pa_cons (pv 0) pa_nil)) (blkOk_by (own := [("_", 3)]) (N := n_check_together) (sc := defScope s_check_together) (by decide +kernel)) (fun _ _ _ _ _ => (pg_name (i := 3) sc_check_together.nd rfl (by first | exact .inl rfl | exact .inr rfl))) (fun _ _ _ _ _ => pts_nil) (fun _ _ _ _ _ => (pe_lst pa_nil)))
      (pss_cons (ps_for (passes_of rfl) rfl (pi_tup (pv 1)) (pg_tup rfl (pgs_cons (pg_name (i := 4) sc_check_together.nd rfl (by first | exact .inl rfl | exact .inr rfl)) (pgs_cons (pg_name (i := 5) sc_check_together.nd rfl (by first | exact .inl rfl | exact .inr rfl)) pgs_nil))) (pss_cons (ps_expr (pe_bm PySem.F.plainAttrs_list PySem.F.slot_list_append PySem.F.type_list_append mt_append (pe_ix ix_list (pv 2) (pv 4) (fun _ _ => rfl)) (pa_cons (pv 5) pa_nil)))
      (pss_one (ps_expr (pe_bm PySem.F.plainAttrs_list PySem.F.slot_list_append PySem.F.type_list_append mt_append (pe_ix ix_list (pv 2) (pv 5) (fun _ _ => rfl)) (pa_cons (pv 4) pa_nil))))))
      (pss_cons (ps_set (i := 6) sc_check_together.nd rfl (by first | exact .inl rfl | exact .inr rfl) (pe_disp (pps_cons pe_int pe_bl pps_nil) (by rfl) (by rfl) (fun z => by cases z) (by decide)))
      (pss_cons (ps_set (i := 7) sc_check_together.nd rfl (by first | exact .inl rfl | exact .inr rfl) (pe_lst (pa_cons pe_int pa_nil)))
      (pss_cons (ps_while (passes_of rfl) (pt_truth (pv 7) (by intro _; rfl)) (pss_cons (ps_set (i := 8) sc_check_together.nd rfl (by first | exact .inl rfl | exact .inr rfl) (pe_bm0 PySem.F.plainAttrs_list PySem.F.slot_list_pop PySem.F.type_list_pop mt_pop (pv 7)))
      (pss_one (ps_for (passes_of rfl) rfl (pi_list (pe_ix ix_list (pv 2) (pv 8) (fun _ _ => rfl))) (pg_name (i := 9) sc_check_together.nd rfl (by first | exact .inl rfl | exact .inr rfl)) (pss_one (ps_if (pt_cmp (pc_dnotin (hu_of hr) (pv 9) (pv 6))) (pss_cons (ps_dput (hu_of hr) (pv 6) (pv 9) pe_bl rfl)
      (pss_one (ps_expr (pe_bm PySem.F.plainAttrs_list PySem.F.slot_list_append PySem.F.type_list_append mt_append (pv 7) (pa_cons (pv 9) pa_nil))))) pss_nil))))))
      (pss_one (ps_if (pt_cmpR op_lt (pe_callB call_lenD (by rfl) T.m_len (by decide +kernel) (pa_cons (pv 6) pa_nil)) (pv 0) (nomark _)) (pss_one (L2N.ps_raise rfl (L2N.takes_of rfl rfl rfl rfl) (L2N.pmk_own PySem.F.excBase_ValueError T.q_InvalidPlane T.g_InvalidPlane T.k_InvalidPlane (raises_own T.b_InvalidPlane T.y_InvalidPlane) (by rfl)))) pss_nil))))))), ?_⟩
  have lx := hx.length
  have hinN : ∀ e ∈ es.map nE, e.1 < n ∧ e.2 < n := fun e m => by
    obtain ⟨f, mf, rfl⟩ := List.mem_map.mp m
    obtain ⟨h1, h2, h3, h4⟩ := hin f mf
    exact ⟨by show f.1.toNat < n; omega, by show f.2.toNat < n; omega⟩
  have eM : (es.map nE).length = es.length := List.length_map _
  refine ⟨_, rfl, _, rfl, by omega, by omega, fun D hD => lc_range (lo := 0) (n := n) (fun i HN => ∃ as, LLs H HN D as (List.replicate i [])) ⟨[], LLs.zero hD⟩ (fun i HN hi hP => ?_) (fun HN hP => ?_)⟩
  · obtain ⟨as, L⟩ := hP
    refine ⟨rfl, by rw [sizeLine_eq]; simp, fun a1 ha1 => ?_⟩
    have x1 := ext_upd (o := .lst []) ha1
    have L1 := L.up x1
    have k1 : upd HN a1 (.lst []) a1 = some (.lst (natV [])) := upd_same
    have n1 : a1 ≠ D := fun z => by
      rw [z, L.hl] at ha1
      cases ha1
    have n2 : a1 ∉ as := fun m => by
      obtain ⟨j, hj⟩ := List.getElem?_of_mem m
      have hjl := (List.getElem?_eq_some_iff.mp hj).1
      have := L.at_ j a1 _ hj (List.getElem?_eq_getElem (by rw [← L.len]; exact hjl))
      rw [ha1] at this
      cases this
    refine ⟨_, L1.hl, ?_, as ++ [a1], ?_⟩
    · have := L.len
      rw [List.length_replicate] at this
      rw [List.length_map]
      exact sl_lt (by omega)
    · rw [List.replicate_succ']
      exact L1.more k1 (L.ext.free ha1) n1 n2
  obtain ⟨as, L⟩ := hP
  have z0 : List.replicate n ([] : List Nat) = nears (es.map nE) 0 n := rfl
  rw [z0] at L
  dsimp only [gName]
  refine ⟨_, rfl, a, rfl, ⟨_, L.ext.tup ha⟩, for_tup (xs := xs) (fun i σ HA => (∃ z3 z4 z5 z6 z7 z8 z9, σ = [some (.int ((n : Nat) : Int)), some (.ref a), some (.ref D), z3, z4, z5, z6, z7, z8, z9]) ∧ LLs H HA D as (nears (es.map nE) i n)) ⟨⟨_, _, _, _, _, _, _, rfl⟩, L⟩ (fun i σ HA _ h => h.2.ext.tup ha) (fun i x0 σ HA hi hP => ?_) (fun σ HA hP => ?_)⟩
  · obtain ⟨⟨z3, z4, z5, z6, z7, z8, z9, rfl⟩, LA⟩ := hP
    obtain ⟨⟨u, v⟩, hei, a1, rfl, g1⟩ := paired_at hx hi
    have hm := List.mem_of_getElem? hei
    obtain ⟨u0, u1, v0, v1⟩ := hin _ hm
    obtain ⟨u, rfl⟩ := Int.eq_ofNat_of_zero_le u0
    obtain ⟨v, rfl⟩ := Int.eq_ofNat_of_zero_le v0
    have u1 : u < n := by have : ((u : Nat) : Int) < ((n : Nat) : Int) := u1; omega
    have v1 : v < n := by have : ((v : Nat) : Int) < ((n : Nat) : Int) := v1; omega
    have hil := (List.getElem?_eq_some_iff.mp hei).1
    have hee : (es.map nE)[i]? = some (u, v) := by
      rw [List.getElem?_map, hei]
      rfl
    refine ⟨a1, _, rfl, LA.ext.tup g1, rfl, _, _, rfl, _, _, rfl, rfl, ?_⟩
    dsimp only [gName]
    obtain ⟨b1, l1, hb1, hl1, hH1, nb1, fb1⟩ := LA.item (i := u) (by rw [nears_len]; exact u1)
    have ed1 : (nears (es.map nE) i n).getD u [] = l1 := by rw [List.getD_eq_getElem?_getD, hl1]; rfl
    have ll1 := nears_lens (es := es.map nE) (n := n) i (by omega) u
    rw [ed1] at ll1
    refine ⟨_, rfl, _, rfl, D, as.map V.ref, ((u : Nat) : Int), .ref b1, rfl, rfl, SqL.of LA.hl, atI_nat (by rw [List.getElem?_map, hb1]; rfl), .inl ⟨rfl, _, SqL.of hH1⟩, _, rfl, b1, natV l1, _, rfl, rfl, hH1, by rw [natV_len]; exact sl_lt (by omega), ?_⟩
    have LC := LA.chg hb1 (l1 ++ [v])
    have eC : natV l1 ++ [V.int ((v : Nat) : Int)] = natV (l1 ++ [v]) := by
      rw [natV_app]
      rfl
    dsimp only [gName]
    rw [eC]
    generalize upd HA b1 (.lst (natV (l1 ++ [v]))) = HC at *
    obtain ⟨b2, l2, hb2, hl2, hH2, nb2, fb2⟩ := LC.item (i := v) (by rw [List.length_set, nears_len]; exact v1)
    have ed2 : ((nears (es.map nE) i n).set u (l1 ++ [v])).getD v [] = l2 := by rw [List.getD_eq_getElem?_getD, hl2]; rfl
    have ll2 : l2.length ≤ 2 * i + 1 := by
      rw [← ed2, getD_set']
      have := nears_lens (es := es.map nE) (n := n) i (by omega) v
      split
      · rw [List.length_append, List.length_singleton]
        omega
      · omega
    refine ⟨_, rfl, _, rfl, D, as.map V.ref, ((v : Nat) : Int), .ref b2, rfl, rfl, SqL.of LC.hl, atI_nat (by rw [List.getElem?_map, hb2]; rfl), .inl ⟨rfl, _, SqL.of hH2⟩, _, rfl, b2, natV l2, _, rfl, rfl, hH2, by rw [natV_len]; exact sl_lt (by omega), ?_⟩
    have LD := LC.chg hb2 (l2 ++ [u])
    have eD : natV l2 ++ [V.int ((u : Nat) : Int)] = natV (l2 ++ [u]) := by
      rw [natV_app]
      rfl
    dsimp only [gName]
    rw [eD]
    refine ⟨⟨_, _, _, _, _, _, _, rfl⟩, ?_⟩
    rw [nears_succ hee, ed1, ed2]
    exact LD
  obtain ⟨⟨z3, z4, z5, z6, z7, z8, z9, rfl⟩, LA⟩ := hP
  rw [lx, ← eM] at LA
  dsimp only [gName]
  refine fun d hd => ?_
  obtain ⟨d0, dD, da⟩ := LA.fresh hd
  refine ⟨upd_same, [(Sum.inl 0, V.bl true)], rfl, by simp, by rw [sizeLine_eq]; simp, fun q hq => ?_⟩
  have dq : d ≠ q := fun z => by
    rw [← z, upd_same] at hq
    cases hq
  have hq' : HA q = none := by
    rw [upd_ne dq.symm, upd_ne dq.symm] at hq
    exact hq
  obtain ⟨q0, qD, qa⟩ := LA.fresh hq'
  have L6 := ((LA.up (ext_upd (o := .dK []) hd)).else (o := .dK (mergeK [] [(Sum.inl 0, V.bl true)])) d0 dD da).up (ext_upd (o := .lst [V.int 0]) hq)
  have k6 : upd (upd (upd HA d (.dK [])) d (.dK (mergeK [] [(Sum.inl 0, V.bl true)]))) q (.lst [V.int 0]) d = some (.dK (kvR [0])) := by
    rw [upd_ne dq]
    exact upd_same
  have k7 : upd (upd (upd HA d (.dK [])) d (.dK (mergeK [] [(Sum.inl 0, V.bl true)]))) q (.lst [V.int 0]) q = some (.lst (natV [0])) := upd_same
  have S6 : SrH K H (upd (upd (upd HA d (.dK [])) d (.dK (mergeK [] [(Sum.inl 0, V.bl true)]))) q (.lst [V.int 0])) D d q as (nears (es.map nE) (es.map nE).length n) n (es.map nE) [0] [0] :=
    ⟨L6, k6, k7, d0, q0, dq, dD, qD, da, qa, ⟨by simp, fun r m => by rw [List.mem_singleton.mp m]; omega, List.mem_cons_self, fun x m => m, fun S h0 _ r m => by rw [List.mem_singleton.mp m]; exact h0⟩⟩
  dsimp only [gName]
  generalize upd (upd (upd HA d (.dK [])) d (.dK (mergeK [] [(Sum.inl 0, V.bl true)]))) q (.lst [V.int 0]) = H6 at *
  clear L6 k6 k7
  have nm := nears_mem hinN (es.map nE).length (Nat.le_refl _)
  rw [List.take_length] at nm
  generalize hnr : nears (es.map nE) (es.map nE).length n = nr at *
  have lnr : nr.length = n := by rw [← hnr, nears_len]
  have nlt : ∀ x y, y ∈ nr.getD x [] → y < n := fun x y m => by
    obtain ⟨e, me, h⟩ := (nm x y).mp m
    have := hinN e me
    rcases h with h | h <;> omega
  refine ⟨fun m σ HB => ∃ R Wt z8 z9, σ = [some (.int ((n : Nat) : Int)), some (.ref a), some (.ref D), z3, z4, z5, some (.ref d), some (.ref q), z8, z9] ∧ SrH K H HB D d q as nr n (es.map nE) R Wt ∧ (∀ r ∈ R, r ∉ Wt → ∀ b ∈ nr.getD r [], b ∈ R) ∧ m = 2 * (n - R.length) + Wt.length ∧ m ≤ 2 * n, ⟨_, [0], [0], _, _, rfl, S6, fun r h1 h2 => absurd h1 h2, rfl, by show 2 * (n - 1) + 1 ≤ 2 * n; omega⟩, ?_⟩
  rintro m σ HB ⟨R, Wt, z8, z9, rfl, SB, hcl, hm, hmn⟩
  by_cases hW : Wt = []
  · subst hW
    refine ⟨_, rfl, false, .inl ⟨_, SqL.of SB.hq, rfl⟩, iteF ?_⟩
    have hR := SB.st.fin fun r hr b hb => by
      obtain ⟨e, me, h⟩ := hb
      exact hcl r hr (List.not_mem_nil) b ((nm r b).mpr ⟨e, me, h⟩)
    have lk : (kvR R).length = R.length := List.length_map _
    refine ⟨_, rfl, d, _, rfl, SB.hd, _, rfl, _, _, rfl, rfl, _, rfl, iteB (fun z => ?_) (fun z => ?_)⟩
    · have z : (((kvR R).length : Nat) : Int) < ((n : Nat) : Int) := of_decide_eq_true z
      rw [lk] at z
      exact q2 (fun c => by have := hR.mpr c; omega) _ SB.L.ext
    · have z : ¬ (((kvR R).length : Nat) : Int) < ((n : Nat) : Int) := of_decide_eq_false z
      rw [lk] at z
      have := SB.st.len
      exact q1 (hR.mp (by omega)) _ SB.L.ext
  obtain ⟨Wt', v, rfl⟩ : ∃ Wt' v, Wt = Wt' ++ [v] := ⟨Wt.dropLast, Wt.getLast hW, (List.dropLast_concat_getLast hW).symm⟩
  have eWl : natV (Wt' ++ [v]) = natV Wt' ++ [V.int ((v : Nat) : Int)] := by rw [natV_app]; rfl
  have vR : v ∈ R := SB.st.sub v (by simp)
  have vn := SB.st.lt v vR
  have lR := SB.st.len
  refine ⟨_, rfl, true, .inl ⟨_, SqL.of SB.hq, by rw [eWl]; cases Wt' <;> rfl⟩, iteT ?_⟩
  refine ⟨fun σ HB => ∃ m', m' < m ∧ ∃ R Wt z8 z9, σ = [some (.int ((n : Nat) : Int)), some (.ref a), some (.ref D), z3, z4, z5, some (.ref d), some (.ref q), z8, z9] ∧ SrH K H HB D d q as nr n (es.map nE) R Wt ∧ (∀ r ∈ R, r ∉ Wt → ∀ b ∈ nr.getD r [], b ∈ R) ∧ m' = 2 * (n - R.length) + Wt.length ∧ m' ≤ 2 * n, fun σ' H' h => h, ?_⟩
  refine ⟨_, rfl, .inl ⟨rfl, _, SqL.of SB.hq⟩, q, _, .int ((v : Nat) : Int), rfl, rfl, SB.hq, ?_, ?_⟩
  · rw [eWl, List.length_append, List.length_singleton, Nat.add_sub_cancel, List.getElem?_append_right (Nat.le_refl _), Nat.sub_self]
    rfl
  have eDr : (natV (Wt' ++ [v])).dropLast = natV Wt' := by rw [eWl, List.dropLast_concat]
  rw [eDr]
  have SC : SrH K H (upd HB q (.lst (natV Wt'))) D d q as nr n (es.map nE) R Wt' := by
    refine ⟨SB.L.else SB.q0 SB.qD SB.qa, by rw [upd_ne SB.dq]; exact SB.hd, upd_same, SB.d0, SB.q0, SB.dq, SB.dD, SB.qD, SB.da, SB.qa, ⟨SB.st.nd, SB.st.lt, SB.st.zero, fun x mx => SB.st.sub x (List.mem_append_left _ mx), SB.st.snd⟩⟩
  have hcl' : ∀ r ∈ R, r ∉ Wt' → r ≠ v → ∀ b ∈ nr.getD r [], b ∈ R := fun r hr h1 h2 => hcl r hr fun m => by
    rcases List.mem_append.mp m with m | m
    · exact h1 m
    · exact h2 (List.mem_singleton.mp m)
  dsimp only [gName]
  generalize upd HB q (.lst (natV Wt')) = HC at *
  obtain ⟨b1, l1, hb1, hl1, hH1, nb1, fb1⟩ := SC.L.item (i := v) (by rw [lnr]; exact vn)
  have ed1 : nr.getD v [] = l1 := by rw [List.getD_eq_getElem?_getD, hl1]; rfl
  have hm' : m = 2 * (n - R.length) + (Wt'.length + 1) := by rw [hm, List.length_append]; rfl
  refine ⟨_, rfl, _, rfl, D, as.map V.ref, ((v : Nat) : Int), .ref b1, rfl, rfl, SqL.of SC.L.hl, atI_nat (by rw [List.getElem?_map, hb1]; rfl), b1, rfl, ⟨_, SqL.of hH1⟩, for_list (xs := natV l1) (fun j σ HD => ∃ R' Wt2 z9, σ = [some (.int ((n : Nat) : Int)), some (.ref a), some (.ref D), z3, z4, z5, some (.ref d), some (.ref q), some (.int ((v : Nat) : Int)), z9] ∧ SrH K H HD D d q as nr n (es.map nE) R' Wt2 ∧ (∀ r ∈ R', r ∉ Wt2 → r ≠ v → ∀ b ∈ nr.getD r [], b ∈ R') ∧ (∀ b ∈ l1.take j, b ∈ R') ∧ 2 * (n - R'.length) + Wt2.length + 1 ≤ m ∧ v ∈ R') ⟨R, Wt', _, rfl, SC, hcl', fun b mb => by simp at mb, by omega, vR⟩ (fun j σ HD _ h => ?_) (fun j x0 σ HD hj hP => ?_) (fun σ HD hP => ?_)⟩
  · obtain ⟨R', Wt2, z9, _, S, _⟩ := h
    exact SqL.of (S.L.at_ v b1 l1 hb1 hl1)
  · obtain ⟨R', Wt2, z9, rfl, SD, hc1, hc2, hm2, vR'⟩ := hP
    obtain ⟨b, hb, rfl⟩ : ∃ b, l1[j]? = some b ∧ x0 = .int ((b : Nat) : Int) := by
      unfold natV at hj
      rw [List.getElem?_map] at hj
      obtain ⟨b, h1, h2⟩ := Option.map_eq_some_iff.mp hj
      exact ⟨b, h1, h2.symm⟩
    have hbm := List.mem_of_getElem? hb
    have bn : b < n := nlt v b (by rw [ed1]; exact hbm)
    dsimp only [gName]
    have hg := DGet.k (k := Sum.inl ((b : Nat) : Int)) SD.hd
    rw [valV_kvR] at hg
    refine ⟨_, rfl, _, rfl, d, _, rfl, hg, _, rfl, iteB (fun z => ?_) (fun z => ?_)⟩
    · have nb : b ∉ R' := fun mb => by
        rw [if_pos mb] at z
        cases z
      have lR' : R'.length < n := by
        have := List.Nodup.length_le_of_subset (l₂ := List.range n) (List.nodup_cons.mpr ⟨nb, SD.st.nd⟩) fun x m => by
          rcases List.mem_cons.mp m with w | w
          · rw [w]
            exact List.mem_range.mpr bn
          · exact List.mem_range.mpr (SD.st.lt x w)
        rw [List.length_range, List.length_cons] at this
        exact this
      have lk : (kvR R').length = R'.length := List.length_map _
      have lw : Wt2.length ≤ 2 * n + 1 := by omega
      refine ⟨_, rfl, _, rfl, d, _, rfl, DPut.k (k := Sum.inl ((b : Nat) : Int)) SD.hd (sl_lt (by omega)), ?_⟩
      rw [putK_kvR nb]
      refine ⟨_, rfl, .inl ⟨rfl, _, SqL.of (by rw [upd_ne SD.dq.symm]; exact SD.hq)⟩, _, rfl, q, natV Wt2, _, rfl, rfl, by rw [upd_ne SD.dq.symm]; exact SD.hq, by rw [natV_len]; exact sl_lt (by omega), ?_⟩
      have eW : natV Wt2 ++ [V.int ((b : Nat) : Int)] = natV (Wt2 ++ [b]) := by rw [natV_app]; rfl
      rw [eW]
      refine ⟨R' ++ [b], Wt2 ++ [b], _, rfl, ⟨(SD.L.else SD.d0 SD.dD SD.da).else SD.q0 SD.qD SD.qa, by rw [upd_ne SD.dq]; exact upd_same, upd_same, SD.d0, SD.q0, SD.dq, SD.dD, SD.qD, SD.da, SD.qa, ⟨?_, fun r m => ?_, List.mem_append_left _ SD.st.zero, fun x m => ?_, fun S h0 hS r m => ?_⟩⟩, fun r hr h1 h2 c mc => ?_, fun c mc => ?_, ?_, List.mem_append_left _ vR'⟩
      · exact List.nodup_append.mpr ⟨SD.st.nd, by simp, fun x hx y hy e => nb (by rw [← List.mem_singleton.mp hy, ← e]; exact hx)⟩
      · rcases List.mem_append.mp m with m | m
        · exact SD.st.lt r m
        · rw [List.mem_singleton.mp m]
          exact bn
      · rcases List.mem_append.mp m with m | m
        · exact List.mem_append_left _ (SD.st.sub x m)
        · exact List.mem_append_right _ m
      · rcases List.mem_append.mp m with m | m
        · exact SD.st.snd S h0 hS r m
        · rw [List.mem_singleton.mp m]
          have hv := SD.st.snd S h0 hS v vR'
          obtain ⟨e, me, h⟩ := (nm v b).mp (by rw [ed1]; exact hbm)
          have := hS e me
          rcases h with ⟨h1, h2⟩ | ⟨h1, h2⟩
          · rw [h1, h2] at this
            exact this.mp hv
          · rw [h1, h2] at this
            exact this.mpr hv
      · rcases List.mem_append.mp hr with hr | hr
        · exact List.mem_append_left _ (hc1 r hr (fun m => h1 (List.mem_append_left _ m)) h2 c mc)
        · exact absurd (List.mem_append_right _ hr) h1
      · rw [take_snoc hb] at mc
        rcases List.mem_append.mp mc with mc | mc
        · exact List.mem_append_left _ (hc2 c mc)
        · exact List.mem_append_right _ mc
      · rw [List.length_append, List.length_append, List.length_singleton]
        omega
    · have bR : b ∈ R' := Decidable.byContradiction fun nb => by
        rw [if_neg nb] at z
        cases z
      refine ⟨R', Wt2, _, rfl, SD, hc1, fun c mc => ?_, hm2, vR'⟩
      rw [take_snoc hb] at mc
      rcases List.mem_append.mp mc with mc | mc
      · exact hc2 c mc
      · rw [List.mem_singleton.mp mc]
        exact bR
  · obtain ⟨R', Wt2, z9, rfl, SD, hc1, hc2, hm2, vR'⟩ := hP
    rw [natV_len, List.take_length] at hc2
    refine ⟨2 * (n - R'.length) + Wt2.length, by omega, R', Wt2, _, _, rfl, SD, fun r hr h1 c mc => ?_, rfl, by omega⟩
    by_cases e : r = v
    · rw [e, ed1] at mc
      exact hc2 c mc
    · exact hc1 r hr h1 e c mc
/-! ### the program's faces -/
/-- tuples of naturals -/
def TuN (K : PySem.W.Frag) (H : Hp) (v : V) (l : List Nat) : Prop := ∃ a, v = .ref a ∧ SqT K H a (natV l)
theorem tun_up {H H' : Hp} (s : Ext H H') {xs : List V} {ls : List (List Nat)} (h : Paired (TuN K H) xs ls) : Paired (TuN K H') xs ls := paired_imp (fun _ _ ⟨a, e, g⟩ => ⟨a, e, s.tup g⟩) h
/-- a dict from naturals to naturals -/
def DF (H : Hp) (d : Addr) (n : Nat) (f : Nat → Option Nat) : Prop := ∃ kvs, H d = some (.dK kvs) ∧ kvs.length ≤ n ∧ ∀ x : Nat, valV kvs (Sum.inl ((x : Nat) : Int)) = (f x).map fun y => V.int ((y : Nat) : Int)
theorem DF.zero {H : Hp} {d : Addr} : DF (upd H d (.dK [])) d 0 (fun _ => none) := ⟨[], upd_same, Nat.le_refl _, fun _ => rfl⟩
theorem DF.up {H H' : Hp} {d : Addr} {n : Nat} {f : Nat → Option Nat} (h : DF H d n f) (s : Ext H H') : DF H' d n f := by
  obtain ⟨kvs, h1, h2, h3⟩ := h
  exact ⟨kvs, s.keep _ _ h1 (fun _ z => by cases z), h2, h3⟩
theorem DF.else {H : Hp} {d : Addr} {n : Nat} {f : Nat → Option Nat} (h : DF H d n f) {b : Addr} {o : HO} (e : d ≠ b) : DF (upd H b o) d n f := by
  obtain ⟨kvs, h1, h2, h3⟩ := h
  exact ⟨kvs, by rw [upd_ne e]; exact h1, h2, h3⟩
theorem DF.put {H : Hp} {d : Addr} {n : Nat} {f : Nat → Option Nat} (h : DF H d n f) (hn : n < 1000000) (x y : Nat) : ∃ H', DPut H d (V.int ((x : Nat) : Int)) (V.int ((y : Nat) : Int)) H' ∧ ∃ kvs, H' = upd H d (.dK kvs) ∧ DF H' d (n + 1) (fun z => if z = x then some y else f z) := by
  obtain ⟨kvs, h1, h2, h3⟩ := h
  refine ⟨_, DPut.k (k := Sum.inl ((x : Nat) : Int)) h1 (sl_lt (by omega)), _, rfl, _, upd_same, Nat.le_trans (length_putK _ _ _) (by omega), fun z => ?_⟩
  rw [valV_put]
  by_cases e : z = x
  · rw [if_pos (by rw [e])]
    show _ = Option.map _ (if z = x then some y else f z)
    rw [if_pos e]
    rfl
  · rw [if_neg (fun w => e (by have := Sum.inl.inj w; omega))]
    show _ = Option.map _ (if z = x then some y else f z)
    rw [if_neg e]
    exact h3 z
theorem DF.get {H : Hp} {d : Addr} {n : Nat} {f : Nat → Option Nat} (h : DF H d n f) (x : Nat) : DGet H d (V.int ((x : Nat) : Int)) ((f x).map fun y => V.int ((y : Nat) : Int)) := by
  obtain ⟨kvs, h1, h2, h3⟩ := h
  rw [← h3]
  exact DGet.k (k := Sum.inl ((x : Nat) : Int)) h1
theorem valV_drop (kvs : List (Key × V)) (k j : Key) : valV (dropK kvs k) j = if j = k then none else valV kvs j := by
  induction kvs with
  | nil => split <;> rfl
  | cons p r ih =>
    unfold dropK at ih ⊢
    by_cases h : p.1 = k
    · rw [List.filter_cons_of_neg (by simp [h]), ih]
      by_cases e : j = k
      · rw [if_pos e, if_pos e]
      · rw [if_neg e, if_neg e, valV_neg (fun z => e (by rw [← z, h]))]
    · rw [List.filter_cons_of_pos (by simp [h])]
      by_cases g : p.1 = j
      · rw [valV_pos g, valV_pos g, if_neg (fun z => h (g.trans z))]
      · rw [valV_neg g, valV_neg g, ih]
theorem DF.isD {H : Hp} {d : Addr} {n : Nat} {f : Nat → Option Nat} (h : DF H d n f) : IsD H d := by
  obtain ⟨kvs, h1, _⟩ := h
  exact .inl ⟨kvs, .inl h1⟩
theorem nxtA_zip (h : Nat) : ∀ {l : List Nat}, l.Nodup → ∀ {j d : Nat}, l[j]? = some d → (l.drop 1 ++ [h])[j]? = some (PG.nxtA h l d)
  | [], _, j, d, e => by simp at e
  | x :: l, nd, j, d, e => by
    obtain ⟨n1, n2⟩ := List.nodup_cons.mp nd
    cases j with
    | zero =>
      have e : x = d := Option.some.inj e
      subst e
      rw [PG.nxtA, if_pos rfl]
      cases l with
      | nil => rfl
      | cons y l => rfl
    | succ j =>
      have e : l[j]? = some d := by simpa using e
      have hm := List.mem_of_getElem? e
      rw [PG.nxtA, if_neg (fun z : x = d => n1 (z ▸ hm))]
      have ih := nxtA_zip h n2 e
      cases l with
      | nil => simp at e
      | cons y l =>
        show (y :: l ++ [h])[j + 1]? = _
        have : (y :: l ++ [h])[j + 1]? = (l ++ [h])[j]? := rfl
        rw [this]
        exact ih
theorem nxt_zip {own : List Nat} (nd : own.Nodup) {j d : Nat} (e : own[j]? = some d) : (own.drop 1 ++ own.take 1)[j]? = some (PG.nxt own d) := by
  unfold PG.nxt
  have h := nxtA_zip (own.headD 0) nd e
  cases own with
  | nil => simp at e
  | cons x l => exact h
theorem exor1 (d : Nat) : Builtin.bitXor ((d : Nat) : Int) 1 = ((d ^^^ 1 : Nat) : Int) := by
  rw [show (1 : Int) = ((1 : Nat) : Int) from rfl, Bits.bitXor_pp (Int.natCast_nonneg _) (Int.natCast_nonneg _), Int.toNat_natCast, Int.toNat_natCast]
theorem cutN (xs : List V) (k : Nat) : cutV xs none (some ((k : Nat) : Int)) = xs.take k := by
  unfold cutV
  rw [HT.sIx_none, HT.sIx_nat, List.drop_zero, Nat.sub_zero]
  rw [List.take_eq_take_iff]
  omega
theorem cutD (xs : List V) (k : Nat) : cutV xs (some ((k : Nat) : Int)) none = xs.drop k := by
  unfold cutV
  rw [HT.sIx_none, HT.sIx_nat]
  by_cases h : k ≤ xs.length
  · rw [Nat.min_eq_left h, List.take_of_length_le (by rw [List.length_drop]; exact Nat.le_refl _)]
  · rw [Nat.min_eq_right (by omega), List.drop_of_length_le (by omega : xs.length ≤ k), List.drop_of_length_le (Nat.le_refl _)]
    exact List.take_nil
theorem slA_of {H : Hp} {a : Addr} {xs : List V} {lo hi : Option Int} {Q : VK} (h : SqT K H a xs) (q : ∀ p H', Ext H H' → SqT K H' p (cutV xs lo hi) → Q (.ref p) H') : rSlA K (.ref a) lo hi H Q := by
  refine ⟨a, xs, rfl, h, fun z => q a H (Ext.refl H) ?_, fun _ p hp => q p _ (ext_upd hp) (SqT.of upd_same)⟩
  unfold cutV
  rw [z.1, z.2, List.drop_zero, Nat.sub_zero, List.take_length]
  exact h
theorem catA_of {H : Hp} {a b : Addr} {xs ys : List V} {Q : VK} (ha : SqT K H a xs) (hb : SqT K H b ys) (hl : xs.length + ys.length ≤ 1000000) (q : ∀ p H', Ext H H' → SqT K H' p (xs ++ ys) → Q (.ref p) H') : rCatA K (.ref a) (.ref b) H Q := by
  refine ⟨a, b, xs, ys, rfl, rfl, ha, hb, sl_of hl, fun e => q b H (Ext.refl H) ?_, fun _ e => q a H (Ext.refl H) ?_, fun _ _ p hp => q p _ (ext_upd hp) (SqT.of upd_same)⟩
  · rw [e]
    exact hb
  · rw [e, List.append_nil]
    exact ha
/-- the dict of those that follow, where the darts of L have been seen to -/
def FFm (ts : List (List Nat)) (L : List Nat) (x : Nat) : Option Nat := if x ^^^ 1 ∈ L then some (fol ts (x ^^^ 1)) else none
theorem FFm_snoc (ts : List (List Nat)) (L : List Nat) (d : Nat) : (fun z => if z = d ^^^ 1 then some (fol ts d) else FFm ts L z) = FFm ts (L ++ [d]) := by
  funext z
  unfold FFm
  by_cases e : z = d ^^^ 1
  · have e2 : z ^^^ 1 = d := by rw [e, PG.xor1_xor1]
    rw [if_pos e, e2, if_pos (by simp)]
  · have e2 : z ^^^ 1 ≠ d := fun h => e (by rw [← h, PG.xor1_xor1])
    rw [if_neg e]
    by_cases m : z ^^^ 1 ∈ L
    · rw [if_pos m, if_pos (List.mem_append_left _ m)]
    · rw [if_neg m, if_neg (fun h => by
        rcases List.mem_append.mp h with h | h
        · exact m h
        · exact e2 (List.mem_singleton.mp h))]
theorem FFm_perm {ts : List (List Nat)} {L M : List Nat} (p : L.Perm M) : FFm ts L = FFm ts M := by
  funext z
  unfold FFm
  by_cases m : z ^^^ 1 ∈ L
  · rw [if_pos m, if_pos (p.mem_iff.mp m)]
  · rw [if_neg m, if_neg (fun h => m (p.mem_iff.mpr h))]
/-- what is left of it, where F has been found and t walked -/
def FLm (f : Nat → Nat) (N : Nat) (F t : List Nat) (x : Nat) : Option Nat := if x < N ∧ x ∉ F ∧ x ∉ t then some (f x) else none
theorem FFm_all (ts : List (List Nat)) (m : Nat) : FFm ts (List.range (2 * m)) = FLm (phi (fol ts)) (2 * m) [] [] := by
  funext z
  unfold FFm FLm
  by_cases h : z < 2 * m
  · rw [if_pos (List.mem_range.mpr (PG.xor1_lt h)), if_pos ⟨h, List.not_mem_nil, List.not_mem_nil⟩]
    rfl
  · have : ¬ z ^^^ 1 < 2 * m := fun w => h (by have := PG.xor1_lt w; rwa [PG.xor1_xor1] at this)
    rw [if_neg (fun w => this (List.mem_range.mp w)), if_neg (fun w => h w.1)]
theorem FLm_pop (f : Nat → Nat) (N : Nat) (F t : List Nat) (c : Nat) : (fun z => if z = c then none else FLm f N F t z) = FLm f N F (t ++ [c]) := by
  funext z
  unfold FLm
  by_cases e : z = c
  · rw [if_pos e, if_neg (fun w => w.2.2 (by rw [e]; simp))]
  · rw [if_neg e]
    by_cases h : z < N ∧ z ∉ F ∧ z ∉ t
    · rw [if_pos h, if_pos ⟨h.1, h.2.1, fun w => by
        rcases List.mem_append.mp w with w | w
        · exact h.2.2 w
        · exact e (List.mem_singleton.mp w)⟩]
    · rw [if_neg h, if_neg (fun w => h ⟨w.1, w.2.1, fun m => w.2.2 (List.mem_append_left _ m)⟩)]
theorem FLm_move (f : Nat → Nat) (N : Nat) (fs : List (List Nat)) (t : List Nat) : FLm f N fs.flatten t = FLm f N (if t = [] then fs else fs ++ [t]).flatten [] := by
  funext z
  unfold FLm
  by_cases e : t = []
  · rw [if_pos e, e]
  · rw [if_neg e, PG.flat_snoc]
    by_cases h : z < N ∧ z ∉ fs.flatten ∧ z ∉ t
    · rw [if_pos h, if_pos ⟨h.1, fun w => by
        rcases List.mem_append.mp w with w | w
        · exact h.2.1 w
        · exact h.2.2 w, List.not_mem_nil⟩]
    · rw [if_neg h, if_neg (fun w => h ⟨w.1, fun m => w.2.1 (List.mem_append_left _ m), fun m => w.2.1 (List.mem_append_right _ m)⟩)]
theorem sqt_dk {H : Hp} {d : Addr} {kvs : List (Key × V)} {o : HO} {a : Addr} {xs : List V} (hd : H d = some (.dK kvs)) (h : SqT K H a xs) : SqT K (upd H d o) a xs := by
  have ne : ∀ {x : HO}, H a = some x → (∀ k, x ≠ .dK k) → a ≠ d := fun e n z => by
    rw [z, hd] at e
    exact n _ (Option.some.inj e).symm
  rcases h with (h | ⟨o', h⟩) | h
  · exact .inl (.inl (by rw [upd_ne (ne h fun _ z => by cases z)]; exact h))
  · exact .inl (.inr ⟨o', by rw [upd_ne (ne h fun _ z => by cases z)]; exact h⟩)
  · exact .inr h
theorem DF.pop {H : Hp} {d : Addr} {n : Nat} {f : Nat → Option Nat} (h : DF H d n f) {c y : Nat} (hc : f c = some y) : ∃ kvs, H d = some (.dK kvs) ∧ valV kvs (Sum.inl ((c : Nat) : Int)) = some (V.int ((y : Nat) : Int)) ∧ DF (upd H d (.dK (dropK kvs (Sum.inl ((c : Nat) : Int))))) d n (fun z => if z = c then none else f z) := by
  obtain ⟨kvs, h1, h2, h3⟩ := h
  refine ⟨kvs, h1, by rw [h3, hc]; rfl, _, upd_same, Nat.le_trans (dropK_le _ _) h2, fun z => ?_⟩
  rw [valV_drop]
  by_cases e : z = c
  · rw [if_pos (by rw [e])]
    show _ = Option.map _ (if z = c then none else f z)
    rw [if_pos e]
    rfl
  · rw [if_neg (fun w => e (by have := Sum.inl.inj w; omega))]
    show _ = Option.map _ (if z = c then none else f z)
    rw [if_neg e]
    exact h3 z
theorem tun_updL {H : Hp} {D : Addr} {o : HO} {acc xs : List V} {ls : List (List Nat)} (hD : H D = some (.lst acc)) (h : Paired (TuN K H) xs ls) : Paired (TuN K (upd H D o)) xs ls := paired_imp (fun _ _ ⟨a, e, g⟩ => ⟨a, e, by
  rcases g with (g | ⟨o', g⟩) | g
  · exact .inl (.inl (by rw [upd_ne (ne_of g hD (by intro z; cases z))]; exact g))
  · exact .inl (.inr ⟨o', by rw [upd_ne (ne_of g hD (by intro z; cases z))]; exact g⟩)
  · exact .inr g⟩) h
theorem tun_updD {H : Hp} {D : Addr} {o : HO} {kvs : List (Key × V)} {xs : List V} {ls : List (List Nat)} (hD : H D = some (.dK kvs)) (h : Paired (TuN K H) xs ls) : Paired (TuN K (upd H D o)) xs ls := paired_imp (fun _ _ ⟨a, e, g⟩ => ⟨a, e, sqt_dk hD g⟩) h
def spFaces (T : Top K mg) : Sp := fun vs H Q _ => ∃ (p dx eb tb : Addr) (n : Int) (xs ys : List V) (m : Nat) (ts : List (List Nat)), vs = [.ref p] ∧ H p = some (.ins T.C_Plane dx [("count", .int n), ("edges", .ref eb), ("turns", .ref tb)]) ∧ SqT K H eb xs ∧ xs.length = m ∧ SqT K H tb ys ∧ Paired (TuN K H) ys ts ∧ ts.flatten.Perm (List.range (2 * m)) ∧ m ≤ 1000 ∧
  ∀ l H' zs fs, Ext H H' → H l = none → H' l = some (.lst zs) → Paired (TuN K H') zs fs → FcOf m ts fs → Q (.ref l) H'
theorem ok_faces (T : Top K mg) : FnOk P w K mg base CX0 1 T.f_faces T.d_faces ["plane"] (spFaces T) := by
  refine T.F_faces.ok sc_faces (fun vs H Q E h => ?_) (fun cdv A outer s H vs Q E hr h => ?_)
  · obtain ⟨p, dx, eb, tb, n, xs, ys, m, ts, rfl, _⟩ := h
    rfl
  obtain ⟨p, dx, eb, tb, n, xs, ys, m, ts, rfl, hp, he, hm, ht, hy, hperm, hm2, q⟩ := h
  refine ⟨_, (pss_cons (ps_if (pt_not (pt_truth (pe_fld (pv 0) rfl) (by intro _; rfl))) (pss_one (ps_ret (pe_lst (pa_cons (pe_tup pa_nil) pa_nil)))) pss_nil)
      (pss_cons (ps_set (i := 1) sc_faces.nd rfl (by first | exact .inl rfl | exact .inr rfl) pe_dnewK)
      (pss_cons (ps_for PassesOwn.never rfl (pi_tup (pe_fld (pv 0) rfl)) (pg_name (i := 2) sc_faces.nd rfl (by first | exact .inl rfl | exact .inr rfl)) (pss_one (ps_for PassesOwn.never rfl (RZ.pi_zipA (by rfl) T.m_zip (pa_cons (pv 2) (pa_cons (pe_op op_catA (pe_slice sl_tupA (pv 2) (po_some pe_int) po_none) (pe_slice sl_tupA (pv 2) po_none (po_some pe_int))) pa_nil))) (pg_tup rfl (pgs_cons (pg_name (i := 3) sc_faces.nd rfl (by first | exact .inl rfl | exact .inr rfl)) (pgs_cons (pg_name (i := 4) sc_faces.nd rfl (by first | exact .inl rfl | exact .inr rfl)) pgs_nil))) (pss_one (ps_dput (hu_of hr) (pv 1) (pe_op op_xor (pv 3) pe_int) (pv 4) rfl)))))
      (pss_cons (ps_set (i := 5) sc_faces.nd rfl (by first | exact .inl rfl | exact .inr rfl) (pe_lst pa_nil))
      (pss_cons (ps_for PassesOwn.never rfl (pi_range1 (by rfl) T.m_range (pa_cons (pe_op op_mul pe_int (pe_callB call_len_seq (by rfl) T.m_len (by decide +kernel) (pa_cons (pe_fld (pv 0) rfl) pa_nil))) pa_nil)) (pg_name (i := 6) sc_faces.nd rfl (by first | exact .inl rfl | exact .inr rfl)) (pss_cons (ps_set (i := 7) sc_faces.nd rfl (by first | exact .inl rfl | exact .inr rfl) (pe_lst pa_nil))
      (pss_cons (ps_set (i := 3) sc_faces.nd rfl (by first | exact .inl rfl | exact .inr rfl) (pv 6))
      (pss_cons (ps_while PassesOwn.never (pt_cmp (pc_din (hu_of hr) (pv 3) (pv 1))) (pss_cons (ps_expr (pe_bm PySem.F.plainAttrs_list PySem.F.slot_list_append PySem.F.type_list_append mt_append (pv 7) (pa_cons (pv 3) pa_nil)))
      (pss_one (ps_set (i := 3) sc_faces.nd rfl (by first | exact .inl rfl | exact .inr rfl) (pe_dpop1 (pv 1) (pv 3) ⟨rfl, rfl, rfl, rfl⟩)))))
      (pss_one (ps_if (pt_truth (pv 7) (by intro _; rfl)) (pss_one (ps_expr (pe_bm PySem.F.plainAttrs_list PySem.F.slot_list_append PySem.F.type_list_append mt_append (pv 5) (pa_cons (pe_callTy call_tuple_of (by rfl) T.m_tuple (by decide +kernel) (pa_cons (pv 7) pa_nil)) pa_nil)))) pss_nil))))))
      (pss_one (ps_ret (pv 5)))))))), ?_⟩
  have ly := hy.length
  refine ⟨_, rfl, p, T.C_Plane, dx, _, .ref eb, rfl, hp, T.cl_Plane, T.na_Plane_edges, rfl, (!xs.isEmpty), .inr (.inl ⟨xs, he, rfl⟩), ?_⟩
  by_cases hx : xs = []
  · have m0 : m = 0 := by rw [← hm, hx]; rfl
    subst hx
    refine iteT ⟨by rw [sizeLine_eq]; simp, fun t0 h0 => ⟨by rw [sizeLine_eq]; simp, fun l hl => ?_⟩⟩
    have x0 := ext_upd (o := .tup []) h0
    have x1 := ext_upd (o := .lst [V.ref t0]) hl
    refine q l _ [V.ref t0] [[]] (x0.trans x1) (x0.free hl) upd_same (.cons ⟨t0, rfl, x1.tup (SqT.of upd_same)⟩ .nil) ?_
    unfold FcOf
    rw [if_pos m0]
  have mp : 0 < m := by
    rw [← hm]
    exact List.length_pos_iff.mpr hx
  have eX : (!xs.isEmpty) = true := by cases xs with | nil => exact absurd rfl hx | cons a b => rfl
  rw [eX]
  refine iteF ?_
  have nf : ts.flatten.Nodup := hperm.nodup_iff.mpr List.nodup_range
  refine fun d hd => ?_
  have xd := ext_upd (o := .dK []) hd
  have D0 := DF.zero (H := H) (d := d)
  dsimp only [gName]
  generalize upd H d (.dK []) = H1 at *
  have hp1 : H1 p = some (.ins T.C_Plane dx [("count", .int n), ("edges", .ref eb), ("turns", .ref tb)]) := xd.keep _ _ hp (fun _ z => by cases z)
  refine ⟨_, rfl, p, T.C_Plane, dx, _, .ref tb, rfl, hp1, T.cl_Plane, T.na_Plane_turns, rfl, tb, rfl, ⟨_, xd.tup ht⟩, for_tup (xs := ys) (fun i σ HA => (∃ y2 y3 y4, σ = [some (.ref p), some (.ref d), y2, y3, y4, none, none, none]) ∧ Ext H HA ∧ DF HA d (ts.take i).flatten.length (FFm ts (ts.take i).flatten)) ⟨⟨_, _, _, rfl⟩, xd, D0⟩ (fun i σ HA _ h => h.2.1.tup ht) (fun i x0 σ HA hi hP => ?_) (fun σ HA hP => ?_)⟩
  · obtain ⟨⟨y2, y3, y4, rfl⟩, sA, DA⟩ := hP
    obtain ⟨own, hoi, a1, rfl, g1⟩ := paired_at hy hi
    have hom := List.mem_of_getElem? hoi
    have nown := PG.own_nodup nf hom
    have flen : ts.flatten.length = 2 * m := by rw [hperm.length_eq, List.length_range]
    have tk : (ts.take (i + 1)).flatten = (ts.take i).flatten ++ own := by rw [take_snoc hoi]; simp
    have tkl : (ts.take i).flatten.length + own.length ≤ 2 * m := by
      have : (ts.take (i + 1)).flatten.length ≤ ts.flatten.length := by
        have e := List.take_append_drop (i + 1) ts
        have : ts.flatten = (ts.take (i + 1)).flatten ++ (ts.drop (i + 1)).flatten := by rw [← List.flatten_append, e]
        rw [this, List.length_append]
        omega
      rw [tk, List.length_append, flen] at this
      exact this
    have g1' := sA.tup g1
    dsimp only [gName]
    refine ⟨_, rfl, _, rfl, _, rfl, ?_⟩
    unfold tNoPart
    refine slA_of g1' fun p1 H2 s2 h2 => ?_
    have e1 : cutV (natV own) (some 1) none = natV (own.drop 1) := by
      rw [show (some (1 : Int)) = some (((1 : Nat) : Int)) from rfl, cutD]
      unfold natV
      rw [List.map_drop]
    rw [e1] at h2
    refine ⟨_, rfl, _, rfl, slA_of (s2.tup g1') fun p2 H3 s3 h3 => ?_⟩
    have e2 : cutV (natV own) none (some 1) = natV (own.take 1) := by
      rw [show (some (1 : Int)) = some (((1 : Nat) : Int)) from rfl, cutN]
      unfold natV
      rw [List.map_take]
    rw [e2] at h3
    have ll : (natV (own.drop 1)).length + (natV (own.take 1)).length ≤ 1000000 := by
      rw [natV_len, natV_len, List.length_drop, List.length_take]
      omega
    refine catA_of (s3.tup h2) h3 ll fun p3 H4 s4 h4 => ?_
    rw [← natV_app] at h4
    have s24 := (s2.trans s3).trans s4
    have lz : (own.drop 1 ++ own.take 1).length = own.length := by
      rw [List.length_append, List.length_drop, List.length_take]
      omega
    have sA4 := sA.trans s24
    refine ⟨a1, p3, _, _, rfl, .inr ⟨s24.tup g1', h4, for_zipM (by rw [natV_len, natV_len, lz]; exact Nat.le_refl _) (fun j σ HB => (∃ y3 y4, σ = [some (.ref p), some (.ref d), some (.ref a1), y3, y4, none, none, none]) ∧ Ext H HB ∧ SqT K HB p3 (natV (own.drop 1 ++ own.take 1)) ∧ DF HB d ((ts.take i).flatten ++ own.take j).length (FFm ts ((ts.take i).flatten ++ own.take j))) ⟨⟨_, _, rfl⟩, sA4, h4, by rw [List.take_zero, List.append_nil]; exact DA.up s24⟩ (fun j σ HB h => ⟨h.2.1.tup g1, h.2.2.1⟩) (fun j x y T0 σ HB hj hj2 hP hT0 => ?_) (fun σ HB hP => ?_)⟩⟩
    · obtain ⟨⟨y3, y4, rfl⟩, sB, h4B, DB⟩ := hP
      obtain ⟨dd, hdd, rfl⟩ : ∃ dd, own[j]? = some dd ∧ x = .int ((dd : Nat) : Int) := by
        unfold natV at hj
        rw [List.getElem?_map] at hj
        obtain ⟨b, h1, h2⟩ := Option.map_eq_some_iff.mp hj
        exact ⟨b, h1, h2.symm⟩
      have hnz := nxt_zip nown hdd
      rw [natV_get hnz] at hj2
      obtain rfl := Option.some.inj hj2
      have efol : PG.nxt own dd = fol ts dd := (PG.fol_at nf hom (List.mem_of_getElem? hdd)).symm
      rw [efol]
      have xT := ext_upd (o := .tup [V.int ((dd : Nat) : Int), V.int ((fol ts dd : Nat) : Int)]) hT0
      have kT : SqT K (upd HB T0 (.tup [V.int ((dd : Nat) : Int), V.int ((fol ts dd : Nat) : Int)])) T0 [V.int ((dd : Nat) : Int), V.int ((fol ts dd : Nat) : Int)] := SqT.of upd_same
      have DC := DB.up xT
      have h4C := xT.tup h4B
      have sC := sB.trans xT
      generalize upd HB T0 (.tup [V.int ((dd : Nat) : Int), V.int ((fol ts dd : Nat) : Int)]) = HC at *
      refine ⟨T0, _, rfl, kT, rfl, _, _, rfl, _, _, rfl, rfl, ?_⟩
      dsimp only [gName]
      have hjl := (List.getElem?_eq_some_iff.mp hdd).1
      obtain ⟨HD, hput, kvs, eHD, DD⟩ := DC.put (by rw [List.length_append, List.length_take]; omega) (dd ^^^ 1) (fol ts dd)
      refine ⟨_, rfl, _, rfl, _, rfl, _, _, rfl, rfl, d, HD, rfl, by rw [show (fun i j : Int => V.int (Builtin.bitXor i j)) ((dd : Nat) : Int) 1 = V.int ((dd ^^^ 1 : Nat) : Int) from congrArg V.int (exor1 dd)]; exact hput, ⟨_, _, rfl⟩, ?_, ?_, ?_⟩
      · rw [eHD]
        exact sC.own hd
      · rw [eHD]
        obtain ⟨k0, hk0, _⟩ := DC
        exact sqt_dk hk0 h4C
      · rw [FFm_snoc] at DD
        rw [take_snoc hdd, ← List.append_assoc, List.length_append, List.length_singleton]
        exact DD
    · obtain ⟨⟨y3, y4, rfl⟩, sB, h4B, DB⟩ := hP
      rw [natV_len, lz, List.take_length, ← tk] at DB
      exact ⟨⟨_, _, _, rfl⟩, sB, DB⟩
  obtain ⟨⟨y2, y3, y4, rfl⟩, sA, DA⟩ := hP
  rw [ly, List.take_length, FFm_perm hperm, FFm_all, hperm.length_eq, List.length_range] at DA
  have PM := PG.phi_pmu hperm
  dsimp only [gName]
  refine ⟨by rw [sizeLine_eq]; simp, fun fl hfl => ?_⟩
  have xf := ext_upd (o := .lst []) hfl
  have kf : upd HA fl (.lst []) fl = some (.lst []) := upd_same
  have DF1 := DA.up xf
  have sF := sA.trans xf
  have fl0 := sA.free hfl
  have ndf : d ≠ fl := fun z => by
    obtain ⟨k0, hk0, _⟩ := DA
    rw [← z, hk0] at hfl
    cases hfl
  dsimp only [gName]
  generalize upd HA fl (.lst []) = H5 at *
  have hp5 : H5 p = some (.ins T.C_Plane dx [("count", .int n), ("edges", .ref eb), ("turns", .ref tb)]) := sF.keep _ _ hp (fun _ z => by cases z)
  refine ⟨_, rfl, p, T.C_Plane, dx, _, .ref eb, rfl, hp5, T.cl_Plane, T.na_Plane_edges, rfl, eb, _, rfl, .inr (sF.tup he), _, _, rfl, rfl, .inl ⟨by decide, by omega⟩, ?_⟩
  rw [hm]
  refine ⟨_, rfl, by omega, by omega, for_range (lo := 0) (n := ((2 : Int) * ((m : Nat) : Int)).toNat) (fun i σ HB => (∃ y2 y3 y4 y6 y7, σ = [some (.ref p), some (.ref d), y2, y3, y4, some (.ref fl), y6, y7]) ∧ Ext H HB ∧ ∃ fs zs, HB fl = some (.lst zs) ∧ Paired (TuN K HB) zs fs ∧ TrOk (phi (fol ts)) (2 * m) i fs ∧ zs.length ≤ i ∧ DF HB d (2 * m) (FLm (phi (fol ts)) (2 * m) fs.flatten [])) ⟨⟨_, _, _, _, _, rfl⟩, sF, [], [], kf, .nil, TrOk.zero _ _, Nat.le_refl _, DF1⟩ (fun i σ HB hi hP => ?_) (fun σ HB hP => ?_)⟩
  · obtain ⟨⟨y2, y3, y4, y6, y7, rfl⟩, sB, fs, zs, hzs, hpz, TR, lz, DB⟩ := hP
    have him : i < 2 * m := by
      have : ((2 : Int) * ((m : Nat) : Int)).toNat = 2 * m := by omega
      omega
    rw [Int.zero_add]
    dsimp only [gName]
    refine ⟨by rw [sizeLine_eq]; simp, fun ta hta => ?_⟩
    have xa := ext_upd (o := .lst []) hta
    have ka : upd HB ta (.lst []) ta = some (.lst (natV [])) := upd_same
    have ta0 := sB.free hta
    have nta : ta ≠ fl := fun z => by
      rw [z, hzs] at hta
      cases hta
    have ntd : d ≠ ta := fun z => by
      obtain ⟨k0, hk0, _⟩ := DB
      rw [← z, hk0] at hta
      cases hta
    have DC := DB.up xa
    have hzC := xa.lst hzs
    have hpC := tun_up xa hpz
    have sC := sB.trans xa
    dsimp only [gName]
    generalize upd HB ta (.lst []) = HC at *
    refine ⟨_, rfl, ?_⟩
    dsimp only [gName]
    refine ⟨fun k σ HD => ∃ t cur y2 y4, σ = [some (.ref p), some (.ref d), y2, some (.int ((cur : Nat) : Int)), y4, some (.ref fl), some (.int ((i : Nat) : Int)), some (.ref ta)] ∧ Ext H HD ∧ HD fl = some (.lst zs) ∧ Paired (TuN K HD) zs fs ∧ HD ta = some (.lst (natV t)) ∧ DF HD d (2 * m) (FLm (phi (fol ts)) (2 * m) fs.flatten t) ∧ InOk (phi (fol ts)) (2 * m) i fs t cur ∧ k = 2 * m - t.length, ⟨_, [], i, _, _, rfl, sC, hzC, hpC, ka, DC, InOk.zero him, rfl⟩, ?_⟩
    rintro k σ HD ⟨t, cur, y2, y4, rfl, sD, hzD, hpD, kD, DD, IO, hk⟩
    have ltl := IO.len
    refine ⟨_, rfl, _, rfl, d, _, rfl, DD.get cur, _, rfl, ?_⟩
    by_cases hc : cur ∉ fs.flatten ∧ cur ∉ t
    · have ef : FLm (phi (fol ts)) (2 * m) fs.flatten t cur = some (phi (fol ts) cur) := by
        unfold FLm
        rw [if_pos ⟨IO.cl, hc.1, hc.2⟩]
      rw [ef]
      refine iteT ?_
      refine ⟨fun σ HD => ∃ k', k' < k ∧ ∃ t cur y2 y4, σ = [some (.ref p), some (.ref d), y2, some (.int ((cur : Nat) : Int)), y4, some (.ref fl), some (.int ((i : Nat) : Int)), some (.ref ta)] ∧ Ext H HD ∧ HD fl = some (.lst zs) ∧ Paired (TuN K HD) zs fs ∧ HD ta = some (.lst (natV t)) ∧ DF HD d (2 * m) (FLm (phi (fol ts)) (2 * m) fs.flatten t) ∧ InOk (phi (fol ts)) (2 * m) i fs t cur ∧ k' = 2 * m - t.length, fun σ' H' h => h, ?_⟩
      have IO2 := IO.step PM hc.1 hc.2
      have l2 := IO2.len
      rw [List.length_append, List.length_singleton] at l2
      refine ⟨_, rfl, .inl ⟨rfl, _, SqL.of kD⟩, _, rfl, ta, natV t, _, rfl, rfl, kD, by rw [natV_len]; exact sl_lt (by omega), ?_⟩
      have eC : natV t ++ [V.int ((cur : Nat) : Int)] = natV (t ++ [cur]) := by rw [natV_app]; rfl
      dsimp only [gName]
      rw [eC]
      have DE := DD.else (b := ta) (o := .lst (natV (t ++ [cur]))) ntd
      have kE : upd HD ta (.lst (natV (t ++ [cur]))) ta = some (.lst (natV (t ++ [cur]))) := upd_same
      have sE := sD.own (o := .lst (natV (t ++ [cur]))) ta0
      have hzE : upd HD ta (.lst (natV (t ++ [cur]))) fl = some (.lst zs) := by rw [upd_ne nta.symm]; exact hzD
      have hpE := tun_updL (o := .lst (natV (t ++ [cur]))) kD hpD
      generalize upd HD ta (.lst (natV (t ++ [cur]))) = HE at *
      obtain ⟨kvs, hkv, hval, DG⟩ := DE.pop ef
      refine ⟨_, rfl, d, rfl, DE.isD, _, rfl, kvs, Sum.inl ((cur : Nat) : Int), _, hkv, rfl, hval, ?_⟩
      dsimp only [gName]
      rw [FLm_pop] at DG
      refine ⟨2 * m - (t ++ [cur]).length, by rw [List.length_append, List.length_singleton]; omega, t ++ [cur], phi (fol ts) cur, _, _, rfl, sE.own hd, by rw [upd_ne ndf.symm]; exact hzE, tun_updD hkv hpE, by rw [upd_ne ntd.symm]; exact kE, DG, IO2, rfl⟩
    · have ef : FLm (phi (fol ts)) (2 * m) fs.flatten t cur = none := by
        unfold FLm
        rw [if_neg (fun h => hc h.2)]
      rw [ef]
      refine iteF ?_
      have hmem : cur ∈ fs.flatten ∨ cur ∈ t := by
        by_cases h1 : cur ∈ fs.flatten
        · exact .inl h1
        · exact .inr (Decidable.byContradiction fun h2 => hc ⟨h1, h2⟩)
      have TR2 := IO.stop PM TR him hmem
      have DG := DD
      rw [FLm_move] at DG
      refine ⟨_, rfl, (!(natV t).isEmpty), .inl ⟨_, SqL.of kD, rfl⟩, ?_⟩
      by_cases et : t = []
      · subst et
        rw [if_pos rfl] at TR2 DG
        exact iteF ⟨⟨_, _, _, _, _, rfl⟩, sD, fs, zs, hzD, hpD, TR2, by omega, DG⟩
      · rw [if_neg et] at TR2 DG
        have eE : (!(natV t).isEmpty) = true := by
          cases t with
          | nil => exact absurd rfl et
          | cons a b => rfl
        rw [eE]
        refine iteT ⟨_, rfl, .inl ⟨rfl, _, SqL.of hzD⟩, _, rfl, ta, natV t, rfl, .inl ⟨SqL.of kD, fun p9 hp9 => ?_⟩⟩
        have x9 := ext_upd (o := .tup (natV t)) hp9
        have hz9 := x9.lst hzD
        have hp9' := tun_up x9 hpD
        have D9 := DG.up x9
        have t9 : SqT K (upd HD p9 (.tup (natV t))) p9 (natV t) := SqT.of upd_same
        have s9 := sD.trans x9
        generalize upd HD p9 (.tup (natV t)) = H9 at *
        refine ⟨fl, zs, _, rfl, rfl, hz9, sl_lt (by omega), ⟨_, _, _, _, _, rfl⟩, s9.own fl0, fs ++ [t], zs ++ [.ref p9], upd_same, ?_, TR2, by rw [List.length_append, List.length_singleton]; omega, D9.else ndf⟩
        exact tun_updL hz9 (paired_snoc hp9' ⟨p9, rfl, t9⟩)
  · obtain ⟨⟨y2, y3, y4, y6, y7, rfl⟩, sB, fs, zs, hzs, hpz, TR, lz, DB⟩ := hP
    have e2 : ((2 : Int) * ((m : Nat) : Int)).toNat = 2 * m := by omega
    rw [e2] at TR
    refine ⟨_, rfl, q fl HB zs fs sB fl0 hzs hpz ?_⟩
    unfold FcOf
    rw [if_neg (by omega)]
    exact TR.fin
def rTupOf (K : PySem.W.Frag) : List V → Hp → VK → Prop := fun xs H Q => ∃ p ys, xs = [.ref p] ∧ ((SqL K H p ys ∧ ∀ l, H l = none → Q (.ref l) (upd H l (.tup ys))) ∨ (SqT K H p ys ∧ Q (.ref p) H))
/-- a list or a tuple at a -/
abbrev Sq (K : PySem.W.Frag) (H : Hp) (a : Addr) (xs : List V) : Prop := SqL K H a xs ∨ SqT K H a xs
theorem _root_.EXT.Ext.sq {H H' : Hp} (s : Ext H H') {a : Addr} {xs : List V} (h : Sq K H a xs) : Sq K H' a xs := h.imp s.seq s.tup
/-! ### a plane graph made -/
theorem sqt_insP {H : Hp} {p : Addr} {C dx : Addr} {fs : List (Str × V)} {o : HO} {a : Addr} {xs : List V} (hp : H p = some (.ins C dx fs)) (h : SqT K H a xs) : SqT K (upd H p o) a xs := by
  rcases h with (h | ⟨o', h⟩) | h
  · exact .inl (.inl (by rw [upd_ne (ne_of h hp (by intro z; cases z))]; exact h))
  · exact .inl (.inr ⟨o', by rw [upd_ne (ne_of h hp (by intro z; cases z))]; exact h⟩)
  · exact .inr h
def toN (tss : List (List Int)) : List (List Nat) := tss.map fun l => l.map Int.toNat
theorem flat_perm : ∀ {as bs : List (List Nat)}, as.length = bs.length → (∀ (i : Nat) (a b : List Nat), as[i]? = some a → bs[i]? = some b → a.Perm b) → as.flatten.Perm bs.flatten
  | [], [], _, _ => List.Perm.refl _
  | [], _ :: _, h, _ => nomatch h
  | _ :: _, [], h, _ => nomatch h
  | a :: as, b :: bs, h, k => by
    rw [List.flatten_cons, List.flatten_cons]
    exact (k 0 a b rfl rfl).append (flat_perm (Nat.succ.inj h) fun i x y hx hy => k (i + 1) x y (by simpa using hx) (by simpa using hy))
theorem leav_perm {es : List (Nat × Nat)} {k n : Nat} (h : ∀ d < 2 * k, org es d < n) : (leav es k n).flatten.Perm (List.range (2 * k)) := by
  have nd : (leav es k n).flatten.Nodup := by
    unfold leav
    rw [← List.flatMap_def]
    refine List.pairwise_flatMap.mpr ⟨fun w _ => List.Pairwise.filter _ List.nodup_range, ?_⟩
    refine List.Pairwise.imp ?_ (List.pairwise_lt_range (n := n))
    intro a b hab x hx y hy e
    have h1 := of_decide_eq_true (List.mem_filter.mp hx).2
    have h2 := of_decide_eq_true (List.mem_filter.mp hy).2
    rw [e, h2] at h1
    omega
  refine (List.perm_ext_iff_of_nodup nd List.nodup_range).mpr fun d => ?_
  unfold leav
  rw [← List.flatMap_def, List.mem_flatMap]
  constructor
  · rintro ⟨w, _, m⟩
    exact (List.mem_filter.mp m).1
  · intro m
    exact ⟨org es d, List.mem_range.mpr (h d (List.mem_range.mp m)), List.mem_filter.mpr ⟨m, decide_eq_true rfl⟩⟩
theorem org_lt {es : List (Nat × Nat)} {n : Nat} (h : ∀ e ∈ es, e.1 < n ∧ e.2 < n) {d : Nat} (hd : d < 2 * es.length) : org es d < n := by
  have hk : d / 2 < es.length := by omega
  have e := List.getElem?_eq_getElem hk
  have hm := h _ (List.getElem_mem hk)
  unfold org
  rw [List.getD_eq_getElem?_getD, e]
  split
  · exact hm.1
  · exact hm.2
theorem goodT_nat {n : Nat} {es : List (Nat × Nat)} {tss : List (List Int)} (h : goodT n es tss) (hin : ∀ e ∈ es, e.1 < n ∧ e.2 < n) : (toN tss).flatten.Perm (List.range (2 * es.length)) ∧ (∀ l ∈ tss, l = (l.map Int.toNat).map fun d => ((d : Nat) : Int)) := by
  have key : ∀ l ∈ tss, (∀ x ∈ l, 0 ≤ x) := fun l m x mx => by
    obtain ⟨w, hw⟩ := List.getElem?_of_mem m
    have hm := (h.2 w l hw).mem_iff.mp mx
    obtain ⟨d, _, rfl⟩ := List.mem_map.mp hm
    exact Int.natCast_nonneg _
  refine ⟨(flat_perm ?_ fun i a b ha hb => ?_).trans (leav_perm (n := n) fun d hd => org_lt hin hd), fun l m => ?_⟩
  · rw [leav_len]
    unfold toN
    rw [List.length_map, h.1]
  · unfold toN at ha
    rw [List.getElem?_map] at ha
    obtain ⟨l, hl, rfl⟩ := Option.map_eq_some_iff.mp ha
    have hi : i < n := by
      have := (List.getElem?_eq_some_iff.mp hl).1
      rw [h.1] at this
      exact this
    rw [leav_get hi] at hb
    obtain rfl := Option.some.inj hb
    have := (h.2 i l hl).map Int.toNat
    rw [List.map_map] at this
    simpa [Function.comp_def] using this
  · rw [List.map_map]
    refine ((List.map_congr_left fun x mx => ?_).trans (List.map_id l)).symm
    have := key l m x mx
    show ((x.toNat : Nat) : Int) = x
    omega
theorem tun_of {H : Hp} : ∀ {ys : List V} {tss : List (List Int)}, Paired (TuI K H) ys tss → (∀ l ∈ tss, l = (l.map Int.toNat).map fun d => ((d : Nat) : Int)) → Paired (TuN K H) ys (toN tss)
  | _, _, .nil, _ => .nil
  | _, _, .cons (b := l) ⟨a, e, g⟩ t, h => by
    refine .cons ⟨a, e, ?_⟩ (tun_of t fun x m => h x (List.mem_cons_of_mem _ m))
    rw [natV_int]
    rw [h l List.mem_cons_self] at g
    exact g
def goodP (n : Nat) (es : List EgI) (tss : List (List Int)) : Prop := goodE n es ∧ goodT n (es.map nE) tss ∧ Conn n (es.map nE) ∧ ∀ fs, FcOf es.length (toN tss) fs → fs.length + n = 2 + es.length
/-- a plane graph in the heap -/
def PlAt (T : Top K mg) (H : Hp) (p : Addr) (n : Nat) (es : List EgI) (tss : List (List Int)) : Prop := ∃ dx eb tb xs ys, H p = some (.ins T.C_Plane dx [("count", .int ((n : Nat) : Int)), ("edges", .ref eb), ("turns", .ref tb)]) ∧ SqT K H eb xs ∧ Paired (PrI K H) xs es ∧ SqT K H tb ys ∧ Paired (TuI K H) ys tss
theorem PlAt.up {T : Top K mg} {H H' : Hp} {p : Addr} {n : Nat} {es : List EgI} {tss : List (List Int)} (h : PlAt T H p n es tss) (s : Ext H H') : PlAt T H' p n es tss := by
  obtain ⟨dx, eb, tb, xs, ys, h1, h2, h3, h4, h5⟩ := h
  exact ⟨dx, eb, tb, xs, ys, s.keep _ _ h1 (fun _ z => by cases z), s.tup h2, pri_up s h3, s.tup h4, tui_up s h5⟩
def spPl (T : Top K mg) : Sp := fun vs H Q E => ∃ (p dx ea ta : Addr) (xs ys : List V) (es : List EgI) (tss : List (List Int)) (n : Nat) (H0 : Hp), vs = [.ref p, .int ((n : Nat) : Int), .ref ea, .ref ta] ∧ H p = some (.ins T.C_Plane dx []) ∧ H0 p = none ∧ Ext H0 H ∧ (SqL K H0 ea xs ∨ SqT K H0 ea xs) ∧ Paired (PrI K H0) xs es ∧ (SqL K H0 ta ys ∨ SqT K H0 ta ys) ∧ Paired (TuI K H0) ys tss ∧ es.length ≤ 1000 ∧ tss.length ≤ 1000 ∧ n ≤ 1000 ∧ (∀ l ∈ tss, l.length ≤ 1000) ∧ Tg T H0 ∧
  (goodP n es tss → ∀ H', Ext H0 H' → PlAt T H' p n es tss → Q .non H') ∧ (¬ goodP n es tss → ∀ H', Ext H0 H' → E (.ref T.f_InvalidPlane) none H')
theorem ok_Plane_init (T : Top K mg) (B : Tb T base) : FnOk P w K mg base (L2N.CX P w) 4 T.f_Plane_init T.d_Plane_init ["self", "count", "edges", "turns"] (spPl T) := by
  refine T.F_Plane_init.okN sc_Plane_init (fun vs H Q E h => ?_) (fun A outer s H vs Q E hr h => ?_)
  · obtain ⟨p, dx, ea, ta, xs, ys, es, tss, n, H0, rfl, _⟩ := h
    rfl
  obtain ⟨p, dx, ea, ta, xs, ys, es, tss, n, H0, rfl, hp, h0, s0, he, hes, ht, hts, le, lt, ln, ll, G, q1, q2⟩ := h
  refine ⟨_, (pss_cons (ps_fld (pv 0) (pv 1) rfl)
      (C8.pss_cut (ps_fld (pv 0) (GXP.pe_tupleGx (own := [("edge", 4)]) (g := gName 4) (tt := tYes) (k := 2) (c := T.c_Plane_init) (P := T.P_Plane_init) (by rfl) T.m_tuple ⟨hr.mono (by decide), rfl, B.t_Plane_init, rfl, rfl, blkOk_by (own := [("edge", 4)]) (N := n_Plane_init) (sc := defScope s_Plane_init) (by decide +kernel), sc_Plane_init.nd, by decide +kernel, rfl, (pi_seq (pv 2)), fun A s H C cl code bi fp hrA => (pg_name (i := 4) sc_Plane_init.nd rfl (by first | exact .inl rfl | exact .inr rfl)), fun A s H C cl code bi fp hrA => pts_nil, fun A s H C cl code bi fp hrA => (pe_callTy (T := "tuple") (r := rTupOf K) call_tuple_of (by rfl) T.m_tuple (by decide +kernel) (pa_cons (pv 4) pa_nil)), fun _ => rfl⟩) rfl)
      (C8.pss_cut (ps_fld (pv 0) (GXP.pe_tupleGx (own := [("turn", 5)]) (g := gName 5) (tt := tYes) (k := 2) (c := T.c_Plane_init) (P := T.P_Plane_init) (by rfl) T.m_tuple ⟨hr.mono (by decide), rfl, B.t_Plane_init, rfl, rfl, blkOk_by (own := [("turn", 5)]) (N := n_Plane_init) (sc := defScope s_Plane_init) (by decide +kernel), sc_Plane_init.nd, by decide +kernel, rfl, (pi_seq (pv 3)), fun A s H C cl code bi fp hrA => (pg_name (i := 5) sc_Plane_init.nd rfl (by first | exact .inl rfl | exact .inr rfl)), fun A s H C cl code bi fp hrA => pts_nil, fun A s H C cl code bi fp hrA => (pe_callTy (T := "tuple") (r := rTupOf K) call_tuple_of (by rfl) T.m_tuple (by decide +kernel) (pa_cons (pv 5) pa_nil)), fun _ => rfl⟩) rfl)
      (pss_cons (ps_expr (pe_call (ok_check_edges T) (hr.mono (by decide)) (by rfl) T.g_check_edges T.F_check_edges.kp T.b_check_edges .nil (L2N.passes_call (L2N.takes_of rfl rfl rfl rfl) (fun _ _ _ _ h => h)) (pa_cons (pe_fld (pv 0) rfl) (pa_cons (pe_fld (pv 0) rfl) pa_nil))))
      (pss_cons (ps_expr (pe_call (ok_check_turns T) (hr.mono (by decide)) (by rfl) T.g_check_turns T.F_check_turns.kp T.b_check_turns .nil (L2N.passes_call (L2N.takes_of rfl rfl rfl rfl) (fun _ _ _ _ h => h)) (pa_cons (pe_fld (pv 0) rfl) (pa_cons (pe_fld (pv 0) rfl) (pa_cons (pe_fld (pv 0) rfl) pa_nil)))))
      (pss_cons (ps_expr (pe_call (ok_check_together T) (hr.mono (by decide)) (by rfl) T.g_check_together T.F_check_together.kp T.b_check_together .nil (L2N.passes_call (L2N.takes_of rfl rfl rfl rfl) (fun _ _ _ _ h => h)) (pa_cons (pe_fld (pv 0) rfl) (pa_cons (pe_fld (pv 0) rfl) pa_nil))))
      (pss_one (ps_if (pt_cmpR op_ne (pe_callB call_len_seq (by rfl) T.m_len (by decide +kernel) (pa_cons (pe_call (ok_faces T) (hr.mono (by decide)) (by rfl) T.g_faces T.F_faces.kp T.b_faces .nil pass0 (pa_cons (pv 0) pa_nil)) pa_nil)) (pe_op op_add (pe_op op_sub pe_int (pe_fld (pv 0) rfl)) (pe_callB call_len_seq (by rfl) T.m_len (by decide +kernel) (pa_cons (pe_fld (pv 0) rfl) pa_nil))) (nomark _)) (pss_one (L2N.ps_raise rfl (L2N.takes_of rfl rfl rfl rfl) (L2N.pmk_own PySem.F.excBase_ValueError T.q_InvalidPlane T.g_InvalidPlane T.k_InvalidPlane (raises_own T.b_InvalidPlane T.y_InvalidPlane) (by rfl)))) pss_nil)))))))), ?_⟩
  have lx := hes.length
  have ly := hts.length
  refine ⟨_, rfl, _, rfl, p, T.C_Plane, dx, [], rfl, hp, T.cl_Plane, T.na_Plane_count, by decide, ?_⟩
  have e0 : upd H p (.ins T.C_Plane dx (putF "count" (.int ((n : Nat) : Int)) [])) = upd H p (.ins T.C_Plane dx [("count", .int ((n : Nat) : Int))]) := rfl
  have s1 : Ext H0 (upd H p (.ins T.C_Plane dx [("count", .int ((n : Nat) : Int))])) := s0.own h0
  have hp1 : upd H p (.ins T.C_Plane dx [("count", .int ((n : Nat) : Int))]) p = some (.ins T.C_Plane dx [("count", .int ((n : Nat) : Int))]) := upd_same
  have e0' : ∀ {D : Ends} {σ : L2.St} {t : TS}, t D σ (upd H p (.ins T.C_Plane dx [("count", .int ((n : Nat) : Int))])) → t D σ (upd H p (.ins T.C_Plane dx (putF "count" (.int ((n : Nat) : Int)) []))) := fun h => h
  refine e0' ?_
  generalize upd H p (.ins T.C_Plane dx [("count", .int ((n : Nat) : Int))]) = H1 at *
  refine ⟨fun σ H2 => σ = [some (.ref p), some (.int ((n : Nat) : Int)), some (.ref ea), some (.ref ta), none, none] ∧ ∃ eb, Ext H0 H2 ∧ H2 p = some (.ins T.C_Plane dx [("count", .int ((n : Nat) : Int)), ("edges", .ref eb)]) ∧ SqT K H2 eb xs, ?_, ?_⟩
  · have tb := (G.ext s1).t_Plane_init
    rcases he with he | he
    · refine ⟨_, rfl, ea, rfl, .inl ⟨⟨_, s1.seq he⟩, tb, fun H2 t2 => ?_⟩⟩
      have s2 := s1.tabbed tb t2
      have hp2 := (ext_tabbed tb t2).keep p _ hp1 (fun _ z => by cases z)
      refine gx_list (xs := xs) (fun i zs H3 => H3 = H2 ∧ zs = xs.take i) ⟨rfl, rfl⟩ (fun i zs H3 _ h => by rw [h.1]; exact s2.seq he) (fun i x zs H3 hi hP => ?_) (fun zs H3 hP => ?_)
      · obtain ⟨rfl, rfl⟩ := hP
        obtain ⟨e, hei, a1, rfl, g1⟩ := paired_at hes hi
        refine ⟨rfl, _, rfl, a1, _, rfl, .inr ⟨s2.tup g1, ?_, rfl, ?_⟩⟩
        · rw [List.length_take]
          exact sl_lt (by omega)
        · rw [List.take_add_one, hi]
          rfl
      · obtain ⟨rfl, rfl⟩ := hP
        intro l hl
        have np : p ≠ l := ne_of_none hp2 hl
        refine ⟨_, rfl, p, T.C_Plane, dx, _, rfl, by rw [upd_ne np]; exact hp2, T.cl_Plane, T.na_Plane_edges, (by show 1 < 1000; decide), rfl, l, (s2.new hl).own h0, by rw [upd_same]; rfl, ?_⟩
        rw [List.take_length]
        exact SqT.of (by rw [upd_ne np.symm]; exact upd_same)
    · refine ⟨_, rfl, ea, rfl, .inr ⟨⟨_, s1.tup he⟩, tb, fun H2 t2 => ?_⟩⟩
      have s2 := s1.tabbed tb t2
      have hp2 := (ext_tabbed tb t2).keep p _ hp1 (fun _ z => by cases z)
      refine gx_tup (xs := xs) (fun i zs H3 => H3 = H2 ∧ zs = xs.take i) ⟨rfl, rfl⟩ (fun i zs H3 _ h => by rw [h.1]; exact s2.tup he) (fun i x zs H3 hi hP => ?_) (fun zs H3 hP => ?_)
      · obtain ⟨rfl, rfl⟩ := hP
        obtain ⟨e, hei, a1, rfl, g1⟩ := paired_at hes hi
        refine ⟨rfl, _, rfl, a1, _, rfl, .inr ⟨s2.tup g1, ?_, rfl, ?_⟩⟩
        · rw [List.length_take]
          exact sl_lt (by omega)
        · rw [List.take_add_one, hi]
          rfl
      · obtain ⟨rfl, rfl⟩ := hP
        intro l hl
        have np : p ≠ l := ne_of_none hp2 hl
        refine ⟨_, rfl, p, T.C_Plane, dx, _, rfl, by rw [upd_ne np]; exact hp2, T.cl_Plane, T.na_Plane_edges, (by show 1 < 1000; decide), rfl, l, (s2.new hl).own h0, by rw [upd_same]; rfl, ?_⟩
        rw [List.take_length]
        exact SqT.of (by rw [upd_ne np.symm]; exact upd_same)
  rintro σ H2 ⟨rfl, eb, s2, hp2, heb⟩
  refine ⟨fun σ H3 => σ = [some (.ref p), some (.int ((n : Nat) : Int)), some (.ref ea), some (.ref ta), none, none] ∧ ∃ tb, Ext H0 H3 ∧ H3 p = some (.ins T.C_Plane dx [("count", .int ((n : Nat) : Int)), ("edges", .ref eb), ("turns", .ref tb)]) ∧ SqT K H3 eb xs ∧ SqT K H3 tb ys, ?_, ?_⟩
  · have tb := (G.ext s2).t_Plane_init
    rcases ht with ht | ht
    · refine ⟨_, rfl, ta, rfl, .inl ⟨⟨_, s2.seq ht⟩, tb, fun H3 t3 => ?_⟩⟩
      have s3 := s2.tabbed tb t3
      have x3 := ext_tabbed tb t3
      have hp3 := x3.keep p _ hp2 (fun _ z => by cases z)
      have heb3 := x3.tup heb
      refine gx_list (xs := ys) (fun i zs H4 => H4 = H3 ∧ zs = ys.take i) ⟨rfl, rfl⟩ (fun i zs H4 _ h => by rw [h.1]; exact s3.seq ht) (fun i x zs H4 hi hP => ?_) (fun zs H4 hP => ?_)
      · obtain ⟨rfl, rfl⟩ := hP
        obtain ⟨e, hei, a1, rfl, g1⟩ := paired_at hts hi
        refine ⟨rfl, _, rfl, a1, _, rfl, .inr ⟨s3.tup g1, ?_, rfl, ?_⟩⟩
        · rw [List.length_take]
          exact sl_lt (by omega)
        · rw [List.take_add_one, hi]
          rfl
      · obtain ⟨rfl, rfl⟩ := hP
        intro l hl
        have np : p ≠ l := ne_of_none hp3 hl
        refine ⟨_, rfl, p, T.C_Plane, dx, _, rfl, by rw [upd_ne np]; exact hp3, T.cl_Plane, T.na_Plane_turns, (by show 2 < 1000; decide), rfl, l, (s3.new hl).own h0, by rw [upd_same]; rfl, ?_, ?_⟩
        · exact sqt_insP (by rw [upd_ne np]; exact hp3) ((ext_upd hl).tup heb3)
        · rw [List.take_length]
          exact SqT.of (by rw [upd_ne np.symm]; exact upd_same)
    · refine ⟨_, rfl, ta, rfl, .inr ⟨⟨_, s2.tup ht⟩, tb, fun H3 t3 => ?_⟩⟩
      have s3 := s2.tabbed tb t3
      have x3 := ext_tabbed tb t3
      have hp3 := x3.keep p _ hp2 (fun _ z => by cases z)
      have heb3 := x3.tup heb
      refine gx_tup (xs := ys) (fun i zs H4 => H4 = H3 ∧ zs = ys.take i) ⟨rfl, rfl⟩ (fun i zs H4 _ h => by rw [h.1]; exact s3.tup ht) (fun i x zs H4 hi hP => ?_) (fun zs H4 hP => ?_)
      · obtain ⟨rfl, rfl⟩ := hP
        obtain ⟨e, hei, a1, rfl, g1⟩ := paired_at hts hi
        refine ⟨rfl, _, rfl, a1, _, rfl, .inr ⟨s3.tup g1, ?_, rfl, ?_⟩⟩
        · rw [List.length_take]
          exact sl_lt (by omega)
        · rw [List.take_add_one, hi]
          rfl
      · obtain ⟨rfl, rfl⟩ := hP
        intro l hl
        have np : p ≠ l := ne_of_none hp3 hl
        refine ⟨_, rfl, p, T.C_Plane, dx, _, rfl, by rw [upd_ne np]; exact hp3, T.cl_Plane, T.na_Plane_turns, (by show 2 < 1000; decide), rfl, l, (s3.new hl).own h0, by rw [upd_same]; rfl, ?_, ?_⟩
        · exact sqt_insP (by rw [upd_ne np]; exact hp3) ((ext_upd hl).tup heb3)
        · rw [List.take_length]
          exact SqT.of (by rw [upd_ne np.symm]; exact upd_same)
  rintro σ H3 ⟨rfl, tb, s3, hp3, heb3, htb3⟩
  have hes3 := pri_up s3 hes
  have hts3 := tui_up s3 hts
  refine ⟨_, rfl, p, T.C_Plane, dx, _, .int ((n : Nat) : Int), rfl, hp3, T.cl_Plane, T.na_Plane_count, rfl, _, rfl, p, T.C_Plane, dx, _, .ref eb, rfl, hp3, T.cl_Plane, T.na_Plane_edges, rfl, eb, xs, es, ((n : Nat) : Int), rfl, heb3, hes3, fun gE H4 s4 => ?_, fun nE H4 s4 => q2 (fun g => nE g.1) _ (s3.trans s4)⟩
  have hinZ : ∀ e ∈ es, 0 ≤ e.1 ∧ e.1 < ((n : Nat) : Int) ∧ 0 ≤ e.2 ∧ e.2 < ((n : Nat) : Int) := gE.2.2.2
  have hinN : ∀ e ∈ es.map nE, e.1 < n ∧ e.2 < n := fun e m => by
    obtain ⟨f, mf, rfl⟩ := List.mem_map.mp m
    obtain ⟨h1, h2, h3, h4⟩ := hinZ f mf
    exact ⟨by show f.1.toNat < n; omega, by show f.2.toNat < n; omega⟩
  have n1 : 1 ≤ n := by have := gE.1; omega
  have eM : (es.map nE).length = es.length := List.length_map _
  have hp4 := s4.keep p _ hp3 (fun _ z => by cases z)
  have s04 := s3.trans s4
  have heb4 := s4.tup heb3
  have htb4 := s4.tup htb3
  have hes4 := pri_up s4 hes3
  have hts4 := tui_up s4 hts3
  refine ⟨_, rfl, p, T.C_Plane, dx, _, .int ((n : Nat) : Int), rfl, hp4, T.cl_Plane, T.na_Plane_count, rfl, _, rfl, p, T.C_Plane, dx, _, .ref eb, rfl, hp4, T.cl_Plane, T.na_Plane_edges, rfl, _, rfl, p, T.C_Plane, dx, _, .ref tb, rfl, hp4, T.cl_Plane, T.na_Plane_turns, rfl, eb, tb, xs, ys, es, tss, n, rfl, heb4, hes4, hinZ, le, htb4, hts4, ln, ll, fun gT H5 s5 => ?_, fun nT H5 s5 => q2 (fun g => nT g.2.1) _ (s04.trans s5)⟩
  have hp5 := s5.keep p _ hp4 (fun _ z => by cases z)
  have s05 := s04.trans s5
  have heb5 := s5.tup heb4
  have htb5 := s5.tup htb4
  have hes5 := pri_up s5 hes4
  have hts5 := tui_up s5 hts4
  refine ⟨_, rfl, p, T.C_Plane, dx, _, .int ((n : Nat) : Int), rfl, hp5, T.cl_Plane, T.na_Plane_count, rfl, _, rfl, p, T.C_Plane, dx, _, .ref eb, rfl, hp5, T.cl_Plane, T.na_Plane_edges, rfl, eb, xs, es, n, rfl, heb5, hes5, hinZ, le, n1, ln, fun gC H6 s6 => ?_, fun nC H6 s6 => q2 (fun g => nC g.2.2.1) _ (s05.trans s6)⟩
  have hp6 := s6.keep p _ hp5 (fun _ z => by cases z)
  have s06 := s05.trans s6
  have heb6 := s6.tup heb5
  have htb6 := s6.tup htb5
  have hes6 := pri_up s6 hes5
  have hts6 := tui_up s6 hts5
  obtain ⟨pm, hnat⟩ := goodT_nat gT hinN
  rw [eM] at pm
  refine ⟨_, rfl, p, dx, eb, tb, ((n : Nat) : Int), xs, ys, es.length, toN tss, rfl, hp6, heb6, lx, htb6, tun_of hts6 hnat, pm, le, fun l H7 zs fs s7 nl hl hzs hfc => ?_⟩
  have hp7 := s7.keep p _ hp6 (fun _ z => by cases z)
  have s07 := s06.trans s7
  have lz := hzs.length
  refine ⟨l, zs, rfl, .inl (SqL.of hl), _, rfl, p, T.C_Plane, dx, _, .int ((n : Nat) : Int), rfl, hp7, T.cl_Plane, T.na_Plane_count, rfl, _, _, rfl, rfl, ?_⟩
  refine ⟨_, rfl, p, T.C_Plane, dx, _, .ref eb, rfl, hp7, T.cl_Plane, T.na_Plane_edges, rfl, eb, xs, rfl, .inr (s7.tup heb6), _, _, rfl, rfl, ?_⟩
  refine ⟨rfl, _, rfl, ?_⟩
  have hrec : PlAt T H7 p n es tss := ⟨dx, eb, tb, xs, ys, hp7, s7.tup heb6, pri_up s7 hes6, s7.tup htb6, tui_up s7 hts6⟩
  have ev : ∀ {i j : Int}, decide (V.int i = V.int j) = (i == j) := dec_int
  refine iteB (fun c => q2 (fun g => ?_) _ s07) (fun c => q1 ⟨gE, gT, gC, fun fs' h => ?_⟩ _ s07 hrec)
  · rw [ev] at c
    have := g.2.2.2 fs hfc
    have c' : ¬ (((zs.length : Nat) : Int) = 2 - ((n : Nat) : Int) + ((xs.length : Nat) : Int)) := fun z => by rw [z] at c; simp at c
    omega
  · rw [ev] at c
    have c' : ((zs.length : Nat) : Int) = 2 - ((n : Nat) : Int) + ((xs.length : Nat) : Int) := by
      by_cases z : ((zs.length : Nat) : Int) = 2 - ((n : Nat) : Int) + ((xs.length : Nat) : Int)
      · exact z
      · rw [beq_false_of_ne z] at c
        cases c
    rw [h.unique hfc]
    omega
/-! ### the law's cell of the script -/
def cellZ (ns : List Int) (k : Nat) : Int := ns.getD k 0
def spCellZ (K : PySem.W.Frag) : Sp := fun vs H Q _ => ∃ (l : Addr) (ns : List Int) (k : Nat), vs = [.ref l, .int (k : Int)] ∧ SqL K H l (ns.map V.int) ∧ Q (.int (cellZ ns k)) H
theorem ok_law_cell (T : Top K mg) : FnOk P w K mg base CX0 1 T.f_law_cell T.d_law_cell ["script", "k"] (spCellZ K) := by
  refine T.F_law_cell.ok sc_law_cell (fun vs H Q E h => ?_) (fun cdv A outer s H vs Q E hr h => ?_)
  · obtain ⟨l, ns, k, rfl, _⟩ := h
    rfl
  · obtain ⟨l, ns, k, rfl, hS, q⟩ := h
    refine ⟨_, (pss_cons (ps_if (pt_cmpR op_lt (pv 1) (pe_callB call_len_seq (by rfl) T.m_len (by decide +kernel) (pa_cons (pv 0) pa_nil)) (nomark _)) (pss_one (ps_ret (pe_callTy call_int1 (by rfl) T.m_int (by decide +kernel) (pa_cons (pe_ix ix_list (pv 0) (pv 1) (fun _ _ => rfl)) pa_nil)))) pss_nil)
      (pss_one (ps_ret pe_int))), ?_⟩
    refine ⟨_, rfl, _, rfl, l, _, rfl, .inl hS, _, _, rfl, rfl, _, rfl, ?_⟩
    refine ite2 (fun e => ?_) (fun e => ?_)
    · have hk : k < ns.length := by
        have := of_decide_eq_true e
        rw [List.length_map] at this
        omega
      refine ⟨_, rfl, _, rfl, l, _, _, .int ns[k], rfl, rfl, hS, ?_, .inl ⟨_, rfl, ?_⟩⟩
      · refine atI_nat ?_
        rw [List.getElem?_map, List.getElem?_eq_getElem hk]
        rfl
      · have : cellZ ns k = ns[k] := by
          unfold cellZ
          rw [List.getD_eq_getElem?_getD, List.getElem?_eq_getElem hk]
          rfl
        rw [← this]
        exact q
    · have hk : ¬ k < ns.length := fun z => e (by
        refine decide_eq_true ?_
        rw [List.length_map]
        omega)
      have : cellZ ns k = 0 := by
        unfold cellZ
        rw [List.getD_eq_getElem?_getD, List.getElem?_eq_none (by omega)]
        rfl
      show Q (.int 0) H
      rw [← this]
      exact q
theorem pos_lit {z : Int} {n : Nat} (h : z = ((n + 1 : Nat) : Int)) : 0 < z := by omega
def spMix : Sp := fun vs H Q _ => ∃ c k : Int, vs = [.int c, .int k] ∧ ∀ m : Int, 0 ≤ m → Q (.int m) H
theorem ok_law_mix (T : Top K mg) : FnOk P w K mg base CX0 1 T.f_law_mix T.d_law_mix ["cell", "k"] spMix := by
  refine T.F_law_mix.ok sc_law_mix (fun vs H Q E h => ?_) (fun cdv A outer s H vs Q E hr h => ?_)
  · obtain ⟨c, k, rfl, _⟩ := h
    rfl
  · obtain ⟨c, k, rfl, q⟩ := h
    refine ⟨_, (pss_cons (ps_set (i := 2) sc_law_mix.nd rfl (by first | exact .inl rfl | exact .inr rfl) (pe_op op_mod (pe_callTy call_int1 (by rfl) T.m_int (by decide +kernel) (pa_cons (pe_op op_add (pe_op op_add (pe_op op_mul (pv 0) pe_int) (pe_op op_mul (pv 1) pe_int)) pe_int) pa_nil)) pe_int))
      (pss_cons (ps_set (i := 2) sc_law_mix.nd rfl (by first | exact .inl rfl | exact .inr rfl) (pe_op op_mod (pe_callTy call_int1 (by rfl) T.m_int (by decide +kernel) (pa_cons (pe_op op_add (pe_op op_add (pe_op op_mul (pv 2) pe_int) (pe_op op_mul (pv 1) pe_int)) pe_int) pa_nil)) pe_int))
      (pss_one (ps_ret (pe_op op_fdiv (pv 2) pe_int))))), ?_⟩
    refine ⟨_, rfl, _, _, rfl, rfl, .inr ⟨by decide, by decide⟩, _, rfl, _, _, rfl, rfl, .inr ⟨by decide, by decide⟩, _, _, rfl, rfl, _, _, rfl, rfl, .inl ⟨_, rfl, _, _, rfl, rfl, pos_lit rfl, ?_⟩⟩
    refine ⟨_, rfl, _, _, rfl, rfl, .inr ⟨by decide, by decide⟩, _, rfl, _, _, rfl, rfl, .inr ⟨by decide, by decide⟩, _, _, rfl, rfl, _, _, rfl, rfl, .inl ⟨_, rfl, _, _, rfl, rfl, pos_lit rfl, ?_⟩⟩
    refine ⟨_, rfl, _, _, rfl, rfl, ⟨by decide, by decide⟩, q _ ?_⟩
    refine Int.ediv_nonneg (Int.emod_nonneg _ (by decide)) (by decide)
/-! ### the law's faces -/
/-- a list or a tuple of naturals -/
def TuQ (K : PySem.W.Frag) (H : Hp) (v : V) (l : List Nat) : Prop := ∃ a, v = .ref a ∧ (SqL K H a (natV l) ∨ SqT K H a (natV l))
theorem tuq_up {H H' : Hp} (s : Ext H H') {xs : List V} {ls : List (List Nat)} (h : Paired (TuQ K H) xs ls) : Paired (TuQ K H') xs ls := paired_imp (fun _ _ ⟨a, e, g⟩ => ⟨a, e, g.elim (fun g => .inl (s.seq g)) fun g => .inr (s.tup g)⟩) h
theorem paired_ix {α β : Type} {R : α → β → Prop} : ∀ {as : List α} {bs : List β}, as.length = bs.length → (∀ (i : Nat) (a : α) (b : β), as[i]? = some a → bs[i]? = some b → R a b) → Paired R as bs
  | [], [], _, _ => .nil
  | [], _ :: _, h, _ => nomatch h
  | _ :: _, [], h, _ => nomatch h
  | a :: as, b :: bs, h, k => .cons (k 0 a b rfl rfl) (paired_ix (Nat.succ.inj h) fun i x y hx hy => k (i + 1) x y (by simpa using hx) (by simpa using hy))
theorem lls_tuq {H0 H : Hp} {l : Addr} {as : List Addr} {ls : List (List Nat)} (h : LLs H0 H l as ls) : Paired (TuQ K H) (as.map V.ref) ls := by
  refine paired_ix (by rw [List.length_map]; exact h.len) fun i v x hv hx => ?_
  rw [List.getElem?_map] at hv
  obtain ⟨a, ha, rfl⟩ := Option.map_eq_some_iff.mp hv
  exact ⟨a, rfl, .inl (SqL.of (h.at_ i a x ha hx))⟩
/-- the dict of those that follow, for the darts of L -/
def FGm (ts : List (List Nat)) (L : List Nat) (x : Nat) : Option Nat := if x ∈ L then some (fol ts x) else none
theorem FGm_snoc (ts : List (List Nat)) (L : List Nat) (d : Nat) : (fun z => if z = d then some (fol ts d) else FGm ts L z) = FGm ts (L ++ [d]) := by
  funext z
  unfold FGm
  by_cases e : z = d
  · rw [if_pos e, if_pos (by rw [e]; simp), e]
  · rw [if_neg e]
    by_cases m : z ∈ L
    · rw [if_pos m, if_pos (List.mem_append_left _ m)]
    · rw [if_neg m, if_neg (fun h => by
        rcases List.mem_append.mp h with h | h
        · exact m h
        · exact e (List.mem_singleton.mp h))]
theorem ix_q {H : Hp} {a : Addr} {l : List Nat} {j x : Nat} {Q : VK} (h : SqL K H a (natV l) ∨ SqT K H a (natV l)) (e : l[j]? = some x) (q : Q (.int ((x : Nat) : Int)) H) : rIx K (.ref a) (.int ((j : Nat) : Int)) H Q := by
  rcases h with h | h
  · exact .inl ⟨a, _, _, _, rfl, rfl, h, atI_nat (natV_get e), q⟩
  · exact .inr (.inl ⟨a, _, _, _, rfl, rfl, h, atI_nat (natV_get e), q⟩)
theorem nxtA_mod (h : Nat) : ∀ {l : List Nat}, l.Nodup → ∀ {j d : Nat}, l[j]? = some d → PG.nxtA h l d = (l[j + 1]?).getD h
  | [], _, j, d, e => by simp at e
  | x :: l, nd, j, d, e => by
    obtain ⟨n1, n2⟩ := List.nodup_cons.mp nd
    cases j with
    | zero =>
      have e : x = d := Option.some.inj e
      subst e
      rw [PG.nxtA, if_pos rfl]
      cases l with
      | nil => rfl
      | cons y l => rfl
    | succ j =>
      have e : l[j]? = some d := by simpa using e
      have hm := List.mem_of_getElem? e
      rw [PG.nxtA, if_neg (fun z : x = d => n1 (z ▸ hm)), nxtA_mod h n2 e]
      rfl
theorem nxt_mod {own : List Nat} (nd : own.Nodup) {j d : Nat} (e : own[j]? = some d) : own[(j + 1) % own.length]? = some (PG.nxt own d) := by
  have hj := (List.getElem?_eq_some_iff.mp e).1
  unfold PG.nxt
  rw [nxtA_mod _ nd e]
  by_cases h : j + 1 < own.length
  · rw [Nat.mod_eq_of_lt h, List.getElem?_eq_getElem h]
    rfl
  · have : j + 1 = own.length := by omega
    rw [this, Nat.mod_self, List.getElem?_eq_none (Nat.le_refl _)]
    cases own with
    | nil => simp at e
    | cons x l => rfl
def spLF (K : PySem.W.Frag) : Sp := fun vs H Q _ => ∃ (a b : Addr) (xs ys : List V) (m : Nat) (ts : List (List Nat)), vs = [.ref a, .ref b] ∧ SqL K H a xs ∧ xs.length = m ∧ SqL K H b ys ∧ Paired (TuQ K H) ys ts ∧ ts.flatten.Perm (List.range (2 * m)) ∧ m ≤ 1000 ∧
  ∀ l H' zs fs, Ext H H' → H l = none → H' l = some (.lst zs) → Paired (TuN K H') zs fs → FcOf m ts fs → Q (.ref l) H'
theorem ok_law_faces (T : Top K mg) : FnOk P w K mg base CX0 1 T.f_law_faces T.d_law_faces ["edges", "turns"] (spLF K) := by
  refine T.F_law_faces.ok sc_law_faces (fun vs H Q E h => ?_) (fun cdv A outer s H vs Q E hr h => ?_)
  · obtain ⟨a, b, xs, ys, m, ts, rfl, _⟩ := h
    rfl
  obtain ⟨a, b, xs, ys, m, ts, rfl, ha, hm, hb, hy, hperm, hm2, q⟩ := h
  refine ⟨_, (pss_cons (ps_if (pt_cmpR op_eq (pe_callB call_len_seq (by rfl) T.m_len (by decide +kernel) (pa_cons (pv 0) pa_nil)) pe_int (nomark _)) (pss_one (ps_ret (pe_lst (pa_cons (pe_tup pa_nil) pa_nil)))) pss_nil)
      (pss_cons (ps_set (i := 2) sc_law_faces.nd rfl (by first | exact .inl rfl | exact .inr rfl) pe_dnewK)
      (pss_cons (ps_for PassesOwn.never rfl (pi_list (pv 1)) (pg_name (i := 3) sc_law_faces.nd rfl (by first | exact .inl rfl | exact .inr rfl)) (pss_one (ps_for PassesOwn.never rfl (pi_range1 (by rfl) T.m_range (pa_cons (pe_callB call_len_seq (by rfl) T.m_len (by decide +kernel) (pa_cons (pv 3) pa_nil)) pa_nil)) (pg_name (i := 4) sc_law_faces.nd rfl (by first | exact .inl rfl | exact .inr rfl)) (pss_one (ps_dput (hu_of hr) (pv 2) (pe_ix ix_seq (pv 3) (pv 4) (fun _ _ => rfl)) (pe_ix ix_seq (pv 3) (pe_op op_mod (pe_op op_add (pv 4) pe_int) (pe_callB call_len_seq (by rfl) T.m_len (by decide +kernel) (pa_cons (pv 3) pa_nil))) (fun _ _ => rfl)) rfl)))))
      (pss_cons (ps_set (i := 5) sc_law_faces.nd rfl (by first | exact .inl rfl | exact .inr rfl) pe_dnewK)
      (pss_cons (ps_set (i := 6) sc_law_faces.nd rfl (by first | exact .inl rfl | exact .inr rfl) (pe_lst pa_nil))
      (pss_cons (ps_for PassesOwn.never rfl (pi_range1 (by rfl) T.m_range (pa_cons (pe_op op_mul pe_int (pe_callB call_len_seq (by rfl) T.m_len (by decide +kernel) (pa_cons (pv 0) pa_nil))) pa_nil)) (pg_name (i := 7) sc_law_faces.nd rfl (by first | exact .inl rfl | exact .inr rfl)) (pss_cons (ps_set (i := 8) sc_law_faces.nd rfl (by first | exact .inl rfl | exact .inr rfl) (pe_lst pa_nil))
      (pss_cons (ps_set (i := 9) sc_law_faces.nd rfl (by first | exact .inl rfl | exact .inr rfl) (pv 7))
      (pss_cons (ps_while PassesOwn.never (pt_cmp (pc_dnotin (hu_of hr) (pv 9) (pv 5))) (pss_cons (ps_dput (hu_of hr) (pv 5) (pv 9) pe_bl rfl)
      (pss_cons (ps_expr (pe_bm PySem.F.plainAttrs_list PySem.F.slot_list_append PySem.F.type_list_append mt_append (pv 8) (pa_cons (pv 9) pa_nil)))
      (pss_one (ps_set (i := 9) sc_law_faces.nd rfl (by first | exact .inl rfl | exact .inr rfl) (pe_dget (hu_of hr) (pv 2) (pe_ifExp (pt_cmpR op_eq (pe_op op_mod (pv 9) pe_int) pe_int (nomark _)) (pe_op op_add (pv 9) pe_int) (pe_op op_sub (pv 9) pe_int)) (fun _ _ => rfl)))))))
      (pss_one (ps_if (pt_cmpR op_gt (pe_callB call_len_seq (by rfl) T.m_len (by decide +kernel) (pa_cons (pv 8) pa_nil)) pe_int (nomark _)) (pss_one (ps_expr (pe_bm PySem.F.plainAttrs_list PySem.F.slot_list_append PySem.F.type_list_append mt_append (pv 6) (pa_cons (pe_callTy call_tuple_of (by rfl) T.m_tuple (by decide +kernel) (pa_cons (pv 8) pa_nil)) pa_nil)))) pss_nil))))))
      (pss_one (ps_ret (pv 6))))))))), ?_⟩
  have ly := hy.length
  have nf : ts.flatten.Nodup := hperm.nodup_iff.mpr List.nodup_range
  have ev : ∀ {i j : Int}, decide (V.int i = V.int j) = (i == j) := dec_int
  refine ⟨_, rfl, a, xs, rfl, .inl ha, rfl, _, rfl, ?_⟩
  by_cases hx : xs = []
  · have m0 : m = 0 := by rw [← hm, hx]; rfl
    subst hx
    refine iteT ⟨by rw [sizeLine_eq]; simp, fun t0 h0 => ⟨by rw [sizeLine_eq]; simp, fun l hl => ?_⟩⟩
    have x0 := ext_upd (o := .tup []) h0
    have x1 := ext_upd (o := .lst [V.ref t0]) hl
    refine q l _ [V.ref t0] [[]] (x0.trans x1) (x0.free hl) upd_same (.cons ⟨t0, rfl, x1.tup (SqT.of upd_same)⟩ .nil) ?_
    unfold FcOf
    rw [if_pos m0]
  have mp : 0 < m := by
    rw [← hm]
    exact List.length_pos_iff.mpr hx
  refine iteB (fun c => by rw [ev, beq_false_of_ne (by omega)] at c; cases c) fun _ => ?_
  refine fun d hd => ?_
  have xd := ext_upd (o := .dK []) hd
  have D0 := DF.zero (H := H) (d := d)
  dsimp only [gName]
  generalize upd H d (.dK []) = H1 at *
  have fin : ts.flatten.length = 2 * m := by rw [hperm.length_eq, List.length_range]
  refine ⟨_, rfl, b, rfl, ⟨_, xd.seq hb⟩, for_list (xs := ys) (fun i σ HA => (∃ y3 y4, σ = [some (.ref a), some (.ref b), some (.ref d), y3, y4, none, none, none, none, none]) ∧ Ext H HA ∧ DF HA d (ts.take i).flatten.length (FGm ts (ts.take i).flatten)) ⟨⟨_, _, rfl⟩, xd, D0⟩ (fun i σ HA _ h => h.2.1.seq hb) (fun i x0 σ HA hi hP => ?_) (fun σ HA hP => ?_)⟩
  · obtain ⟨⟨y3, y4, rfl⟩, sA, DA⟩ := hP
    obtain ⟨own, hoi, a1, rfl, g1⟩ := paired_at hy hi
    have hom := List.mem_of_getElem? hoi
    have nown := PG.own_nodup nf hom
    have tk : (ts.take (i + 1)).flatten = (ts.take i).flatten ++ own := by rw [take_snoc hoi]; simp
    have tkl : (ts.take i).flatten.length + own.length ≤ 2 * m := by
      have : (ts.take (i + 1)).flatten.length ≤ ts.flatten.length := by
        have e := List.take_append_drop (i + 1) ts
        have : ts.flatten = (ts.take (i + 1)).flatten ++ (ts.drop (i + 1)).flatten := by rw [← List.flatten_append, e]
        rw [this, List.length_append]
        omega
      rw [tk, List.length_append, fin] at this
      exact this
    have g1' : SqL K HA a1 (natV own) ∨ SqT K HA a1 (natV own) := g1.elim (fun g => .inl (sA.seq g)) fun g => .inr (sA.tup g)
    dsimp only [gName]
    refine ⟨_, rfl, a1, natV own, rfl, g1', ?_⟩
    rw [natV_len]
    refine ⟨_, rfl, by omega, by omega, for_range (lo := 0) (n := own.length) (fun j σ HB => (∃ y4, σ = [some (.ref a), some (.ref b), some (.ref d), some (.ref a1), y4, none, none, none, none, none]) ∧ Ext H HB ∧ DF HB d ((ts.take i).flatten ++ own.take j).length (FGm ts ((ts.take i).flatten ++ own.take j))) ⟨⟨_, rfl⟩, sA, by rw [List.take_zero, List.append_nil]; exact DA⟩ (fun j σ HB hj hP => ?_) (fun σ HB hP => ?_)⟩
    · obtain ⟨⟨y4, rfl⟩, sB, DB⟩ := hP
      rw [Int.zero_add]
      dsimp only [gName]
      have hd1 := List.getElem?_eq_getElem hj
      generalize own[j] = dd at hd1
      have hnx := nxt_mod nown hd1
      have efol : PG.nxt own dd = fol ts dd := (PG.fol_at nf hom (List.mem_of_getElem? hd1)).symm
      rw [efol] at hnx
      have gB : SqL K HB a1 (natV own) ∨ SqT K HB a1 (natV own) := g1.elim (fun g => .inl (sB.seq g)) fun g => .inr (sB.tup g)
      obtain ⟨HD, hput, kvs, eHD, DD⟩ := DB.put (by rw [List.length_append, List.length_take]; omega) dd (fol ts dd)
      refine ⟨_, rfl, _, rfl, _, _, rfl, rfl, _, rfl, a1, natV own, rfl, gB, ?_⟩
      rw [natV_len]
      have em : V.int ((((j : Nat) : Int) + 1) % ((own.length : Nat) : Int)) = V.int (((j + 1) % own.length : Nat) : Int) := congrArg V.int (by norm_cast)
      refine ⟨_, _, rfl, rfl, (by omega), ?_⟩
      show rIx K (.ref a1) (V.int ((((j : Nat) : Int) + 1) % ((own.length : Nat) : Int))) HB _
      rw [em]
      refine ix_q gB hnx ⟨_, rfl, _, rfl, _, rfl, ix_q gB hd1 ?_⟩
      refine ⟨d, HD, rfl, hput, ⟨_, rfl⟩, ?_, ?_⟩
      · rw [eHD]
        exact sB.own hd
      · rw [FGm_snoc] at DD
        rw [take_snoc hd1, ← List.append_assoc, List.length_append, List.length_singleton]
        exact DD
    · obtain ⟨⟨y4, rfl⟩, sB, DB⟩ := hP
      rw [List.take_length, ← tk] at DB
      exact ⟨⟨_, _, rfl⟩, sB, DB⟩
  obtain ⟨⟨y3, y4, rfl⟩, sA, DA⟩ := hP
  rw [ly, List.take_length, fin] at DA
  have PM := PG.phi_pmu hperm
  have fget : ∀ x < 2 * m, FGm ts ts.flatten x = some (fol ts x) := fun x hx => by
    unfold FGm
    rw [if_pos (hperm.mem_iff.mpr (List.mem_range.mpr hx))]
  dsimp only [gName]
  refine fun sd hsd => ?_
  have xs' := ext_upd (o := .dK []) hsd
  have ks : upd HA sd (.dK []) sd = some (.dK (kvR [])) := upd_same
  have DA1 := DA.up xs'
  have sA1 := sA.trans xs'
  have sd0 := sA.free hsd
  have nds : d ≠ sd := fun z => by
    obtain ⟨k0, hk0, _⟩ := DA
    rw [← z, hk0] at hsd
    cases hsd
  dsimp only [gName]
  generalize upd HA sd (.dK []) = HS at *
  refine ⟨by rw [sizeLine_eq]; simp, fun fl hfl => ?_⟩
  have xf := ext_upd (o := .lst []) hfl
  have kf : upd HS fl (.lst []) fl = some (.lst []) := upd_same
  have DF1 := DA1.up xf
  have ks1 := xf.keep _ _ ks (fun _ z => by cases z)
  have sF := sA1.trans xf
  have fl0 := sA1.free hfl
  have ndf : d ≠ fl := fun z => by
    obtain ⟨k0, hk0, _⟩ := DA1
    rw [← z, hk0] at hfl
    cases hfl
  have nsf : sd ≠ fl := fun z => by
    rw [← z, ks] at hfl
    cases hfl
  dsimp only [gName]
  generalize upd HS fl (.lst []) = H5 at *
  refine ⟨_, rfl, a, xs, rfl, .inl (sF.seq ha), _, _, rfl, rfl, .inl ⟨by decide, by omega⟩, ?_⟩
  rw [hm]
  refine ⟨_, rfl, by omega, by omega, for_range (lo := 0) (n := ((2 : Int) * ((m : Nat) : Int)).toNat) (fun i σ HB => (∃ y3 y4 y7 y8 y9, σ = [some (.ref a), some (.ref b), some (.ref d), y3, y4, some (.ref sd), some (.ref fl), y7, y8, y9]) ∧ Ext H HB ∧ ∃ fs zs, HB fl = some (.lst zs) ∧ Paired (TuN K HB) zs fs ∧ TrOk (phi (fol ts)) (2 * m) i fs ∧ zs.length ≤ i ∧ DF HB d (2 * m) (FGm ts ts.flatten) ∧ HB sd = some (.dK (kvR fs.flatten))) ⟨⟨_, _, _, _, _, rfl⟩, sF, [], [], kf, .nil, TrOk.zero _ _, Nat.le_refl _, DF1, ks1⟩ (fun i σ HB hi hP => ?_) (fun σ HB hP => ?_)⟩
  · obtain ⟨⟨y3, y4, y7, y8, y9, rfl⟩, sB, fs, zs, hzs, hpz, TR, lz, DB, hsB⟩ := hP
    have him : i < 2 * m := by
      have : ((2 : Int) * ((m : Nat) : Int)).toNat = 2 * m := by omega
      omega
    rw [Int.zero_add]
    dsimp only [gName]
    refine ⟨by rw [sizeLine_eq]; simp, fun ta hta => ?_⟩
    have xa := ext_upd (o := .lst []) hta
    have ka : upd HB ta (.lst []) ta = some (.lst (natV [])) := upd_same
    have ta0 := sB.free hta
    have nta : ta ≠ fl := fun z => by
      rw [z, hzs] at hta
      cases hta
    have ntd : d ≠ ta := fun z => by
      obtain ⟨k0, hk0, _⟩ := DB
      rw [← z, hk0] at hta
      cases hta
    have nts : sd ≠ ta := fun z => by
      rw [← z, hsB] at hta
      cases hta
    have DC := DB.up xa
    have hzC := xa.lst hzs
    have hpC := tun_up xa hpz
    have hsC := xa.keep _ _ hsB (fun _ z => by cases z)
    have sC := sB.trans xa
    dsimp only [gName]
    generalize upd HB ta (.lst []) = HC at *
    refine ⟨_, rfl, ?_⟩
    dsimp only [gName]
    refine ⟨fun k σ HD => ∃ t cur y3 y4, σ = [some (.ref a), some (.ref b), some (.ref d), y3, y4, some (.ref sd), some (.ref fl), some (.int ((i : Nat) : Int)), some (.ref ta), some (.int ((cur : Nat) : Int))] ∧ Ext H HD ∧ HD fl = some (.lst zs) ∧ Paired (TuN K HD) zs fs ∧ HD ta = some (.lst (natV t)) ∧ DF HD d (2 * m) (FGm ts ts.flatten) ∧ HD sd = some (.dK (kvR (fs.flatten ++ t))) ∧ InOk (phi (fol ts)) (2 * m) i fs t cur ∧ k = 2 * m - t.length, ⟨_, [], i, _, _, rfl, sC, hzC, hpC, ka, DC, by rw [List.append_nil]; exact hsC, InOk.zero him, rfl⟩, ?_⟩
    rintro k σ HD ⟨t, cur, y3, y4, rfl, sD, hzD, hpD, kD, DD, hsD, IO, hk⟩
    have ltl := IO.len
    have hgt : DGet HD sd (V.int ((cur : Nat) : Int)) (if cur ∈ fs.flatten ++ t then some (V.bl true) else none) := by
      rw [← valV_kvR]
      exact DGet.k (k := Sum.inl ((cur : Nat) : Int)) hsD
    refine ⟨_, rfl, _, rfl, sd, _, rfl, hgt, _, rfl, ?_⟩
    by_cases hc : cur ∈ fs.flatten ++ t
    · rw [if_pos hc]
      refine iteF ?_
      have hmem : cur ∈ fs.flatten ∨ cur ∈ t := List.mem_append.mp hc
      have TR2 := IO.stop PM TR him hmem
      refine ⟨_, rfl, ta, natV t, rfl, .inl (SqL.of kD), _, _, rfl, rfl, _, rfl, ?_⟩
      by_cases et : t = []
      · subst et
        rw [if_pos rfl] at TR2
        rw [List.append_nil] at hsD
        exact iteF ⟨⟨_, _, _, _, _, rfl⟩, sD, fs, zs, hzD, hpD, TR2, by omega, DD, hsD⟩
      · rw [if_neg et] at TR2
        have lt0 : 0 < t.length := List.length_pos_iff.mpr et
        refine iteB (fun _ => ?_) (fun c => by have := of_decide_eq_false c; rw [natV_len] at this; omega)
        refine ⟨_, rfl, .inl ⟨rfl, _, SqL.of hzD⟩, _, rfl, ta, natV t, rfl, .inl ⟨SqL.of kD, fun p9 hp9 => ?_⟩⟩
        have x9 := ext_upd (o := .tup (natV t)) hp9
        have hz9 := x9.lst hzD
        have hp9' := tun_up x9 hpD
        have D9 := DD.up x9
        have hs9 := x9.keep _ _ hsD (fun _ z => by cases z)
        have t9 : SqT K (upd HD p9 (.tup (natV t))) p9 (natV t) := SqT.of upd_same
        have s9 := sD.trans x9
        generalize upd HD p9 (.tup (natV t)) = H9 at *
        refine ⟨fl, zs, _, rfl, rfl, hz9, sl_lt (by omega), ⟨_, _, _, _, _, rfl⟩, s9.own fl0, fs ++ [t], zs ++ [.ref p9], upd_same, ?_, TR2, by rw [List.length_append, List.length_singleton]; omega, D9.else ndf, ?_⟩
        · exact tun_updL hz9 (paired_snoc hp9' ⟨p9, rfl, t9⟩)
        · rw [upd_ne nsf, PG.flat_snoc]
          exact hs9
    · rw [if_neg hc]
      have hc1 : cur ∉ fs.flatten := fun m => hc (List.mem_append_left _ m)
      have hc2 : cur ∉ t := fun m => hc (List.mem_append_right _ m)
      refine iteT ?_
      refine ⟨fun σ HD => ∃ k', k' < k ∧ ∃ t cur y3 y4, σ = [some (.ref a), some (.ref b), some (.ref d), y3, y4, some (.ref sd), some (.ref fl), some (.int ((i : Nat) : Int)), some (.ref ta), some (.int ((cur : Nat) : Int))] ∧ Ext H HD ∧ HD fl = some (.lst zs) ∧ Paired (TuN K HD) zs fs ∧ HD ta = some (.lst (natV t)) ∧ DF HD d (2 * m) (FGm ts ts.flatten) ∧ HD sd = some (.dK (kvR (fs.flatten ++ t))) ∧ InOk (phi (fol ts)) (2 * m) i fs t cur ∧ k' = 2 * m - t.length, fun σ' H' h => h, ?_⟩
      have IO2 := IO.step PM hc1 hc2
      have l2 := IO2.len
      rw [List.length_append, List.length_singleton] at l2
      have lR : (kvR (fs.flatten ++ t)).length < 1000000 := by
        unfold kvR
        rw [List.length_map]
        have h1 : (fs.flatten ++ t).Nodup := List.nodup_append.mpr ⟨TR.nd, IO.nd, fun x hx y hy e => IO.dis y hy (e ▸ hx)⟩
        have := List.Nodup.length_le_of_subset (l₂ := List.range (2 * m)) h1 fun x m => List.mem_range.mpr (by
          rcases List.mem_append.mp m with m | m
          · exact TR.lt x m
          · exact IO.lt x m)
        rw [List.length_range] at this
        omega
      have hput : DPut HD sd (V.int ((cur : Nat) : Int)) (V.bl true) (upd HD sd (.dK (kvR (fs.flatten ++ (t ++ [cur]))))) := by
        rw [← List.append_assoc, ← putK_kvR hc]
        exact DPut.k (k := Sum.inl ((cur : Nat) : Int)) hsD (sl_lt lR)
      refine ⟨_, rfl, _, rfl, sd, _, rfl, hput, ?_⟩
      have sE := sD.own (o := .dK (kvR (fs.flatten ++ (t ++ [cur])))) sd0
      have kE : upd HD sd (.dK (kvR (fs.flatten ++ (t ++ [cur])))) sd = some (.dK (kvR (fs.flatten ++ (t ++ [cur])))) := upd_same
      have DE := DD.else (b := sd) (o := .dK (kvR (fs.flatten ++ (t ++ [cur])))) nds
      have tE : upd HD sd (.dK (kvR (fs.flatten ++ (t ++ [cur])))) ta = some (.lst (natV t)) := by rw [upd_ne nts.symm]; exact kD
      have zE : upd HD sd (.dK (kvR (fs.flatten ++ (t ++ [cur])))) fl = some (.lst zs) := by rw [upd_ne nsf.symm]; exact hzD
      have pE := tun_updD (o := .dK (kvR (fs.flatten ++ (t ++ [cur])))) hsD hpD
      generalize upd HD sd (.dK (kvR (fs.flatten ++ (t ++ [cur])))) = HE at *
      refine ⟨_, rfl, .inl ⟨rfl, _, SqL.of tE⟩, _, rfl, ta, natV t, _, rfl, rfl, tE, by rw [natV_len]; exact sl_lt (by omega), ?_⟩
      have eC : natV t ++ [V.int ((cur : Nat) : Int)] = natV (t ++ [cur]) := by rw [natV_app]; rfl
      dsimp only [gName]
      rw [eC]
      have DG := DE.else (b := ta) (o := .lst (natV (t ++ [cur]))) ntd
      have kG : upd HE ta (.lst (natV (t ++ [cur]))) ta = some (.lst (natV (t ++ [cur]))) := upd_same
      have sG := sE.own (o := .lst (natV (t ++ [cur]))) ta0
      have zG : upd HE ta (.lst (natV (t ++ [cur]))) fl = some (.lst zs) := by rw [upd_ne nta.symm]; exact zE
      have pG := tun_updL (o := .lst (natV (t ++ [cur]))) tE pE
      have hsG : upd HE ta (.lst (natV (t ++ [cur]))) sd = some (.dK (kvR (fs.flatten ++ (t ++ [cur])))) := by rw [upd_ne nts]; exact kE
      generalize upd HE ta (.lst (natV (t ++ [cur]))) = HG at *
      have hx1 : cur ^^^ 1 < 2 * m := PG.xor1_lt IO.cl
      have hgt2 := DG.get (cur ^^^ 1)
      rw [fget _ hx1] at hgt2
      have ex := PG.xor1 cur
      have em : ((cur : Nat) : Int) % 2 = ((cur % 2 : Nat) : Int) := by omega
      have nxt : ∀ z : Int, z = ((cur ^^^ 1 : Nat) : Int) → DGet HG d (V.int z) (some (V.int ((fol ts (cur ^^^ 1) : Nat) : Int))) := fun z e => by
        rw [e]
        exact hgt2
      have WN : ∃ k', k' < k ∧ ∃ t' cur' y3' y4', [some (V.ref a), some (V.ref b), some (V.ref d), y3, y4, some (V.ref sd), some (V.ref fl), some (V.int ((i : Nat) : Int)), some (V.ref ta), some (V.int ((fol ts (cur ^^^ 1) : Nat) : Int))] = [some (.ref a), some (.ref b), some (.ref d), y3', y4', some (.ref sd), some (.ref fl), some (.int ((i : Nat) : Int)), some (.ref ta), some (.int ((cur' : Nat) : Int))] ∧ Ext H HG ∧ HG fl = some (.lst zs) ∧ Paired (TuN K HG) zs fs ∧ HG ta = some (.lst (natV t')) ∧ DF HG d (2 * m) (FGm ts ts.flatten) ∧ HG sd = some (.dK (kvR (fs.flatten ++ t'))) ∧ InOk (phi (fol ts)) (2 * m) i fs t' cur' ∧ k' = 2 * m - t'.length :=
        ⟨2 * m - (t ++ [cur]).length, by rw [List.length_append, List.length_singleton]; omega, t ++ [cur], fol ts (cur ^^^ 1), _, _, rfl, sG, zG, pG, kG, DG, hsG, IO2, rfl⟩
      refine ⟨_, rfl, _, rfl, _, _, rfl, rfl, (by show (0 : Int) < 2; decide), ?_⟩
      refine ⟨rfl, _, rfl, iteB (fun c => ?_) (fun c => ?_)⟩
      · rw [ev] at c
        have c' : ((cur : Nat) : Int) % 2 = 0 := by simpa using c
        have e2 : cur % 2 = 0 := by omega
        rw [if_pos e2] at ex
        exact ⟨_, rfl, _, _, rfl, rfl, d, _, rfl, nxt _ (by rw [ex]; rfl), WN⟩
      · rw [ev] at c
        have c' : ¬ ((cur : Nat) : Int) % 2 = 0 := by simpa using c
        have e2 : ¬ cur % 2 = 0 := by omega
        rw [if_neg e2] at ex
        exact ⟨_, rfl, _, _, rfl, rfl, d, _, rfl, nxt _ (by rw [ex]; omega), WN⟩
  · obtain ⟨⟨y3, y4, y7, y8, y9, rfl⟩, sB, fs, zs, hzs, hpz, TR, lz, DB, hsB⟩ := hP
    rw [show ((2 : Int) * ((m : Nat) : Int)).toNat = 2 * m by omega] at TR
    refine ⟨_, rfl, q fl _ zs fs sB fl0 hzs hpz ?_⟩
    unfold FcOf
    rw [if_neg (by omega)]
    exact TR.fin
/-! ### places in a face -/
def Own (ts : List (List Nat)) (x : Int) (u : Nat) : Prop := (∀ (u' : Nat) own, ts[u']? = some own → (∃ y ∈ own, ((y : Nat) : Int) = x) → u' = u) ∧ ((∀ own ∈ ts, ¬ ∃ y ∈ own, ((y : Nat) : Int) = x) → u = 0)
def Plc (own : List Nat) (x : Int) (k : Nat) : Prop := (∀ (y : Nat) A B, x = ((y : Nat) : Int) → own = A ++ y :: B → y ∉ A → A.length = k) ∧ ((¬ ∃ y ∈ own, ((y : Nat) : Int) = x) → k = 0)
def Cor (c : List Nat) (x : Int) : Prop := (c = [] ∧ x = -1) ∨ ∃ y ∈ c, x = ((y : Nat) : Int)
theorem first_of {y : Nat} : ∀ {l : List Nat}, y ∈ l → ∃ A B, l = A ++ y :: B ∧ y ∉ A
  | [], m => by cases m
  | z :: l, m => by
    by_cases e : y = z
    · subst e
      exact ⟨[], l, rfl, List.not_mem_nil⟩
    · obtain ⟨A, B, h1, h2⟩ := first_of ((List.mem_cons.mp m).resolve_left e)
      exact ⟨z :: A, B, by rw [h1]; rfl, fun w => by
        rcases List.mem_cons.mp w with w | w
        · exact e w
        · exact h2 w⟩
theorem own_uniq : ∀ {ts : List (List Nat)}, ts.flatten.Nodup → ∀ {u v : Nat} {a b : List Nat} {y : Nat}, ts[u]? = some a → ts[v]? = some b → y ∈ a → y ∈ b → u = v
  | [], _, u, _, _, _, _, h, _, _, _ => by simp at h
  | o :: ts, nd, u, v, a, b, y, hu, hv, ya, yb => by
    rw [List.flatten_cons] at nd
    obtain ⟨n1, n2, n3⟩ := List.nodup_append.mp nd
    cases u with
    | zero =>
      cases v with
      | zero => rfl
      | succ v =>
        have hu : o = a := Option.some.inj hu
        have hv : ts[v]? = some b := by simpa using hv
        exact absurd rfl (n3 y (hu ▸ ya) y (List.mem_flatten.mpr ⟨b, List.mem_of_getElem? hv, yb⟩))
    | succ u =>
      have hu : ts[u]? = some a := by simpa using hu
      cases v with
      | zero =>
        have hv : o = b := Option.some.inj hv
        exact absurd rfl (n3 y (hv ▸ yb) y (List.mem_flatten.mpr ⟨a, List.mem_of_getElem? hu, ya⟩))
      | succ v =>
        have hv : ts[v]? = some b := by simpa using hv
        rw [own_uniq n2 hu hv ya yb]
theorem own_of {ts : List (List Nat)} (nd : ts.flatten.Nodup) {u : Nat} {own : List Nat} {y : Nat} (hu : ts[u]? = some own) (m : y ∈ own) : Own ts ((y : Nat) : Int) u := by
  refine ⟨fun u' own' h ⟨y', m', e⟩ => ?_, fun no => absurd ⟨y, m, rfl⟩ (no own (List.mem_of_getElem? hu))⟩
  have : y' = y := by omega
  rw [this] at m'
  exact own_uniq nd h hu m' m
theorem own_neg (ts : List (List Nat)) : Own ts (-1) 0 := ⟨fun _ _ _ ⟨y, _, e⟩ => by omega, fun _ => rfl⟩
theorem plc_neg (own : List Nat) : Plc own (-1) 0 := ⟨fun y _ _ e => by omega, fun _ => rfl⟩
theorem split_uniq {y : Nat} : ∀ {A A' B B' : List Nat}, A ++ y :: B = A' ++ y :: B' → y ∉ A → y ∉ A' → A.length = A'.length
  | [], [], _, _, _, _, _ => rfl
  | [], a :: A', _, _, h, _, n => by
    have : y = a := (List.cons.inj h).1
    exact absurd (show y ∈ a :: A' by rw [this]; exact List.mem_cons_self) n
  | a :: A, [], _, _, h, n, _ => by
    have : a = y := (List.cons.inj h).1
    exact absurd (show y ∈ a :: A by rw [this]; exact List.mem_cons_self) n
  | a :: A, b :: A', _, _, h, n1, n2 => by
    rw [List.length_cons, List.length_cons, split_uniq (List.cons.inj h).2 (fun m => n1 (List.mem_cons_of_mem _ m)) fun m => n2 (List.mem_cons_of_mem _ m)]
theorem plc_of {A B : List Nat} {y : Nat} (n : y ∉ A) : Plc (A ++ y :: B) ((y : Nat) : Int) A.length := by
  refine ⟨fun y' A' B' e h n' => ?_, fun no => absurd ⟨y, by simp, rfl⟩ no⟩
  have : y' = y := by omega
  subst this
  exact (split_uniq h n n').symm
theorem fc_nil {ts fs : List (List Nat)} {m : Nat} {c : List Nat} (h : FcOf m ts fs) (mc : c ∈ fs) : c = [] ↔ m = 0 := by
  unfold FcOf at h
  by_cases e : m = 0
  · rw [if_pos e] at h
    rw [h] at mc
    exact ⟨fun _ => e, fun _ => List.mem_singleton.mp mc⟩
  · rw [if_neg e] at h
    exact ⟨fun z => absurd z (h.dec.cyc c mc).1, fun z => absurd z e⟩
theorem fc_dec {ts fs : List (List Nat)} {m : Nat} (h : FcOf m ts fs) (hm : m ≠ 0) : Fcs (phi (fol ts)) (List.range (2 * m)) fs := by
  unfold FcOf at h
  rwa [if_neg hm] at h
theorem corner1 {es : List (Nat × Nat)} {ts fs : List (List Nat)} {c : List Nat} {x : Int} (h : Pg es ts) (hf : FcOf es.length ts fs) (mc : c ∈ fs) (hx : Cor c x) :
    ∃ u A B, ts[u]? = some (A ++ B) ∧ Own ts x u ∧ Plc (A ++ B) x A.length ∧ (es ≠ [] → ∃ y r, B = y :: r ∧ y ∈ c) ∧ (es = [] → u = 0 ∧ A = [] ∧ B = []) := by
  by_cases e : es = []
  · have c0 : c = [] := (fc_nil hf mc).mpr (by rw [e]; rfl)
    have x0 : x = -1 := by
      rcases hx with hx | ⟨y, m, _⟩
      · exact hx.2
      · rw [c0] at m
        cases m
    rw [x0, h.nil e]
    exact ⟨0, [], [], rfl, own_neg _, plc_neg _, fun z => absurd e z, fun _ => ⟨rfl, rfl, rfl⟩⟩
  · have m0 : es.length ≠ 0 := fun z => e (List.length_eq_zero_iff.mp z)
    have hd := fc_dec hf m0
    rcases hx with hx | ⟨y, my, rfl⟩
    · exact absurd hx.1 (hd.dec.cyc c mc).1
    · have hy : y ∈ ts.flatten := h.perm.mem_iff.mpr (hd.dec.mem.mp ⟨c, mc, my⟩)
      obtain ⟨own, mo, myo⟩ := List.mem_flatten.mp hy
      obtain ⟨u, hu⟩ := List.getElem?_of_mem mo
      obtain ⟨A, B, rfl, n⟩ := first_of myo
      exact ⟨u, A, y :: B, hu, own_of (h.perm.nodup_iff.mpr List.nodup_range) hu myo, plc_of n, fun _ => ⟨y, B, rfl, my⟩, fun z => absurd z e⟩
theorem corner2 {es : List (Nat × Nat)} {ts fs : List (List Nat)} {c : List Nat} {x : Int} (h : Pg es ts) (hf : FcOf es.length ts fs) (mc : c ∈ fs) (hx : Cor c x) {u : Nat} {A B : List Nat} (hu : ts[u]? = some (A ++ B)) (b1 : es ≠ [] → ∃ y r, B = y :: r ∧ y ∈ c) (b2 : es = [] → u = 0 ∧ A = [] ∧ B = []) :
    ∃ v A' B' pl, (ts.set u (A ++ 2 * es.length :: B))[v]? = some (A' ++ B') ∧ Own (ts.set u (A ++ 2 * es.length :: B)) x v ∧ Plc (A' ++ B') x pl ∧ ((A'.length : Nat) : Int) = ((pl : Nat) : Int) + (if x < 0 then 1 else 0) ∧ (es ≠ [] → ∃ z r, B' = z :: r ∧ z ∈ c ∧ z < 2 * es.length) ∧ (es = [] → v = 0 ∧ A' = [0] ∧ B' = []) := by
  by_cases e : es = []
  · have c0 : c = [] := (fc_nil hf mc).mpr (by rw [e]; rfl)
    have x0 : x = -1 := by
      rcases hx with hx | ⟨y, m, _⟩
      · exact hx.2
      · rw [c0] at m
        cases m
    obtain ⟨rfl, rfl, rfl⟩ := b2 e
    rw [x0, h.nil e, e]
    exact ⟨0, [0], [], 0, rfl, own_neg _, plc_neg _, rfl, fun z => absurd rfl z, fun _ => ⟨rfl, rfl, rfl⟩⟩
  · have m0 : es.length ≠ 0 := fun z => e (List.length_eq_zero_iff.mp z)
    have hd := fc_dec hf m0
    obtain ⟨y0, r0, rfl, my0⟩ := b1 e
    obtain ⟨p1, _⟩ := PG.ins_turn h.perm List.nodup_range hu (PG.not_a es.length)
    have nd1 : (2 * es.length :: List.range (2 * es.length)).Nodup := List.nodup_cons.mpr ⟨PG.not_a _, List.nodup_range⟩
    rcases hx with hx | ⟨y, my, rfl⟩
    · exact absurd hx.1 (hd.dec.cyc c mc).1
    · have hr : y ∈ List.range (2 * es.length) := hd.dec.mem.mp ⟨c, mc, my⟩
      have hy := p1.mem_iff.mpr (List.mem_cons_of_mem _ hr)
      obtain ⟨own, mo, myo⟩ := List.mem_flatten.mp hy
      obtain ⟨v, hv⟩ := List.getElem?_of_mem mo
      obtain ⟨A', B', rfl, n⟩ := first_of myo
      refine ⟨v, A', y :: B', A'.length, hv, own_of (p1.nodup_iff.mpr nd1) hv myo, plc_of n, ?_, fun _ => ⟨y, B', rfl, my, List.mem_range.mp hr⟩, fun z => absurd z e⟩
      rw [if_neg (by omega)]
      omega
theorem leafG {es : List (Nat × Nat)} {ts : List (List Nat)} {c : List Nat} (h : Pg es ts) {u : Nat} {A B : List Nat} (hu : ts[u]? = some (A ++ B)) (b1 : es ≠ [] → ∃ y r, B = y :: r ∧ y ∈ c) (b2 : es = [] → u = 0 ∧ A = [] ∧ B = []) : Pg (es ++ [(u, ts.length)]) (ts.set u (A ++ 2 * es.length :: B) ++ [[2 * es.length + 1]]) := by
  by_cases e : es = []
  · obtain ⟨rfl, rfl, rfl⟩ := b2 e
    rw [h.nil e, e]
    exact PG.Pg.leaf0
  · obtain ⟨y, r, rfl, _⟩ := b1 e
    exact h.leaf e hu
theorem edgeG {es : List (Nat × Nat)} {ts fs : List (List Nat)} {c : List Nat} (h : Pg es ts) (hf : FcOf es.length ts fs) (mc : c ∈ fs) {u v : Nat} {A B A' B' : List Nat} (hu : ts[u]? = some (A ++ B)) (b1 : es ≠ [] → ∃ y r, B = y :: r ∧ y ∈ c) (b2 : es = [] → u = 0 ∧ A = [] ∧ B = [])
    (hv : (ts.set u (A ++ 2 * es.length :: B))[v]? = some (A' ++ B')) (d1 : es ≠ [] → ∃ z r, B' = z :: r ∧ z ∈ c ∧ z < 2 * es.length) (d2 : es = [] → v = 0 ∧ A' = [0] ∧ B' = []) : Pg (es ++ [(u, v)]) ((ts.set u (A ++ 2 * es.length :: B)).set v (A' ++ (2 * es.length + 1) :: B')) := by
  by_cases e : es = []
  · obtain ⟨rfl, rfl, rfl⟩ := b2 e
    obtain ⟨rfl, rfl, rfl⟩ := d2 e
    rw [h.nil e, e]
    exact PG.Pg.loop0
  · obtain ⟨y, r, rfl, my⟩ := b1 e
    obtain ⟨z, r', rfl, mz, hz⟩ := d1 e
    have m0 : es.length ≠ 0 := fun z => e (List.length_eq_zero_iff.mp z)
    exact h.edge hu hv hz (fc_dec hf m0).dec mc my mz
/-! ### the law's plane graph -/
theorem natV_flat (l : List Nat) : (natV l).all flatV = true := by
  rw [List.all_eq_true]
  intro x m
  obtain ⟨k, _, rfl⟩ := List.mem_map.mp m
  rfl
theorem inV_nat (x : Int) (l : List Nat) : inV (.int x) (natV l) = decide (∃ y ∈ l, ((y : Nat) : Int) = x) := by
  rw [Bool.eq_iff_iff]
  unfold inV natV
  rw [List.any_map, List.any_eq_true, decide_eq_true_iff]
  exact ⟨fun ⟨y, m, e⟩ => ⟨y, m, eq_of_beq e⟩, fun ⟨y, m, e⟩ => ⟨y, m, beq_iff_eq.mpr e⟩⟩
def spPlc : Sp := fun vs H Q _ => ∃ (H0 : Hp) (l : Addr) (as : List Addr) (ts : List (List Nat)) (u : Nat) (own : List Nat) (x : Int), vs = [.ref l, .int ((u : Nat) : Int), .int x] ∧ LLs H0 H l as ts ∧ ts[u]? = some own ∧
  (∀ (y : Nat) A B, x = ((y : Nat) : Int) → own = A ++ y :: B → y ∉ A → Q (.int ((A.length : Nat) : Int)) H) ∧ ((¬ ∃ y ∈ own, ((y : Nat) : Int) = x) → Q (.int 0) H)
theorem ok_law_place (T : Top K mg) : FnOk P w K mg base CX0 1 T.f_law_place T.d_law_place ["turns", "vertex", "dart"] spPlc := by
  refine T.F_law_place.ok sc_law_place (fun vs H Q E h => ?_) (fun cdv A outer s H vs Q E hr h => ?_)
  · obtain ⟨H0, l, as, ts, u, own, x, rfl, _⟩ := h
    rfl
  obtain ⟨H0, l, as, ts, u, own, x, rfl, L, hu, q1, q2⟩ := h
  refine ⟨_, (pss_one (ps_ret (pe_ifExp (pt_cmpR op_in_seq (pv 2) (pe_ix ix_list (pv 0) (pv 1) (fun _ _ => rfl)) (by rfl)) (pe_bm PySem.F.plainAttrs_list PySem.F.slot_list_index PySem.F.type_list_index mt_index (pe_ix ix_list (pv 0) (pv 1) (fun _ _ => rfl)) (pa_cons (pv 2) pa_nil)) pe_int))), ?_⟩
  obtain ⟨a, xs, ha, hxs, hHa, _, _⟩ := L.item (List.getElem?_eq_some_iff.mp hu).1
  rw [hu] at hxs
  obtain rfl := Option.some.inj hxs
  refine ⟨_, rfl, _, rfl, _, rfl, l, _, _, .ref a, rfl, rfl, SqL.of L.hl, atI_nat (by rw [List.getElem?_map, ha]; rfl), a, natV own, rfl, .inl (SqL.of hHa), rfl, natV_flat own, _, rfl, ?_⟩
  refine iteB (fun c => ?_) (fun c => ?_)
  · have c : inV (.int x) (natV own) = true := c
    rw [inV_nat] at c
    obtain ⟨y, my, e⟩ := of_decide_eq_true c
    obtain ⟨A', B', e1, e2⟩ := first_of my
    refine ⟨_, rfl, _, rfl, l, _, _, .ref a, rfl, rfl, SqL.of L.hl, atI_nat (by rw [List.getElem?_map, ha]; rfl), .inl ⟨rfl, _, SqL.of hHa⟩, _, rfl, a, natV own, _, A'.length, .int ((y : Nat) : Int), rfl, rfl, SqL.of hHa, rfl, natV_flat own, natV_get ?_, ?_, fun m z' hm hz => ?_, q1 y A' B' e.symm e1 e2⟩
    · rw [e1, List.getElem?_append_right (Nat.le_refl _), Nat.sub_self]
      rfl
    · exact beq_iff_eq.mpr e
    · unfold natV at hz
      rw [List.getElem?_map, e1, List.getElem?_append_left hm] at hz
      obtain ⟨k, hk, rfl⟩ := Option.map_eq_some_iff.mp hz
      refine beq_false_of_ne fun z => e2 ?_
      have : k = y := by omega
      rw [← this]
      exact List.mem_of_getElem? hk
  · have c : inV (.int x) (natV own) = false := c
    rw [inV_nat] at c
    exact q2 (of_decide_eq_false c)
def spOw : Sp := fun vs H Q _ => ∃ (H0 : Hp) (l : Addr) (as : List Addr) (ts : List (List Nat)) (x : Int), vs = [.ref l, .int x] ∧ LLs H0 H l as ts ∧ ts.length ≤ 1000 ∧
  (∀ (u : Nat) own, ts[u]? = some own → (∃ y ∈ own, ((y : Nat) : Int) = x) → Q (.int ((u : Nat) : Int)) H) ∧ ((∀ own ∈ ts, ¬ ∃ y ∈ own, ((y : Nat) : Int) = x) → Q (.int 0) H)
theorem ok_law_owner (T : Top K mg) : FnOk P w K mg base CX0 1 T.f_law_owner T.d_law_owner ["turns", "dart"] spOw := by
  refine T.F_law_owner.ok sc_law_owner (fun vs H Q E h => ?_) (fun cdv A outer s H vs Q E hr h => ?_)
  · obtain ⟨H0, l, as, ts, x, rfl, _⟩ := h
    rfl
  obtain ⟨H0, l, as, ts, x, rfl, L, ln, q1, q2⟩ := h
  refine ⟨_, (pss_cons (ps_for PassesOwn.never rfl (pi_range1 (by rfl) T.m_range (pa_cons (pe_callB call_len_seq (by rfl) T.m_len (by decide +kernel) (pa_cons (pv 0) pa_nil)) pa_nil)) (pg_name (i := 2) sc_law_owner.nd rfl (by first | exact .inl rfl | exact .inr rfl)) (pss_one (ps_if (pt_cmpR op_in_seq (pv 1) (pe_ix ix_list (pv 0) (pv 2) (fun _ _ => rfl)) (by rfl)) (pss_one (ps_ret (pv 2))) pss_nil)))
      (pss_one (ps_ret pe_int))), ?_⟩
  refine ⟨_, rfl, l, _, rfl, .inl (SqL.of L.hl), ?_⟩
  rw [List.length_map, L.len]
  refine ⟨_, rfl, by omega, by omega, for_range (lo := 0) (n := ts.length) (fun i σ HA => HA = H ∧ (∃ z2, σ = [some (.ref l), some (.int x), z2]) ∧ ∀ own ∈ ts.take i, ¬ ∃ y ∈ own, ((y : Nat) : Int) = x) ⟨rfl, ⟨_, rfl⟩, fun own m => (by rw [List.take_zero] at m; cases m)⟩ (fun i σ HA hi hP => ?_) (fun σ HA hP => ?_)⟩
  · obtain ⟨rfl, ⟨z2, rfl⟩, no⟩ := hP
    rw [Int.zero_add]
    obtain ⟨a, own, ha, hu, hHa, _, _⟩ := L.item hi
    refine ⟨_, rfl, _, rfl, _, rfl, l, _, _, .ref a, rfl, rfl, SqL.of L.hl, atI_nat (by rw [List.getElem?_map, ha]; rfl), a, natV own, rfl, .inl (SqL.of hHa), rfl, natV_flat own, _, rfl, ?_⟩
    refine iteB (fun c => ?_) (fun c => ?_)
    · have c : inV (.int x) (natV own) = true := c
      rw [inV_nat] at c
      exact ⟨_, rfl, q1 i own hu (of_decide_eq_true c)⟩
    · have c : inV (.int x) (natV own) = false := c
      rw [inV_nat] at c
      refine ⟨rfl, ⟨_, rfl⟩, fun o m => ?_⟩
      rw [take_snoc hu] at m
      rcases List.mem_append.mp m with m | m
      · exact no o m
      · rw [List.mem_singleton.mp m]
        exact of_decide_eq_false c
  · obtain ⟨rfl, ⟨z2, rfl⟩, no⟩ := hP
    rw [List.take_length] at no
    exact q2 no
/-! ### the law's plane graph, made edge by edge -/
def cE (e : Nat × Nat) : EgI := (((e.1 : Nat) : Int), ((e.2 : Nat) : Int))
theorem asg_join {e : TE} {g : TG} {D : Ends} {σ : L2.St} {H : Hp} (R : Int → Prop) (h1 : ∀ x, R x → g (.int x) σ H D.nx) (h2 : ∀ Q' : VK, (∀ x, R x → Q' (.int x) H) → e σ H Q') : tAsg e g D σ H := h2 _ h1
theorem tnil_of {t : List V → Hp → Prop} {σ : L2.St} {H : Hp} (h : t [] H) : tNil σ H t := h
theorem lfresh {H0 H : Hp} {l : Addr} {as : List Addr} {ls : List (List Nat)} (h : LLs H0 H l as ls) : Paired (TuQ K H) (as.map V.ref) ls := lls_tuq h
theorem ixN_nat {n i : Nat} (h : i < n) : ixN n ((i : Nat) : Int) = some i := by
  unfold ixN
  rw [if_pos (Int.natCast_nonneg _)]
  exact if_pos (by omega)
theorem spOw_of {H0 H : Hp} {l : Addr} {as : List Addr} {ts : List (List Nat)} {x : Int} {u : Nat} {Q : VK} {E : XK} (L : LLs H0 H l as ts) (ln : ts.length ≤ 1000) (ow : Own ts x u) (q : Q (.int ((u : Nat) : Int)) H) : spOw [.ref l, .int x] H Q E :=
  ⟨H0, l, as, ts, x, rfl, L, ln, fun u' own h1 h2 => by rw [ow.1 u' own h1 h2]; exact q, fun h => by rw [ow.2 h] at q; exact q⟩
theorem spPlc_of {H0 H : Hp} {l : Addr} {as : List Addr} {ts : List (List Nat)} {x : Int} {u k : Nat} {own : List Nat} {Q : VK} {E : XK} (L : LLs H0 H l as ts) (hu : ts[u]? = some own) (pl : Plc own x k) (q : Q (.int ((k : Nat) : Int)) H) : spPlc [.ref l, .int ((u : Nat) : Int), .int x] H Q E :=
  ⟨H0, l, as, ts, u, own, x, rfl, L, hu, fun y A B h1 h2 h3 => by rw [pl.1 y A B h1 h2 h3]; exact q, fun h => by rw [pl.2 h] at q; exact q⟩
theorem pri_updL {H : Hp} {D : Addr} {o : HO} {acc xs : List V} {es : List EgI} (hD : H D = some (.lst acc)) (h : Paired (PrI K H) xs es) : Paired (PrI K (upd H D o)) xs es := paired_imp (fun _ _ ⟨a, e, g⟩ => ⟨a, e, by
  rcases g with (g | ⟨o', g⟩) | g
  · exact .inl (.inl (by rw [upd_ne (ne_of g hD (by intro z; cases z))]; exact g))
  · exact .inl (.inr ⟨o', by rw [upd_ne (ne_of g hD (by intro z; cases z))]; exact g⟩)
  · exact .inr g⟩) h
/-- turns[u] = turns[u][:place] + [x] + turns[u][place:] -/
theorem cut_put {H0 H : Hp} {tl : Addr} {as : List Addr} {ts : List (List Nat)} {u x : Nat} {A B : List Nat} {σ : L2.St} {D : Ends} {tx : TE} {it iu ip : Nat} (L : LLs H0 H tl as ts) (hu : ts[u]? = some (A ++ B)) (h5 : σ[it]? = some (some (.ref tl))) (hv : σ[iu]? = some (some (.int ((u : Nat) : Int)))) (hp : σ[ip]? = some (some (.int ((A.length : Nat) : Int)))) (hx : ∀ (H' : Hp) (Q : VK), (∀ b xs, H b = some (.lst xs) → H' b = some (.lst xs)) → Q (.int ((x : Nat) : Int)) H' → tx σ H' Q) (hl : A.length + B.length ≤ 100000)
    (q : ∀ Hm zs as', Ext H Hm → LLs H0 (upd Hm tl (.lst zs)) tl as' (ts.set u (A ++ x :: B)) → (∀ b o, H b = some o → b ∉ as → b ∉ as') → D.nx σ (upd Hm tl (.lst zs))) :
    tAsg (tOp rCat (tOp rCat (tSl (rSlL K) (tOp (rIxL K) (tVar it) (tVar iu)) tNoPart (tPart (tVar ip))) (tLst (tCons tx tNil))) (tSl (rSlL K) (tOp (rIxL K) (tVar it) (tVar iu)) (tPart (tVar ip)) tNoPart)) (gSub (tVar it) (tVar iu) rSetL) D σ H := by
  have ul := (List.getElem?_eq_some_iff.mp hu).1
  obtain ⟨a1, w1, ha1, hw1, hH1, na1, fa1⟩ := L.item ul
  rw [hu] at hw1
  obtain rfl := Option.some.inj hw1
  have at1 : atI (as.map V.ref) ((u : Nat) : Int) = some (.ref a1) := atI_nat (by rw [List.getElem?_map, ha1]; rfl)
  refine ⟨_, h5, _, hv, tl, _, _, .ref a1, rfl, rfl, SqL.of L.hl, at1, ?_⟩
  refine ⟨_, hp, _, rfl, a1, natV (A ++ B), rfl, SqL.of hH1, fun p1 hp1 => ?_⟩
  have e1 : cutV (natV (A ++ B)) none (some ((A.length : Nat) : Int)) = natV A := by
    rw [cutN, natV_app, List.take_left' (natV_len A)]
  rw [e1]
  have x1 := ext_upd (o := .lst (natV A)) hp1
  have k1 : upd H p1 (.lst (natV A)) p1 = some (.lst (natV A)) := upd_same
  generalize upd H p1 (.lst (natV A)) = H1 at *
  refine hx H1 _ (fun b xs h => x1.lst h) ⟨by rw [sizeLine_eq]; simp, fun p2 hp2 => ?_⟩
  have x2 := ext_upd (o := .lst [V.int ((x : Nat) : Int)]) hp2
  have k2 : upd H1 p2 (.lst [V.int ((x : Nat) : Int)]) p2 = some (.lst [V.int ((x : Nat) : Int)]) := upd_same
  have k12 := x2.lst k1
  have s2 := x1.trans x2
  generalize upd H1 p2 (.lst [V.int ((x : Nat) : Int)]) = H2 at *
  refine ⟨p1, p2, _, _, rfl, rfl, k12, k2, sl_of (by rw [natV_len]; simp; omega), fun p3 hp3 => ?_⟩
  have e3 : natV A ++ [V.int ((x : Nat) : Int)] = natV (A ++ [x]) := by rw [natV_app]; rfl
  rw [e3]
  have x3 := ext_upd (o := .lst (natV (A ++ [x]))) hp3
  have k3 : upd H2 p3 (.lst (natV (A ++ [x]))) p3 = some (.lst (natV (A ++ [x]))) := upd_same
  have s3 := s2.trans x3
  generalize upd H2 p3 (.lst (natV (A ++ [x]))) = H3 at *
  refine ⟨_, h5, _, hv, tl, _, _, .ref a1, rfl, rfl, SqL.of (s3.lst L.hl), at1, ?_⟩
  refine ⟨_, hp, _, rfl, a1, natV (A ++ B), rfl, SqL.of (s3.lst hH1), fun p4 hp4 => ?_⟩
  have e4 : cutV (natV (A ++ B)) (some ((A.length : Nat) : Int)) none = natV B := by
    rw [cutD, natV_app, List.drop_left' (natV_len A)]
  rw [e4]
  have x4 := ext_upd (o := .lst (natV B)) hp4
  have k4 : upd H3 p4 (.lst (natV B)) p4 = some (.lst (natV B)) := upd_same
  have k34 := x4.lst k3
  have s4 := s3.trans x4
  generalize upd H3 p4 (.lst (natV B)) = H4 at *
  refine ⟨p3, p4, _, _, rfl, rfl, k34, k4, sl_of (by rw [natV_len, natV_len]; simp; omega), fun p5 hp5 => ?_⟩
  have e5 : natV (A ++ [x]) ++ natV B = natV (A ++ x :: B) := by rw [← natV_app]; simp
  rw [e5]
  have x5 := ext_upd (o := .lst (natV (A ++ x :: B))) hp5
  have k5 : upd H4 p5 (.lst (natV (A ++ x :: B))) p5 = some (.lst (natV (A ++ x :: B))) := upd_same
  have s5 := s4.trans x5
  have f5 := s4.free hp5
  obtain ⟨f50, n5, a5⟩ := (L.up s4).fresh hp5
  generalize upd H4 p5 (.lst (natV (A ++ x :: B))) = H5 at *
  have L5 := L.up s5
  refine ⟨_, h5, _, hv, tl, _, _, u, rfl, rfl, L5.hl, ixN_nat (by rw [List.length_map, L.len]; exact ul), ?_⟩
  exact q H5 _ (as.set u p5) s5 (L5.put ul k5 f50 n5 a5) fun b o hb nb m => by
    rcases List.mem_or_eq_of_mem_set m with m | m
    · exact nb m
    · rw [m, f5] at hb
      cases hb
theorem if_join {c : TT} {t u : TS} {D : Ends} {σ : L2.St} {H : Hp} (h1 : t D σ H) (h2 : u D σ H) (h : ∀ Q' : Bool → Hp → Prop, Q' true H → Q' false H → c σ H Q') : tIfS c t u D σ H := h _ (show (if true = true then t D σ H else u D σ H) from by rw [if_pos rfl]; exact h1) (show (if false = true then t D σ H else u D σ H) from by rw [if_neg (by decide)]; exact h2)
theorem own_len {ts : List (List Nat)} {N : Nat} (p : ts.flatten.Perm (List.range N)) {own : List Nat} (m : own ∈ ts) : own.length ≤ N := by
  have nd := PG.own_nodup (p.nodup_iff.mpr List.nodup_range) m
  have := List.Nodup.length_le_of_subset (l₂ := List.range N) nd fun x mx => p.mem_iff.mp (List.mem_flatten.mpr ⟨own, m, mx⟩)
  rwa [List.length_range] at this
def spLPl (K : PySem.W.Frag) : Sp := fun vs H Q _ => ∃ (sc : Addr) (ns : List Int) (f most : Nat) (vt : Int), vs = [.ref sc, .int ((f : Nat) : Int), .int ((most : Nat) : Int), .int vt] ∧ SqL K H sc (ns.map V.int) ∧ most ≤ 100 ∧
  ∀ p H' el ul exs uys es ts, Ext H H' → SqT K H' p [.int ((ts.length : Nat) : Int), .ref el, .ref ul] → H' el = some (.lst exs) → Paired (PrI K H') exs (es.map cE) → H' ul = some (.lst uys) → Paired (TuN K H') uys ts → Pg es ts → es.length ≤ most → ts.length ≤ es.length + 1 → Q (.ref p) H'
theorem ok_law_plane (T : Top K mg) : FnOk P w K mg base CX0 2 T.f_law_plane T.d_law_plane ["script", "first", "most", "vertices"] (spLPl K) := by
  refine T.F_law_plane.ok sc_law_plane (fun vs H Q E h => ?_) (fun cdv A outer s H vs Q E hr h => ?_)
  · obtain ⟨sc, ns, f, most, vt, rfl, _⟩ := h
    rfl
  obtain ⟨sc, ns, f, most, vt, rfl, hs, hm, q⟩ := h
  refine ⟨_, (pss_cons (ps_set (i := 4) sc_law_plane.nd rfl (by first | exact .inl rfl | exact .inr rfl) (pe_lst pa_nil))
      (pss_cons (ps_set (i := 5) sc_law_plane.nd rfl (by first | exact .inl rfl | exact .inr rfl) (pe_lst (pa_cons (pe_lst pa_nil) pa_nil)))
      (pss_cons (ps_for PassesOwn.never rfl (pi_range1 (by rfl) T.m_range (pa_cons (pe_op op_mod (pe_call (ok_law_cell T) (hr.mono (by decide)) (by rfl) T.g_law_cell T.F_law_cell.kp T.b_law_cell .nil pass0 (pa_cons (pv 0) (pa_cons (pv 1) pa_nil))) (pe_op op_add (pv 2) pe_int)) pa_nil)) (pg_name (i := 6) sc_law_plane.nd rfl (by first | exact .inl rfl | exact .inr rfl)) (pss_cons (ps_set (i := 7) sc_law_plane.nd rfl (by first | exact .inl rfl | exact .inr rfl) (pe_call (ok_law_cell T) (hr.mono (by decide)) (by rfl) T.g_law_cell T.F_law_cell.kp T.b_law_cell .nil pass0 (pa_cons (pv 0) (pa_cons (pe_op op_add (pe_op op_add (pv 1) pe_int) (pv 6)) pa_nil))))
      (pss_cons (ps_set (i := 8) sc_law_plane.nd rfl (by first | exact .inl rfl | exact .inr rfl) (pe_call (ok_law_faces T) (hr.mono (by decide)) (by rfl) T.g_law_faces T.F_law_faces.kp T.b_law_faces .nil pass0 (pa_cons (pv 4) (pa_cons (pv 5) pa_nil))))
      (pss_cons (ps_set (i := 9) sc_law_plane.nd rfl (by first | exact .inl rfl | exact .inr rfl) (pe_ix ix_list (pv 8) (pe_op op_mod (pe_op op_fdivZ (pv 7) pe_int) (pe_callB call_len_seq (by rfl) T.m_len (by decide +kernel) (pa_cons (pv 8) pa_nil))) (fun _ _ => rfl)))
      (pss_cons (ps_set (i := 10) sc_law_plane.nd rfl (by first | exact .inl rfl | exact .inr rfl) (pe_ifExp (pt_cmpR op_gt (pe_callB call_len_seq (by rfl) T.m_len (by decide +kernel) (pa_cons (pv 9) pa_nil)) pe_int (nomark _)) (pe_ix ix_tup (pv 9) (pe_op op_mod (pe_call (ok_law_mix T) (hr.mono (by decide)) (by rfl) T.g_law_mix T.F_law_mix.kp T.b_law_mix .nil pass0 (pa_cons (pv 7) (pa_cons pe_int pa_nil))) (pe_callB call_len_seq (by rfl) T.m_len (by decide +kernel) (pa_cons (pv 9) pa_nil))) (fun _ _ => rfl)) (pe_un un_neg pe_int)))
      (pss_cons (ps_set (i := 11) sc_law_plane.nd rfl (by first | exact .inl rfl | exact .inr rfl) (pe_ifExp (pt_cmpR op_gt (pe_callB call_len_seq (by rfl) T.m_len (by decide +kernel) (pa_cons (pv 9) pa_nil)) pe_int (nomark _)) (pe_ix ix_tup (pv 9) (pe_op op_mod (pe_call (ok_law_mix T) (hr.mono (by decide)) (by rfl) T.g_law_mix T.F_law_mix.kp T.b_law_mix .nil pass0 (pa_cons (pv 7) (pa_cons pe_int pa_nil))) (pe_callB call_len_seq (by rfl) T.m_len (by decide +kernel) (pa_cons (pv 9) pa_nil))) (fun _ _ => rfl)) (pe_un un_neg pe_int)))
      (pss_cons (ps_set (i := 12) sc_law_plane.nd rfl (by first | exact .inl rfl | exact .inr rfl) (pe_call (ok_law_owner T) (hr.mono (by decide)) (by rfl) T.g_law_owner T.F_law_owner.kp T.b_law_owner .nil pass0 (pa_cons (pv 5) (pa_cons (pv 10) pa_nil))))
      (pss_cons (ps_set (i := 13) sc_law_plane.nd rfl (by first | exact .inl rfl | exact .inr rfl) (pe_op op_mul pe_int (pe_callB call_len_seq (by rfl) T.m_len (by decide +kernel) (pa_cons (pv 4) pa_nil))))
      (pss_cons (ps_set (i := 14) sc_law_plane.nd rfl (by first | exact .inl rfl | exact .inr rfl) (pe_call (ok_law_place T) (hr.mono (by decide)) (by rfl) T.g_law_place T.F_law_place.kp T.b_law_place .nil pass0 (pa_cons (pv 5) (pa_cons (pv 12) (pa_cons (pv 10) pa_nil)))))
      (pss_cons (ps_asg (pe_op op_cat (pe_op op_cat (pe_slice sl_list (pe_ix ix_list (pv 5) (pv 12) (fun _ _ => rfl)) po_none (po_some (pv 14))) (pe_lst (pa_cons (pv 13) pa_nil))) (pe_slice sl_list (pe_ix ix_list (pv 5) (pv 12) (fun _ _ => rfl)) (po_some (pv 14)) po_none)) (pg_sub (pv 5) (pv 12) set_list))
      (pss_one (ps_if (PW.pt (pw_and (pt_cmpR op_eq (pe_op op_mod (pv 7) pe_int) pe_int (nomark _)) (pw_and1 (pt_cmpR op_lt (pe_callB call_len_seq (by rfl) T.m_len (by decide +kernel) (pa_cons (pv 5) pa_nil)) (pv 3) (nomark _))))) (pss_cons (ps_expr (pe_bm PySem.F.plainAttrs_list PySem.F.slot_list_append PySem.F.type_list_append mt_append (pv 4) (pa_cons (pe_tup (pa_cons (pv 12) (pa_cons (pe_callB call_len_seq (by rfl) T.m_len (by decide +kernel) (pa_cons (pv 5) pa_nil)) pa_nil))) pa_nil)))
      (pss_one (ps_expr (pe_bm PySem.F.plainAttrs_list PySem.F.slot_list_append PySem.F.type_list_append mt_append (pv 5) (pa_cons (pe_lst (pa_cons (pe_op op_add (pv 13) pe_int) pa_nil)) pa_nil))))) (pss_cons (ps_set (i := 15) sc_law_plane.nd rfl (by first | exact .inl rfl | exact .inr rfl) (pe_call (ok_law_owner T) (hr.mono (by decide)) (by rfl) T.g_law_owner T.F_law_owner.kp T.b_law_owner .nil pass0 (pa_cons (pv 5) (pa_cons (pv 11) pa_nil))))
      (pss_cons (ps_set (i := 14) sc_law_plane.nd rfl (by first | exact .inl rfl | exact .inr rfl) (pe_op op_add (pe_call (ok_law_place T) (hr.mono (by decide)) (by rfl) T.g_law_place T.F_law_place.kp T.b_law_place .nil pass0 (pa_cons (pv 5) (pa_cons (pv 15) (pa_cons (pv 11) pa_nil)))) (pe_ifExp (pt_cmpR op_lt (pv 11) pe_int (nomark _)) pe_int pe_int)))
      (pss_cons (ps_expr (pe_bm PySem.F.plainAttrs_list PySem.F.slot_list_append PySem.F.type_list_append mt_append (pv 4) (pa_cons (pe_tup (pa_cons (pv 12) (pa_cons (pv 15) pa_nil))) pa_nil)))
      (pss_one (ps_asg (pe_op op_cat (pe_op op_cat (pe_slice sl_list (pe_ix ix_list (pv 5) (pv 15) (fun _ _ => rfl)) po_none (po_some (pv 14))) (pe_lst (pa_cons (pe_op op_add (pv 13) pe_int) pa_nil))) (pe_slice sl_list (pe_ix ix_list (pv 5) (pv 15) (fun _ _ => rfl)) (po_some (pv 14)) po_none)) (pg_sub (pv 5) (pv 15) set_list))))))))))))))))))
      (pss_one (ps_ret (pe_tup (pa_cons (pe_callB call_len_seq (by rfl) T.m_len (by decide +kernel) (pa_cons (pv 5) pa_nil)) (pa_cons (pv 4) (pa_cons (pe_lc (own := [("own", 16)]) (g := gName 16) (tt := tYes) rfl sc_law_plane.nd (pi_list (pv 5)) (blkOk_by (own := [("own", 16)]) (N := n_law_plane) (sc := defScope s_law_plane) (by decide +kernel)) (fun _ _ _ _ _ => (pg_name (i := 16) sc_law_plane.nd rfl (by first | exact .inl rfl | exact .inr rfl))) (fun _ _ _ _ _ => pts_nil) (fun _ _ _ _ _ => (pe_callTy (T := "tuple") (r := rTupOf K) call_tuple_of (by rfl) T.m_tuple (by decide +kernel) (pa_cons (pv 16) pa_nil)))) pa_nil))))))))), ?_⟩
  refine ⟨by rw [sizeLine_eq]; simp, fun el hel => ?_⟩
  have x1 := ext_upd (o := .lst []) hel
  have k1 : upd H el (.lst []) el = some (.lst []) := upd_same
  dsimp only [gName]
  generalize upd H el (.lst []) = H1 at *
  refine ⟨by rw [sizeLine_eq]; simp, fun a0 ha0 => ⟨by rw [sizeLine_eq]; simp, fun tl htl => ?_⟩⟩
  have L0 : LLs H (upd (upd H1 a0 (.lst [])) tl (.lst [V.ref a0])) tl [a0] [[]] := by
    have n1 : a0 ≠ tl := fun z => by
      rw [← z, upd_same] at htl
      cases htl
    have htl1 : H1 tl = none := by rw [upd_ne n1.symm] at htl; exact htl
    refine ⟨(x1.trans (ext_upd ha0)).trans (ext_upd htl), upd_same, rfl, fun i a xs h1 h2 => ?_, by simp, by simpa using n1.symm, fun a m => ?_, x1.free htl1⟩
    · cases i with
      | succ i => simp at h1
      | zero =>
        obtain rfl : a0 = a := Option.some.inj h1
        obtain rfl : [] = xs := Option.some.inj h2
        rw [upd_ne n1]
        exact upd_same
    · rw [List.mem_singleton.mp m]
      exact x1.free ha0
  have k2 : upd (upd H1 a0 (.lst [])) tl (.lst [V.ref a0]) el = some (.lst []) := (ext_upd htl).lst ((ext_upd ha0).lst k1)
  have net : el ≠ tl := fun z => by
    have := (ext_upd (o := .lst []) ha0).lst k1
    rw [z, htl] at this
    cases this
  have nea : el ∉ [a0] := fun m => by
    rw [List.mem_singleton.mp m, ha0] at k1
    cases k1
  dsimp only [gName]
  generalize upd (upd H1 a0 (.lst [])) tl (.lst [V.ref a0]) = H2 at *
  clear x1 ha0 htl
  refine ⟨_, rfl, _, rfl, sc, ns, f, rfl, L0.ext.seq hs, _, rfl, _, _, rfl, rfl, _, _, rfl, rfl, ?_⟩
  have hel0 : H el = none := hel
  obtain ⟨N, eN, lN⟩ : ∃ N : Nat, (cellZ ns f % (((most : Nat) : Int) + 1)).toNat = N ∧ N ≤ most := by
    have h1 := Int.emod_nonneg (cellZ ns f) (show ((most : Nat) : Int) + 1 ≠ 0 by omega)
    have h2 := Int.emod_lt_of_pos (cellZ ns f) (show 0 < ((most : Nat) : Int) + 1 by omega)
    exact ⟨_, rfl, by omega⟩
  have hN1 : -2 ^ 62 ≤ cellZ ns f % (((most : Nat) : Int) + 1) ∧ cellZ ns f % (((most : Nat) : Int) + 1) < 2 ^ 62 := by
    have h1 := Int.emod_nonneg (cellZ ns f) (show ((most : Nat) : Int) + 1 ≠ 0 by omega)
    have h2 := Int.emod_lt_of_pos (cellZ ns f) (show 0 < ((most : Nat) : Int) + 1 by omega)
    constructor <;> omega
  refine ⟨by show (0 : Int) < ((most : Nat) : Int) + 1; omega, _, rfl, hN1.1, hN1.2, for_range (lo := 0) (n := (cellZ ns f % (((most : Nat) : Int) + 1)).toNat) (fun i σ HA => ∃ exs as es ts c6 c7 c8 c9 c10 c11 c12 c13 c14 c15 c16, σ = [some (.ref sc), some (.int ((f : Nat) : Int)), some (.int ((most : Nat) : Int)), some (.int vt), some (.ref el), some (.ref tl), c6, c7, c8, c9, c10, c11, c12, c13, c14, c15, c16] ∧ LLs H HA tl as ts ∧ HA el = some (.lst exs) ∧ Paired (PrI K HA) exs (es.map cE) ∧ Pg es ts ∧ es.length = i ∧ ts.length ≤ es.length + 1 ∧ el ∉ as) ⟨[], [a0], [], [[]], _, _, _, _, _, _, _, _, _, _, _, rfl, L0, k2, .nil, PG.Pg.zero, rfl, Nat.le_refl _, nea⟩ (fun i σ HA hi hP => ?_) (fun σ HA hP => ?_)⟩
  · obtain ⟨exs, as, es, ts, c6, c7, c8, c9, c10, c11, c12, c13, c14, c15, c16, rfl, L, ke, hx, G, hl, hlt, nel⟩ := hP
    rw [eN] at hi
    rw [Int.zero_add]
    have lx := hx.length
    rw [List.length_map] at lx
    dsimp only [gName]
    refine ⟨_, rfl, _, rfl, _, _, rfl, rfl, _, rfl, _, _, rfl, rfl, sc, ns, f + 1 + i, rfl, L.ext.seq hs, ?_⟩
    generalize cellZ ns (f + 1 + i) = cell
    dsimp only [gName]
    refine ⟨_, rfl, _, rfl, el, tl, exs, as.map V.ref, es.length, ts, rfl, SqL.of ke, lx, SqL.of L.hl, lls_tuq L, G.perm, by omega, fun fl H3 zs fs s3 nfl hfl hzs hfc => ?_⟩
    have L3 := L.up s3
    have ke3 := s3.lst ke
    have hx3 := pri_up s3 hx
    have lz := hzs.length
    have fpos := hfc.pos
    dsimp only [gName]
    obtain ⟨k, ek, hk⟩ : ∃ k : Nat, Int.fdiv cell 2 % ((zs.length : Nat) : Int) = ((k : Nat) : Int) ∧ k < zs.length := by
      generalize Int.fdiv cell 2 = z2
      have h1 := Int.emod_nonneg z2 (show ((zs.length : Nat) : Int) ≠ 0 by omega)
      have h2 := Int.emod_lt_of_pos z2 (show 0 < ((zs.length : Nat) : Int) by omega)
      exact ⟨(z2 % ((zs.length : Nat) : Int)).toNat, by omega, by omega⟩
    obtain ⟨c, hkc, fa, efa, gfa⟩ := paired_at hzs (List.getElem?_eq_getElem hk)
    have mc := List.mem_of_getElem? hkc
    have hkz : zs[k]? = some (.ref fa) := by rw [List.getElem?_eq_getElem hk, efa]
    refine ⟨_, rfl, _, rfl, _, _, rfl, rfl, ⟨by decide, by decide⟩, _, rfl, fl, zs, rfl, .inl (SqL.of hfl), _, _, rfl, rfl, (by show (0 : Int) < ((zs.length : Nat) : Int); omega), fl, zs, ((k : Nat) : Int), .ref fa, rfl, congrArg V.int ek, SqL.of hfl, atI_nat hkz, ?_⟩
    dsimp only [gName]
    refine asg_join (Cor c) (fun one h1 => ?_) (fun Q' hQ => by
      refine ⟨_, rfl, fa, natV c, rfl, .inr gfa, _, _, rfl, rfl, _, rfl, iteB (fun cc => ?_) (fun cc => ?_)⟩
      · have cl := of_decide_eq_true cc
        rw [natV_len] at cl
        refine ⟨_, rfl, _, rfl, cell, _, rfl, fun mm hmm => ⟨_, rfl, fa, natV c, rfl, .inr gfa, ?_⟩⟩
        rw [natV_len]
        obtain ⟨j, ej, hj⟩ : ∃ j : Nat, mm % ((c.length : Nat) : Int) = ((j : Nat) : Int) ∧ j < c.length := by
          have h1 := Int.emod_nonneg mm (show ((c.length : Nat) : Int) ≠ 0 by omega)
          have h2 := Int.emod_lt_of_pos mm (show 0 < ((c.length : Nat) : Int) by omega)
          exact ⟨(mm % ((c.length : Nat) : Int)).toNat, by omega, by omega⟩
        have hj2 := List.getElem?_eq_getElem hj
        exact ⟨_, _, rfl, rfl, (by show (0 : Int) < ((c.length : Nat) : Int); omega), fa, natV c, ((j : Nat) : Int), _, rfl, congrArg V.int ej, gfa, atI_nat (natV_get hj2), hQ _ (.inr ⟨_, List.mem_of_getElem? hj2, rfl⟩)⟩
      · have cl := of_decide_eq_false cc
        rw [natV_len] at cl
        exact ⟨_, rfl, hQ _ (.inl ⟨List.length_eq_zero_iff.mp (by omega), rfl⟩)⟩)
    dsimp only [gName]
    refine asg_join (Cor c) (fun other h2 => ?_) (fun Q' hQ => by
      refine ⟨_, rfl, fa, natV c, rfl, .inr gfa, _, _, rfl, rfl, _, rfl, iteB (fun cc => ?_) (fun cc => ?_)⟩
      · have cl := of_decide_eq_true cc
        rw [natV_len] at cl
        refine ⟨_, rfl, _, rfl, cell, _, rfl, fun mm hmm => ⟨_, rfl, fa, natV c, rfl, .inr gfa, ?_⟩⟩
        rw [natV_len]
        obtain ⟨j, ej, hj⟩ : ∃ j : Nat, mm % ((c.length : Nat) : Int) = ((j : Nat) : Int) ∧ j < c.length := by
          have h1 := Int.emod_nonneg mm (show ((c.length : Nat) : Int) ≠ 0 by omega)
          have h2 := Int.emod_lt_of_pos mm (show 0 < ((c.length : Nat) : Int) by omega)
          exact ⟨(mm % ((c.length : Nat) : Int)).toNat, by omega, by omega⟩
        have hj2 := List.getElem?_eq_getElem hj
        exact ⟨_, _, rfl, rfl, (by show (0 : Int) < ((c.length : Nat) : Int); omega), fa, natV c, ((j : Nat) : Int), _, rfl, congrArg V.int ej, gfa, atI_nat (natV_get hj2), hQ _ (.inr ⟨_, List.mem_of_getElem? hj2, rfl⟩)⟩
      · have cl := of_decide_eq_false cc
        rw [natV_len] at cl
        exact ⟨_, rfl, hQ _ (.inl ⟨List.length_eq_zero_iff.mp (by omega), rfl⟩)⟩)
    dsimp only [gName]
    obtain ⟨u, A1, B1, hu, ow1, pl1, b1, b2⟩ := corner1 G hfc mc h1
    obtain ⟨v, A2, B2, pl, hv, ow2, pl2, epl, d1, d2⟩ := corner2 G hfc mc h2 hu b1 b2
    have gL := leafG G hu b1 b2
    have gE := edgeG G hfc mc hu b1 b2 hv d1 d2
    have lts : ts.length ≤ 1000 := by omega
    refine ⟨_, rfl, _, rfl, ?_⟩
    dsimp only
    refine tnil_of ?_
    refine spOw_of L3 lts ow1 ?_
    dsimp only [gName]
    refine ⟨_, rfl, el, exs, rfl, .inl (SqL.of ke3), _, _, rfl, rfl, .inl ⟨by decide, by omega⟩, ?_⟩
    rw [lx]
    dsimp only [gName]
    refine ⟨_, rfl, _, rfl, _, rfl, ?_⟩
    dsimp only
    refine tnil_of ?_
    refine spPlc_of L3 hu pl1 ?_
    dsimp only [gName]
    have ul := (List.getElem?_eq_some_iff.mp hu).1
    have l1 := own_len G.perm (List.mem_of_getElem? hu)
    rw [List.length_append] at l1
    refine cut_put L3 hu rfl rfl rfl (fun H' Q _ h => ⟨_, rfl, h⟩) (by omega) (fun Hm zs1 as1 sm L4 kp1 => ?_)
    have nel1 := kp1 el _ ke3 nel
    have htlm : Hm tl = some (.lst (as.map V.ref)) := sm.lst L3.hl
    have ke4 : upd Hm tl (.lst zs1) el = some (.lst exs) := by rw [upd_ne net]; exact sm.lst ke3
    have hx4 : Paired (PrI K (upd Hm tl (.lst zs1))) exs (es.map cE) := pri_updL htlm (pri_up sm hx3)
    generalize upd Hm tl (.lst zs1) = H4 at *
    have lset : (ts.set u (A1 ++ 2 * es.length :: B1)).length = ts.length := List.length_set
    have eapp : ∀ a b : Nat, es.map cE ++ [(((a : Nat) : Int), ((b : Nat) : Int))] = (es ++ [(a, b)]).map cE := fun a b => by rw [List.map_append]; rfl
    dsimp only
    refine if_join ?_ ?_ (fun Q' q1 q2 => ?_)
    · refine ⟨_, rfl, .inl ⟨rfl, _, SqL.of ke4⟩, _, rfl, _, rfl, tl, _, rfl, .inl (SqL.of L4.hl), by rw [sizeLine_eq]; simp, fun p1 hp1 => ?_⟩
      rw [List.length_map, L4.len, lset]
      have xp := ext_upd (o := .tup [V.int ((u : Nat) : Int), V.int ((ts.length : Nat) : Int)]) hp1
      have kp : SqT K (upd H4 p1 (.tup [V.int ((u : Nat) : Int), V.int ((ts.length : Nat) : Int)])) p1 [V.int ((u : Nat) : Int), V.int ((ts.length : Nat) : Int)] := SqT.of upd_same
      have L5 := L4.up xp
      have ke5 := xp.lst ke4
      have hx5 := pri_up xp hx4
      generalize upd H4 p1 (.tup [V.int ((u : Nat) : Int), V.int ((ts.length : Nat) : Int)]) = H5 at *
      refine ⟨el, exs, _, rfl, rfl, ke5, sl_lt (by omega), ?_⟩
      have L6 := L5.else (o := .lst (exs ++ [V.ref p1])) hel0 net nel1
      have ke6 : upd H5 el (.lst (exs ++ [V.ref p1])) el = some (.lst (exs ++ [V.ref p1])) := upd_same
      have hx6 : Paired (PrI K (upd H5 el (.lst (exs ++ [V.ref p1])))) (exs ++ [V.ref p1]) ((es ++ [(u, ts.length)]).map cE) := by
        rw [← eapp]
        exact pri_updL ke5 (paired_snoc hx5 ⟨p1, rfl, kp⟩)
      dsimp only [gName]
      generalize upd H5 el (.lst (exs ++ [V.ref p1])) = H6 at *
      refine ⟨_, rfl, .inl ⟨rfl, _, SqL.of L6.hl⟩, _, rfl, _, _, rfl, rfl, by rw [sizeLine_eq]; simp, fun p2 hp2 => ?_⟩
      obtain ⟨f20, n2, a2⟩ := L6.fresh hp2
      have x2 := ext_upd (o := .lst [V.int (2 * ((es.length : Nat) : Int) + 1)]) hp2
      have k2' : upd H6 p2 (.lst [V.int (2 * ((es.length : Nat) : Int) + 1)]) p2 = some (.lst (natV [2 * es.length + 1])) := upd_same
      have L7 := L6.up x2
      have ke7 := x2.lst ke6
      have hx7 := pri_up x2 hx6
      have nep : el ≠ p2 := fun z => by
        rw [← z, ke6] at hp2
        cases hp2
      generalize upd H6 p2 (.lst [V.int (2 * ((es.length : Nat) : Int) + 1)]) = H7 at *
      have hl7 := L7.hl
      refine ⟨tl, _, _, rfl, rfl, L7.hl, sl_lt (by rw [List.length_map, L7.len, lset]; omega), ?_⟩
      have L8 := L7.more k2' f20 n2 a2
      refine ⟨_, _, _, _, _, _, _, _, _, _, _, _, _, _, _, rfl, L8, by rw [upd_ne net]; exact ke7, pri_updL hl7 hx7, gL, by rw [List.length_append, hl]; rfl, by rw [List.length_append, List.length_append, lset]; simp; omega, fun m => ?_⟩
      rcases List.mem_append.mp m with m | m
      · exact nel1 m
      · exact nep (List.mem_singleton.mp m)
    · have lts4 : (ts.set u (A1 ++ 2 * es.length :: B1)).length ≤ 1000 := by omega
      refine ⟨_, rfl, _, rfl, ?_⟩
      dsimp only
      refine tnil_of ?_
      refine spOw_of L4 lts4 ow2 ?_
      dsimp only [gName]
      refine asg_join (fun z => z = ((A2.length : Nat) : Int)) (fun z ez => ?_) (fun Q' hQ => by
        refine ⟨_, rfl, _, rfl, _, rfl, ?_⟩
        dsimp only
        refine tnil_of ?_
        refine spPlc_of L4 hv pl2 ?_
        refine ⟨_, rfl, _, _, rfl, rfl, _, rfl, iteB (fun cc => ?_) (fun cc => ?_)⟩
        · have cc := of_decide_eq_true cc
          rw [if_pos cc] at epl
          exact ⟨_, _, rfl, rfl, hQ _ epl.symm⟩
        · have cc := of_decide_eq_false cc
          rw [if_neg cc] at epl
          exact ⟨_, _, rfl, rfl, hQ _ epl.symm⟩)
      subst ez
      dsimp only [gName]
      refine ⟨_, rfl, .inl ⟨rfl, _, SqL.of ke4⟩, _, rfl, _, rfl, by rw [sizeLine_eq]; simp, fun p1 hp1 => ?_⟩
      have xp := ext_upd (o := .tup [V.int ((u : Nat) : Int), V.int ((v : Nat) : Int)]) hp1
      have kp : SqT K (upd H4 p1 (.tup [V.int ((u : Nat) : Int), V.int ((v : Nat) : Int)])) p1 [V.int ((u : Nat) : Int), V.int ((v : Nat) : Int)] := SqT.of upd_same
      have L5 := L4.up xp
      have ke5 := xp.lst ke4
      have hx5 := pri_up xp hx4
      generalize upd H4 p1 (.tup [V.int ((u : Nat) : Int), V.int ((v : Nat) : Int)]) = H5 at *
      refine ⟨el, exs, _, rfl, rfl, ke5, sl_lt (by omega), ?_⟩
      have L6 := L5.else (o := .lst (exs ++ [V.ref p1])) hel0 net nel1
      have ke6 : upd H5 el (.lst (exs ++ [V.ref p1])) el = some (.lst (exs ++ [V.ref p1])) := upd_same
      have hx6 : Paired (PrI K (upd H5 el (.lst (exs ++ [V.ref p1])))) (exs ++ [V.ref p1]) ((es ++ [(u, v)]).map cE) := by
        rw [← eapp]
        exact pri_updL ke5 (paired_snoc hx5 ⟨p1, rfl, kp⟩)
      dsimp only [gName]
      generalize upd H5 el (.lst (exs ++ [V.ref p1])) = H6 at *
      have l2 : (A2 ++ B2).length ≤ 2 * es.length + 1 := by
        rcases List.mem_or_eq_of_mem_set (List.mem_of_getElem? hv) with m | m
        · have := own_len G.perm m
          omega
        · rw [m, List.length_append, List.length_cons]
          omega
      rw [List.length_append] at l2
      refine cut_put L6 hv rfl rfl rfl (fun H' Q _ h => ⟨_, rfl, _, _, rfl, rfl, h⟩) (by omega) (fun Hn zs2 as2 sn L7 kp2 => ?_)
      have nel2 := kp2 el _ ke6 nel1
      have htln : Hn tl = some (.lst (as1.map V.ref)) := sn.lst L6.hl
      refine ⟨_, _, _, _, _, _, _, _, _, _, _, _, _, _, _, rfl, L7, by rw [upd_ne net]; exact sn.lst ke6, pri_updL htln (pri_up sn hx6), gE, by rw [List.length_append, hl]; rfl, by rw [List.length_append, List.length_set, lset]; simp; omega, nel2⟩
    · have qb : ∀ b, Q' b H4 := fun b => by
        cases b
        · exact q2
        · exact q1
      refine ⟨_, rfl, _, _, rfl, rfl, (by show (0 : Int) < 2; decide), rfl, _, rfl, iteB (fun _ => ?_) (fun _ => q2)⟩
      exact ⟨_, rfl, tl, _, rfl, .inl (SqL.of L4.hl), _, rfl, _, _, rfl, rfl, _, rfl, qb _⟩
  · obtain ⟨exs, as, es, ts, c6, c7, c8, c9, c10, c11, c12, c13, c14, c15, c16, rfl, L, ke, hx, G, hl, hlt, nel⟩ := hP
    have lx := L.len
    refine ⟨_, rfl, tl, _, rfl, .inl (SqL.of L.hl), _, rfl, _, rfl, tl, rfl, ⟨_, SqL.of L.hl⟩, fun D hD => lc_list (xs := as.map V.ref) (fun j HB => ∃ uys, HB D = some (.lst uys) ∧ Ext HA HB ∧ Paired (TuN K HB) uys (ts.take j) ∧ uys.length = j) ⟨[], upd_same, ext_upd hD, .nil, rfl⟩ (fun j HB _ h => by obtain ⟨_, _, sB, _⟩ := h; exact SqL.of (sB.lst L.hl)) (fun j x HB hj hP => ?_) (fun HB hP => ?_)⟩
    · obtain ⟨uys, hD2, sB, hp, hlen⟩ := hP
      rw [List.getElem?_map] at hj
      obtain ⟨a1, ha1, rfl⟩ := Option.map_eq_some_iff.mp hj
      obtain ⟨own, hown⟩ : ∃ own, ts[j]? = some own := ⟨_, List.getElem?_eq_getElem (by rw [← lx]; exact (List.getElem?_eq_some_iff.mp ha1).1)⟩
      have k1 := sB.lst (L.at_ j a1 own ha1 hown)
      refine ⟨rfl, _, rfl, a1, natV own, rfl, .inl ⟨SqL.of k1, fun p hp2 => ?_⟩⟩
      have xp := ext_upd (o := .tup (natV own)) hp2
      have hD3 := xp.lst hD2
      have sC := sB.trans xp
      have hpC := tun_up xp hp
      have kp : SqT K (upd HB p (.tup (natV own))) p (natV own) := SqT.of upd_same
      generalize upd HB p (.tup (natV own)) = HC at *
      have jl := (List.getElem?_eq_some_iff.mp hown).1
      refine ⟨uys, hD3, sl_lt (by omega), uys ++ [.ref p], upd_same, sC.own hD, ?_, by rw [List.length_append, hlen]; rfl⟩
      rw [take_snoc hown]
      exact tun_updL hD3 (paired_snoc hpC ⟨p, rfl, kp⟩)
    · obtain ⟨uys, hD2, sB, hp, hlen⟩ := hP
      rw [List.length_map, lx, List.take_length] at hp
      rw [List.length_map, lx]
      refine ⟨by rw [sizeLine_eq]; simp, fun p hp2 => ?_⟩
      have xp := ext_upd (o := .tup [V.int ((ts.length : Nat) : Int), V.ref el, V.ref D]) hp2
      exact q p _ el D exs uys es ts ((L.ext.trans sB).trans xp) (SqT.of upd_same) (xp.lst (sB.lst ke)) (pri_up xp (pri_up sB hx)) (xp.lst hD2) (tun_up xp hp) G (by omega) hlt
/-! ### darts put in -/
def insD {α : Type} (tss : List (List α)) (v p : Nat) (d : α) : List (List α) := tss.set v ((tss.getD v []).take p ++ d :: (tss.getD v []).drop p)
def okD {α : Type} (tss : List (List α)) (v p : Int) : Prop := 0 ≤ v ∧ v < tss.length ∧ 0 ≤ p ∧ p ≤ ((tss.getD v.toNat []).length : Nat)
theorem paired_set {α β : Type} {R : α → β → Prop} {a : α} {b : β} (h : R a b) : ∀ {as : List α} {bs : List β} (k : Nat), Paired R as bs → Paired R (as.set k a) (bs.set k b)
  | _, _, _, .nil => .nil
  | _, _, 0, .cons _ t => .cons h t
  | _, _, k + 1, .cons x t => .cons x (paired_set h k t)
theorem set_cut {α : Type} {xs : List α} {i : Nat} (h : i < xs.length) (x : α) : xs.take i ++ [x] ++ xs.drop (i + 1) = xs.set i x := by
  rw [List.set_eq_take_append_cons_drop, if_pos h]
  simp
theorem insD_len {α : Type} {tss : List (List α)} {v p N : Nat} {d : α} (h : ∀ l ∈ tss, l.length ≤ N) : ∀ l ∈ insD tss v p d, l.length ≤ N + 1 := fun l m => by
  rcases List.mem_or_eq_of_mem_set m with m | m
  · exact Nat.le_succ_of_le (h l m)
  · have hg : (tss.getD v []).length ≤ N := by
      rw [List.getD_eq_getElem?_getD]
      by_cases e : v < tss.length
      · rw [List.getElem?_eq_getElem e]
        exact h _ (List.getElem_mem e)
      · rw [List.getElem?_eq_none (by omega)]
        exact Nat.zero_le _
    rw [m, List.length_append, List.length_cons, List.length_take, List.length_drop]
    omega
def spWD (T : Top K mg) : Sp := fun vs H Q E => ∃ (ta : Addr) (ys : List V) (tss : List (List Int)) (v p d : Int), vs = [.ref ta, .int v, .int p, .int d] ∧ SqT K H ta ys ∧ Paired (TuI K H) ys tss ∧ tss.length ≤ 1000 ∧ (∀ l ∈ tss, l.length ≤ 1000) ∧
  (okD tss v p → ∀ r H' ys', Ext H H' → SqT K H' r ys' → Paired (TuI K H') ys' (insD tss v.toNat p.toNat d) → Q (.ref r) H') ∧ (¬ okD tss v p → ∀ H', Ext H H' → E (.ref T.f_InvalidPlane) none H')
theorem ok_with_dart (T : Top K mg) : FnOk P w K mg base (L2N.CX P w) 1 T.f_with_dart T.d_with_dart ["turns", "vertex", "place", "dart"] (spWD T) := by
  refine T.F_with_dart.okN sc_with_dart (fun vs H Q E h => ?_) (fun cdv A outer s H vs Q E hr h => ?_)
  · obtain ⟨ta, ys, tss, v, p, d, rfl, _⟩ := h
    rfl
  obtain ⟨ta, ys, tss, v, p, d, rfl, ha, hy, ln, ll, q1, q2⟩ := h
  refine ⟨_, (pss_cons (ps_if (pt_not (pt_chain op_le op_lt pe_int (pv 1) (pe_callB call_len_seq (by rfl) T.m_len (by decide +kernel) (pa_cons (pv 0) pa_nil)))) (pss_one (L2N.ps_raise rfl (L2N.takes_of rfl rfl rfl rfl) (L2N.pmk_own PySem.F.excBase_ValueError T.q_InvalidPlane T.g_InvalidPlane T.k_InvalidPlane (raises_own T.b_InvalidPlane T.y_InvalidPlane) (by rfl)))) pss_nil)
      (pss_cons (ps_set (i := 4) sc_with_dart.nd rfl (by first | exact .inl rfl | exact .inr rfl) (pe_ix ix_tup (pv 0) (pv 1) (fun _ _ => rfl)))
      (pss_cons (ps_if (pt_not (pt_chain op_le op_le pe_int (pv 2) (pe_callB call_len_seq (by rfl) T.m_len (by decide +kernel) (pa_cons (pv 4) pa_nil)))) (pss_one (L2N.ps_raise rfl (L2N.takes_of rfl rfl rfl rfl) (L2N.pmk_own PySem.F.excBase_ValueError T.q_InvalidPlane T.g_InvalidPlane T.k_InvalidPlane (raises_own T.b_InvalidPlane T.y_InvalidPlane) (by rfl)))) pss_nil)
      (pss_one (ps_ret (pe_op op_catA (pe_op op_catA (pe_slice sl_tupA (pv 0) po_none (po_some (pv 1))) (pe_tup (pa_cons (pe_op op_catA (pe_op op_catA (pe_slice sl_tupA (pv 4) po_none (po_some (pv 2))) (pe_tup (pa_cons (pv 3) pa_nil))) (pe_slice sl_tupA (pv 4) (po_some (pv 2)) po_none)) pa_nil))) (pe_slice sl_tupA (pv 0) (po_some (pe_op op_add (pv 1) pe_int)) po_none))))))), ?_⟩
  have ly := hy.length
  refine ⟨_, rfl, _, _, rfl, rfl, _, rfl, ite2 (fun e1 => ?_) (fun e1 => ⟨_, rfl, iteT (q2 (fun g => e1 (decide_eq_true g.1)) H (Ext.refl H))⟩)⟩
  have e1 : (0 : Int) ≤ v := of_decide_eq_true e1
  refine ⟨_, rfl, ta, _, rfl, .inr ha, _, _, rfl, rfl, _, rfl, iteB (fun e2 => ?_) (fun e2 => ?_)⟩
  · have e2 : ¬ v < ((ys.length : Nat) : Int) := by simpa using e2
    exact q2 (fun g => e2 (by have := g.2.1; omega)) H (Ext.refl H)
  have e2 : v < ((ys.length : Nat) : Int) := by simpa using e2
  obtain ⟨vn, rfl⟩ := Int.eq_ofNat_of_zero_le e1
  have hv1 : vn < ys.length := by omega
  obtain ⟨own, hown, a1, ea1, g1⟩ := paired_at hy (List.getElem?_eq_getElem hv1)
  have hyv : ys[vn]? = some (.ref a1) := by rw [List.getElem?_eq_getElem hv1, ea1]
  have eown : tss.getD vn [] = own := by rw [List.getD_eq_getElem?_getD, hown]; rfl
  have eT : (((vn : Nat) : Int)).toNat = vn := Int.toNat_natCast vn
  have low := ll own (List.mem_of_getElem? hown)
  rw [eT] at q1
  have q2' : ∀ b : Prop, (¬ (0 ≤ p ∧ p ≤ ((own.length : Nat) : Int))) → ∀ H', Ext H H' → E (.ref T.f_InvalidPlane) none H' := fun _ hb => q2 fun g => hb (by
    have g3 := g.2.2
    rw [eT, eown] at g3
    exact g3)
  refine ⟨_, rfl, _, rfl, ta, ys, _, .ref a1, rfl, rfl, ha, atI_nat hyv, ?_⟩
  dsimp only [gName]
  refine ⟨_, rfl, _, _, rfl, rfl, _, rfl, ite2 (fun e3 => ?_) (fun e3 => ⟨_, rfl, iteT (q2' True (fun g => e3 (decide_eq_true g.1)) H (Ext.refl H))⟩)⟩
  have e3 : (0 : Int) ≤ p := of_decide_eq_true e3
  refine ⟨_, rfl, a1, _, rfl, .inr g1, ?_⟩
  rw [List.length_map]
  refine ⟨_, _, rfl, rfl, _, rfl, iteB (fun e4 => ?_) (fun e4 => ?_)⟩
  · have e4 : ¬ p ≤ ((own.length : Nat) : Int) := by simpa using e4
    exact q2' True (fun g => e4 g.2) H (Ext.refl H)
  have e4 : p ≤ ((own.length : Nat) : Int) := by simpa using e4
  obtain ⟨pn, rfl⟩ := Int.eq_ofNat_of_zero_le e3
  have hp1 : pn ≤ own.length := by omega
  have ok : okD tss ((vn : Nat) : Int) ((pn : Nat) : Int) := ⟨e1, by omega, e3, by rw [eT, eown]; exact e4⟩
  have q1 := q1 ok
  rw [show (((pn : Nat) : Int)).toNat = pn from Int.toNat_natCast pn] at q1
  unfold insD at q1
  rw [eown] at q1
  refine ⟨_, rfl, _, rfl, _, rfl, slA_of ha fun p1 H1 s1 h1 => ?_⟩
  rw [cutN] at h1
  refine ⟨_, rfl, _, rfl, _, rfl, slA_of (s1.tup g1) fun p2 H2 s2 h2 => ?_⟩
  rw [cutN] at h2
  refine ⟨_, rfl, by rw [sizeLine_eq]; simp, fun p3 hp3 => ?_⟩
  have x3 := ext_upd (o := .tup [V.int d]) hp3
  have k3 : SqT K (upd H2 p3 (.tup [V.int d])) p3 [V.int d] := SqT.of upd_same
  generalize upd H2 p3 (.tup [V.int d]) = H3 at *
  have s13 := (s1.trans s2).trans x3
  refine catA_of (x3.tup h2) k3 (by rw [List.length_take, List.length_map]; simp; omega) fun p4 H4 s4 h4 => ?_
  have s14 := s13.trans s4
  refine ⟨_, rfl, _, rfl, _, rfl, ?_⟩
  unfold tNoPart
  refine slA_of (s14.tup g1) fun p5 H5 s5 h5 => ?_
  rw [cutD] at h5
  refine catA_of (s5.tup h4) h5 (by rw [List.length_append, List.length_take, List.length_drop, List.length_map]; simp; omega) fun p6 H6 s6 h6 => ?_
  have s16 := (s14.trans s5).trans s6
  have e6 : List.take pn (own.map V.int) ++ [V.int d] ++ List.drop pn (own.map V.int) = (own.take pn ++ d :: own.drop pn).map V.int := by
    rw [List.map_append, List.map_cons, List.map_take, List.map_drop]
    simp
  rw [e6] at h6
  refine ⟨by rw [sizeLine_eq]; simp, fun p7 hp7 => ?_⟩
  have x7 := ext_upd (o := .tup [V.ref p6]) hp7
  have k7 : SqT K (upd H6 p7 (.tup [V.ref p6])) p7 [V.ref p6] := SqT.of upd_same
  generalize upd H6 p7 (.tup [V.ref p6]) = H7 at *
  have s17 := s16.trans x7
  have h17 := ((((((s2.trans x3).trans s4).trans s5).trans s6).trans x7)).tup h1
  refine catA_of h17 k7 (by rw [List.length_take]; simp; omega) fun p8 H8 s8 h8 => ?_
  have s18 := s17.trans s8
  have s68 := x7.trans s8
  refine ⟨_, rfl, _, rfl, _, _, rfl, rfl, _, rfl, ?_⟩
  refine slA_of (s18.tup ha) fun p9 H9 s9 h9 => ?_
  have e9 : cutV ys (some (((vn : Nat) : Int) + 1)) none = ys.drop (vn + 1) := cutD ys (vn + 1)
  rw [e9] at h9
  refine catA_of (s9.tup h8) h9 (by rw [List.length_append, List.length_take, List.length_drop]; simp; omega) fun p10 H10 s10 h10 => ?_
  rw [set_cut hv1] at h10
  have s69 := (s68.trans s9).trans s10
  exact q1 p10 H10 _ ((s18.trans s9).trans s10) h10 (paired_set ⟨p6, rfl, s69.tup h6⟩ vn (tui_up ((s18.trans s9).trans s10) hy))
def goodL (n : Nat) (es : List EgI) (tss : List (List Int)) (v p : Int) : Prop := okD tss v p ∧ goodP (n + 1) (es ++ [(v, ((n : Nat) : Int))]) (insD tss v.toNat p.toNat (2 * ((es.length : Nat) : Int)) ++ [[2 * ((es.length : Nat) : Int) + 1]])
def spWL (T : Top K mg) : Sp := fun vs H Q E => ∃ (a : Addr) (n : Nat) (es : List EgI) (tss : List (List Int)) (v p : Int), vs = [.ref a, .int v, .int p] ∧ PlAt T H a n es tss ∧ n ≤ 900 ∧ es.length ≤ 900 ∧ tss.length ≤ 900 ∧ (∀ l ∈ tss, l.length ≤ 900) ∧ Tg T H ∧
  (goodL n es tss v p → ∀ r H', Ext H H' → PlAt T H' r (n + 1) (es ++ [(v, ((n : Nat) : Int))]) (insD tss v.toNat p.toNat (2 * ((es.length : Nat) : Int)) ++ [[2 * ((es.length : Nat) : Int) + 1]]) → Q (.ref r) H') ∧ (¬ goodL n es tss v p → ∀ H', Ext H H' → E (.ref T.f_InvalidPlane) none H')
theorem ok_with_leaf (T : Top K mg) (B : Tb T base) : FnOk P w K mg base (L2N.CX P w) 6 T.f_with_leaf T.d_with_leaf ["plane", "vertex", "place"] (spWL T) := by
  refine T.F_with_leaf.okN sc_with_leaf (fun vs H Q E h => ?_) (fun cdv A outer s H vs Q E hr h => ?_)
  · obtain ⟨a, n, es, tss, v, p, rfl, _⟩ := h
    rfl
  obtain ⟨a, n, es, tss, v, p, rfl, ⟨dx, eb, tb, xs, ys, hp, he, hes, ht, hts⟩, ln, le, lt, ll, G, q1, q2⟩ := h
  refine ⟨_, (pss_cons (ps_set (i := 3) sc_with_leaf.nd rfl (by first | exact .inl rfl | exact .inr rfl) (pe_op op_mul pe_int (pe_callB call_len_seq (by rfl) T.m_len (by decide +kernel) (pa_cons (pe_fld (pv 0) rfl) pa_nil))))
      (pss_cons (ps_set (i := 4) sc_with_leaf.nd rfl (by first | exact .inl rfl | exact .inr rfl) (pe_call (ok_with_dart T) (hr.mono (by decide)) (by rfl) T.g_with_dart T.F_with_dart.kp T.b_with_dart .nil (L2N.passes_call (L2N.takes_of rfl rfl rfl rfl) (fun _ _ _ _ h => h)) (pa_cons (pe_fld (pv 0) rfl) (pa_cons (pv 1) (pa_cons (pv 2) (pa_cons (pv 3) pa_nil))))))
      (pss_one (ps_ret (pe_make T.mk_Plane (ok_Plane_init T B) (hr.mono (by decide)) (by rfl) T.g_Plane T.b_Plane_init .nil (L2N.passes_call (L2N.takes_of rfl rfl rfl rfl) (fun _ _ _ _ h => h)) (pa_cons (pe_op op_add (pe_fld (pv 0) rfl) pe_int) (pa_cons (pe_op op_catA (pe_fld (pv 0) rfl) (pe_tup (pa_cons (pe_tup (pa_cons (pv 1) (pa_cons (pe_fld (pv 0) rfl) pa_nil))) pa_nil))) (pa_cons (pe_op op_catA (pv 4) (pe_tup (pa_cons (pe_tup (pa_cons (pe_op op_add (pv 3) pe_int) pa_nil)) pa_nil))) pa_nil)))))))), ?_⟩
  have lx := hes.length
  have ly := hts.length
  refine ⟨_, rfl, a, T.C_Plane, dx, _, .ref eb, rfl, hp, T.cl_Plane, T.na_Plane_edges, rfl, eb, xs, rfl, .inr he, _, _, rfl, rfl, .inl ⟨by decide, by omega⟩, ?_⟩
  rw [lx]
  dsimp only [gName]
  refine ⟨_, rfl, a, T.C_Plane, dx, _, .ref tb, rfl, hp, T.cl_Plane, T.na_Plane_turns, rfl, _, rfl, _, rfl, _, rfl, tb, ys, tss, v, p, 2 * ((es.length : Nat) : Int), rfl, ht, hts, by omega, fun l m => Nat.le_trans (ll l m) (by decide), fun ok r H1 ys1 s1 h1 hy1 => ?_, fun nok H1 s1 => q2 (fun g => nok g.1) _ s1⟩
  dsimp only [gName]
  have hp1 := s1.keep _ _ hp (fun _ z => by cases z)
  refine ⟨_, rfl, a, T.C_Plane, dx, _, .int ((n : Nat) : Int), rfl, hp1, T.cl_Plane, T.na_Plane_count, rfl, _, _, rfl, rfl, ?_⟩
  refine ⟨_, rfl, a, T.C_Plane, dx, _, .ref eb, rfl, hp1, T.cl_Plane, T.na_Plane_edges, rfl, _, rfl, _, rfl, a, T.C_Plane, dx, _, .int ((n : Nat) : Int), rfl, hp1, T.cl_Plane, T.na_Plane_count, rfl, by rw [sizeLine_eq]; simp, fun g1 hg1 => ?_⟩
  have x1 := ext_upd (o := .tup [V.int v, V.int ((n : Nat) : Int)]) hg1
  have k1 : SqT K (upd H1 g1 (.tup [V.int v, V.int ((n : Nat) : Int)])) g1 [V.int v, V.int ((n : Nat) : Int)] := SqT.of upd_same
  generalize upd H1 g1 (.tup [V.int v, V.int ((n : Nat) : Int)]) = H2 at *
  refine ⟨by rw [sizeLine_eq]; simp, fun g2 hg2 => ?_⟩
  have x2 := ext_upd (o := .tup [V.ref g1]) hg2
  have k2 : SqT K (upd H2 g2 (.tup [V.ref g1])) g2 [V.ref g1] := SqT.of upd_same
  generalize upd H2 g2 (.tup [V.ref g1]) = H3 at *
  have s3 := (s1.trans x1).trans x2
  refine catA_of (s3.tup he) k2 (by rw [lx]; simp; omega) fun g3 H4 s4 h4 => ?_
  have s14 := s3.trans s4
  refine ⟨_, rfl, _, rfl, _, _, rfl, rfl, by rw [sizeLine_eq]; simp, fun g5 hg5 => ?_⟩
  have x5 := ext_upd (o := .tup [V.int (2 * ((es.length : Nat) : Int) + 1)]) hg5
  have k5 : SqT K (upd H4 g5 (.tup [V.int (2 * ((es.length : Nat) : Int) + 1)])) g5 [V.int (2 * ((es.length : Nat) : Int) + 1)] := SqT.of upd_same
  generalize upd H4 g5 (.tup [V.int (2 * ((es.length : Nat) : Int) + 1)]) = H5 at *
  refine ⟨by rw [sizeLine_eq]; simp, fun g6 hg6 => ?_⟩
  have x6 := ext_upd (o := .tup [V.ref g5]) hg6
  have k6 : SqT K (upd H5 g6 (.tup [V.ref g5])) g6 [V.ref g5] := SqT.of upd_same
  generalize upd H5 g6 (.tup [V.ref g5]) = H6 at *
  have s46 := x5.trans x6
  have ly1 := hy1.length
  have lins : (insD tss v.toNat p.toNat (2 * ((es.length : Nat) : Int))).length = tss.length := List.length_set
  refine catA_of (((((x1.trans x2).trans s4).trans s46)).tup h1) k6 (by rw [ly1, lins]; simp; omega) fun g7 H7 s7 h7 => ?_
  have s17 := (s14.trans s46).trans s7
  have s47 := s46.trans s7
  intro c dc hc hdc ndc
  have sC : Ext H7 (upd (upd H7 dc (HO.own c)) c (HO.ins T.C_Plane dc [])) := (ext_upd hdc).trans (ext_upd (by rw [upd_ne ndc.symm]; exact hc))
  have hes7 : Paired (PrI K H7) (xs ++ [V.ref g1]) (es ++ [(v, ((n : Nat) : Int))]) := paired_snoc (pri_up s17 hes) ⟨g1, rfl, ((x2.trans s4).trans s47).tup k1⟩
  have hts7 : Paired (TuI K H7) (ys1 ++ [V.ref g5]) (insD tss v.toNat p.toNat (2 * ((es.length : Nat) : Int)) ++ [[2 * ((es.length : Nat) : Int) + 1]]) := paired_snoc (tui_up ((((x1.trans x2).trans s4).trans s46).trans s7) hy1) ⟨g5, rfl, (x6.trans s7).tup k5⟩
  refine ⟨c, dc, g3, g7, _, _, es ++ [(v, ((n : Nat) : Int))], insD tss v.toNat p.toNat (2 * ((es.length : Nat) : Int)) ++ [[2 * ((es.length : Nat) : Int) + 1]], n + 1, H7, rfl, upd_same, hc, sC, .inr (s47.tup h4), hes7, .inr h7, hts7, by rw [List.length_append]; simp; omega, by rw [List.length_append, lins]; simp; omega, by omega, fun l m => ?_, G.ext s17, fun g H' s' pl => ⟨rfl, q1 ⟨ok, g⟩ c H' (s17.trans s') pl⟩, fun g H' s' => q2 (fun h => g h.2) _ (s17.trans s')⟩
  rcases List.mem_append.mp m with m | m
  · exact Nat.le_trans (insD_len ll l m) (by decide)
  · rw [List.mem_singleton.mp m]
    show 1 ≤ 1000
    decide
def goodD (n : Nat) (es : List EgI) (tss : List (List Int)) (v p v2 p2 : Int) : Prop := okD tss v p ∧ okD (insD tss v.toNat p.toNat (2 * ((es.length : Nat) : Int))) v2 p2 ∧ goodP n (es ++ [(v, v2)]) (insD (insD tss v.toNat p.toNat (2 * ((es.length : Nat) : Int))) v2.toNat p2.toNat (2 * ((es.length : Nat) : Int) + 1))
def spWE (T : Top K mg) : Sp := fun vs H Q E => ∃ (a : Addr) (n : Nat) (es : List EgI) (tss : List (List Int)) (v p v2 p2 : Int), vs = [.ref a, .int v, .int p, .int v2, .int p2] ∧ PlAt T H a n es tss ∧ n ≤ 900 ∧ es.length ≤ 900 ∧ tss.length ≤ 900 ∧ (∀ l ∈ tss, l.length ≤ 900) ∧ Tg T H ∧
  (goodD n es tss v p v2 p2 → ∀ r H', Ext H H' → PlAt T H' r n (es ++ [(v, v2)]) (insD (insD tss v.toNat p.toNat (2 * ((es.length : Nat) : Int))) v2.toNat p2.toNat (2 * ((es.length : Nat) : Int) + 1)) → Q (.ref r) H') ∧ (¬ goodD n es tss v p v2 p2 → ∀ H', Ext H H' → E (.ref T.f_InvalidPlane) none H')
theorem ok_with_edge (T : Top K mg) (B : Tb T base) : FnOk P w K mg base (L2N.CX P w) 6 T.f_with_edge T.d_with_edge ["plane", "first", "place", "second", "other"] (spWE T) := by
  refine T.F_with_edge.okN sc_with_edge (fun vs H Q E h => ?_) (fun cdv A outer s H vs Q E hr h => ?_)
  · obtain ⟨a, n, es, tss, v, p, v2, p2, rfl, _⟩ := h
    rfl
  obtain ⟨a, n, es, tss, v, p, v2, p2, rfl, ⟨dx, eb, tb, xs, ys, hp, he, hes, ht, hts⟩, ln, le, lt, ll, G, q1, q2⟩ := h
  refine ⟨_, (pss_cons (ps_set (i := 5) sc_with_edge.nd rfl (by first | exact .inl rfl | exact .inr rfl) (pe_op op_mul pe_int (pe_callB call_len_seq (by rfl) T.m_len (by decide +kernel) (pa_cons (pe_fld (pv 0) rfl) pa_nil))))
      (pss_cons (ps_set (i := 6) sc_with_edge.nd rfl (by first | exact .inl rfl | exact .inr rfl) (pe_call (ok_with_dart T) (hr.mono (by decide)) (by rfl) T.g_with_dart T.F_with_dart.kp T.b_with_dart .nil (L2N.passes_call (L2N.takes_of rfl rfl rfl rfl) (fun _ _ _ _ h => h)) (pa_cons (pe_fld (pv 0) rfl) (pa_cons (pv 1) (pa_cons (pv 2) (pa_cons (pv 5) pa_nil))))))
      (pss_cons (ps_set (i := 6) sc_with_edge.nd rfl (by first | exact .inl rfl | exact .inr rfl) (pe_call (ok_with_dart T) (hr.mono (by decide)) (by rfl) T.g_with_dart T.F_with_dart.kp T.b_with_dart .nil (L2N.passes_call (L2N.takes_of rfl rfl rfl rfl) (fun _ _ _ _ h => h)) (pa_cons (pv 6) (pa_cons (pv 3) (pa_cons (pv 4) (pa_cons (pe_op op_add (pv 5) pe_int) pa_nil))))))
      (pss_one (ps_ret (pe_make T.mk_Plane (ok_Plane_init T B) (hr.mono (by decide)) (by rfl) T.g_Plane T.b_Plane_init .nil (L2N.passes_call (L2N.takes_of rfl rfl rfl rfl) (fun _ _ _ _ h => h)) (pa_cons (pe_fld (pv 0) rfl) (pa_cons (pe_op op_catA (pe_fld (pv 0) rfl) (pe_tup (pa_cons (pe_tup (pa_cons (pv 1) (pa_cons (pv 3) pa_nil))) pa_nil))) (pa_cons (pv 6) pa_nil))))))))), ?_⟩
  have lx := hes.length
  have ly := hts.length
  refine ⟨_, rfl, a, T.C_Plane, dx, _, .ref eb, rfl, hp, T.cl_Plane, T.na_Plane_edges, rfl, eb, xs, rfl, .inr he, _, _, rfl, rfl, .inl ⟨by decide, by omega⟩, ?_⟩
  rw [lx]
  dsimp only [gName]
  refine ⟨_, rfl, a, T.C_Plane, dx, _, .ref tb, rfl, hp, T.cl_Plane, T.na_Plane_turns, rfl, _, rfl, _, rfl, _, rfl, tb, ys, tss, v, p, 2 * ((es.length : Nat) : Int), rfl, ht, hts, by omega, fun l m => Nat.le_trans (ll l m) (by decide), fun ok r H1 ys1 s1 h1 hy1 => ?_, fun nok H1 s1 => q2 (fun g => nok g.1) _ s1⟩
  dsimp only [gName]
  have lins : (insD tss v.toNat p.toNat (2 * ((es.length : Nat) : Int))).length = tss.length := List.length_set
  have ll1 := insD_len (v := v.toNat) (p := p.toNat) (d := 2 * ((es.length : Nat) : Int)) ll
  refine ⟨_, rfl, _, rfl, _, rfl, _, rfl, _, _, rfl, rfl, r, ys1, _, v2, p2, 2 * ((es.length : Nat) : Int) + 1, rfl, h1, hy1, by omega, fun l m => Nat.le_trans (ll1 l m) (by decide), fun ok2 r2 H2 ys2 s2 h2 hy2 => ?_, fun nok H2 s2 => q2 (fun g => nok g.2.1) _ (s1.trans s2)⟩
  dsimp only [gName]
  have s12 := s1.trans s2
  have hp2 := s12.keep _ _ hp (fun _ z => by cases z)
  have lins2 : (insD (insD tss v.toNat p.toNat (2 * ((es.length : Nat) : Int))) v2.toNat p2.toNat (2 * ((es.length : Nat) : Int) + 1)).length = tss.length := List.length_set.trans lins
  have ll2 := insD_len (v := v2.toNat) (p := p2.toNat) (d := 2 * ((es.length : Nat) : Int) + 1) ll1
  refine ⟨_, rfl, a, T.C_Plane, dx, _, .int ((n : Nat) : Int), rfl, hp2, T.cl_Plane, T.na_Plane_count, rfl, ?_⟩
  refine ⟨_, rfl, a, T.C_Plane, dx, _, .ref eb, rfl, hp2, T.cl_Plane, T.na_Plane_edges, rfl, _, rfl, _, rfl, by rw [sizeLine_eq]; simp, fun g1 hg1 => ?_⟩
  have x1 := ext_upd (o := .tup [V.int v, V.int v2]) hg1
  have k1 : SqT K (upd H2 g1 (.tup [V.int v, V.int v2])) g1 [V.int v, V.int v2] := SqT.of upd_same
  generalize upd H2 g1 (.tup [V.int v, V.int v2]) = H3 at *
  refine ⟨by rw [sizeLine_eq]; simp, fun g2 hg2 => ?_⟩
  have x2 := ext_upd (o := .tup [V.ref g1]) hg2
  have k2 : SqT K (upd H3 g2 (.tup [V.ref g1])) g2 [V.ref g1] := SqT.of upd_same
  generalize upd H3 g2 (.tup [V.ref g1]) = H4 at *
  have s14 := (s12.trans x1).trans x2
  refine catA_of (s14.tup he) k2 (by rw [lx]; simp; omega) fun g3 H5 s5 h5 => ?_
  have s15 := s14.trans s5
  refine ⟨_, rfl, ?_⟩
  intro c dc hc hdc ndc
  have sC : Ext H5 (upd (upd H5 dc (HO.own c)) c (HO.ins T.C_Plane dc [])) := (ext_upd hdc).trans (ext_upd (by rw [upd_ne ndc.symm]; exact hc))
  have hes5 : Paired (PrI K H5) (xs ++ [V.ref g1]) (es ++ [(v, v2)]) := paired_snoc (pri_up s15 hes) ⟨g1, rfl, (x2.trans s5).tup k1⟩
  have s25 := (x1.trans x2).trans s5
  refine ⟨c, dc, g3, r2, _, _, es ++ [(v, v2)], _, n, H5, rfl, upd_same, hc, sC, .inr h5, hes5, .inr (s25.tup h2), tui_up s25 hy2, by rw [List.length_append]; simp; omega, by omega, by omega, fun l m => Nat.le_trans (ll2 l m) (by decide), G.ext s15, fun g H' s' pl => ⟨rfl, q1 ⟨ok, ok2, g⟩ c H' (s15.trans s') pl⟩, fun g H' s' => q2 (fun h => g h.2.2) _ (s15.trans s')⟩
/-! ### from plane graphs to what is asked of them -/
/-- all but Euler's formula -/
structure Pre (es : List (Nat × Nat)) (ts : List (List Nat)) : Prop where
  perm : ts.flatten.Perm (List.range (2 * es.length))
  org : ∀ (k u v : Nat), es[k]? = some (u, v) → (∃ l, ts[u]? = some l ∧ 2 * k ∈ l) ∧ ∃ l, ts[v]? = some l ∧ 2 * k + 1 ∈ l
  n1 : 1 ≤ ts.length
  conn : ∀ S : Nat → Prop, S 0 → (∀ e ∈ es, S e.1 ↔ S e.2) → ∀ w < ts.length, S w
theorem pre_of {es : List (Nat × Nat)} {ts : List (List Nat)} (h : Pg es ts) : Pre es ts := ⟨h.perm, h.org, h.n1, h.conn⟩
def iT (ts : List (List Nat)) : List (List Int) := ts.map fun l => l.map fun d => ((d : Nat) : Int)
theorem toN_iT (ts : List (List Nat)) : toN (iT ts) = ts := by
  unfold toN iT
  rw [List.map_map]
  refine (List.map_congr_left fun l _ => ?_).trans (List.map_id ts)
  show List.map Int.toNat (l.map fun d => ((d : Nat) : Int)) = l
  rw [List.map_map]
  exact (List.map_congr_left fun d _ => Int.toNat_natCast d).trans (List.map_id l)
theorem nE_cE (es : List (Nat × Nat)) : (es.map cE).map nE = es := by
  rw [List.map_map]
  refine (List.map_congr_left fun e _ => ?_).trans (List.map_id es)
  exact Prod.ext (Int.toNat_natCast e.1) (Int.toNat_natCast e.2)
theorem Pre.at {es : List (Nat × Nat)} {ts : List (List Nat)} (h : Pre es ts) {d : Nat} (hd : d < 2 * es.length) : ∃ l, ts[KP.org es d]? = some l ∧ d ∈ l := by
  have hk : d / 2 < es.length := by omega
  have e := List.getElem?_eq_getElem hk
  obtain ⟨h1, h2⟩ := h.org (d / 2) es[d / 2].1 es[d / 2].2 e
  unfold KP.org
  rw [List.getD_eq_getElem?_getD, e]
  by_cases p : d % 2 = 0
  · rw [if_pos p]
    have q : 2 * (d / 2) = d := by omega
    rw [q] at h1
    exact h1
  · rw [if_neg p]
    have q : 2 * (d / 2) + 1 = d := by omega
    rw [q] at h2
    exact h2
theorem Pre.good {es : List (Nat × Nat)} {ts : List (List Nat)} (h : Pre es ts) (hn : ts.length ≤ 100) : goodP ts.length (es.map cE) (iT ts) ↔ es.length ≤ 160 ∧ ∀ fs, FcOf es.length ts fs → fs.length + ts.length = 2 + es.length := by
  have lM : (es.map cE).length = es.length := List.length_map _
  unfold goodP
  rw [toN_iT, nE_cE, lM]
  refine ⟨fun g => ⟨by have := g.1.2.2.1; rwa [lM] at this, g.2.2.2⟩, fun g => ⟨⟨?_, ?_, by rw [lM]; exact g.1, fun e m => ?_⟩, ⟨List.length_map _, fun w l hw => ?_⟩, h.conn, g.2⟩⟩
  · have := h.n1
    omega
  · omega
  · obtain ⟨f, mf, rfl⟩ := List.mem_map.mp m
    obtain ⟨k, hk⟩ := List.getElem?_of_mem mf
    obtain ⟨⟨l1, h1, _⟩, l2, h2, _⟩ := h.org k f.1 f.2 hk
    have := (List.getElem?_eq_some_iff.mp h1).1
    have := (List.getElem?_eq_some_iff.mp h2).1
    refine ⟨?_, ?_, ?_, ?_⟩ <;> (unfold cE; dsimp only; omega)
  · unfold iT at hw
    rw [List.getElem?_map] at hw
    obtain ⟨own, ho, rfl⟩ := Option.map_eq_some_iff.mp hw
    refine List.Perm.map _ ?_
    have nf := h.perm.nodup_iff.mpr List.nodup_range
    refine (List.perm_ext_iff_of_nodup (PG.own_nodup nf (List.mem_of_getElem? ho)) (List.Pairwise.filter _ List.nodup_range)).mpr fun d => ?_
    rw [List.mem_filter, List.mem_range, decide_eq_true_iff]
    constructor
    · intro md
      have hd : d < 2 * es.length := List.mem_range.mp (h.perm.mem_iff.mp (List.mem_flatten.mpr ⟨own, List.mem_of_getElem? ho, md⟩))
      obtain ⟨l, h1, h2⟩ := h.at hd
      exact ⟨hd, own_uniq nf h1 ho h2 md⟩
    · rintro ⟨hd, e⟩
      obtain ⟨l, h1, h2⟩ := h.at hd
      rw [e, ho] at h1
      obtain rfl := Option.some.inj h1
      exact h2
theorem good_pg {es : List (Nat × Nat)} {ts : List (List Nat)} (h : Pg es ts) (hn : ts.length ≤ 100) (hm : es.length ≤ 160) : goodP ts.length (es.map cE) (iT ts) := ((pre_of h).good hn).mpr ⟨hm, fun _ k => h.faces k⟩
theorem set_perm {ts : List (List Nat)} {u x : Nat} {A B : List Nat} (hu : ts[u]? = some (A ++ B)) : (ts.set u (A ++ x :: B)).flatten.Perm (x :: ts.flatten) := by
  obtain ⟨C, D, rfl, _, hs⟩ := PG.split_at hu
  rw [hs]
  simp only [List.flatten_append, List.flatten_cons]
  have e1 : C.flatten ++ (A ++ x :: B ++ D.flatten) = (C.flatten ++ A) ++ x :: (B ++ D.flatten) := by simp
  have e2 : C.flatten ++ (A ++ B ++ D.flatten) = (C.flatten ++ A) ++ (B ++ D.flatten) := by simp
  rw [e1, e2]
  exact List.perm_middle
theorem set_keepA {ts : List (List Nat)} {u : Nat} {l r : List Nat} {x : Nat} (h : ts[u]? = some (l ++ r)) (w d : Nat) (hd : ∃ o, ts[w]? = some o ∧ d ∈ o) : ∃ o, (ts.set u (l ++ x :: r))[w]? = some o ∧ d ∈ o := by
  obtain ⟨o, h1, h2⟩ := hd
  rw [List.getElem?_set]
  by_cases e : u = w
  · subst e
    rw [h] at h1
    obtain rfl := Option.some.inj h1
    have := (List.getElem?_eq_some_iff.mp h).1
    rw [if_pos rfl, if_pos this]
    exact ⟨_, rfl, by simp at h2 ⊢; rcases h2 with z | z <;> simp [z]⟩
  · rw [if_neg e]
    exact ⟨o, h1, h2⟩
theorem set_new {ts : List (List Nat)} {u : Nat} {l r : List Nat} {x : Nat} (h : ts[u]? = some (l ++ r)) : ∃ o, (ts.set u (l ++ x :: r))[u]? = some o ∧ x ∈ o := by
  have ul := (List.getElem?_eq_some_iff.mp h).1
  exact ⟨_, by rw [List.getElem?_set, if_pos rfl, if_pos ul], by simp⟩
theorem Pre.edge {es : List (Nat × Nat)} {ts : List (List Nat)} (h : Pre es ts) {u v : Nat} {A B A' B' : List Nat} (hu : ts[u]? = some (A ++ B)) (hv : (ts.set u (A ++ 2 * es.length :: B))[v]? = some (A' ++ B')) : Pre (es ++ [(u, v)]) ((ts.set u (A ++ 2 * es.length :: B)).set v (A' ++ (2 * es.length + 1) :: B')) := by
  have le : (es ++ [(u, v)]).length = es.length + 1 := by rw [List.length_append]; rfl
  have n1 := h.n1
  refine ⟨?_, PG.org_keep h.org (fun w d hd => set_keepA hv w d (set_keepA hu w d hd)) (set_keepA hv u _ (set_new hu)) (set_new hv), by rw [List.length_set, List.length_set]; exact n1, fun S h0 hS w hw => ?_⟩
  · rw [le]
    exact ((set_perm hv).trans (List.Perm.cons _ ((set_perm hu).trans (List.Perm.cons _ h.perm)))).trans (PG.range_ba _)
  · rw [List.length_set, List.length_set] at hw
    exact h.conn S h0 (fun e m => hS e (List.mem_append_left _ m)) w hw
theorem pg_rot {es : List (Nat × Nat)} {ts : List (List Nat)} (h : Pg es ts) {u : Nat} {l r : List Nat} (hu : ts[u]? = some (l ++ r)) : Pg es (ts.set u (r ++ l)) := by
  have ul := (List.getElem?_eq_some_iff.mp hu).1
  have nf := h.perm.nodup_iff.mpr List.nodup_range
  have keep : ∀ (w d : Nat), (∃ o, ts[w]? = some o ∧ d ∈ o) → ∃ o, (ts.set u (r ++ l))[w]? = some o ∧ d ∈ o := fun w d ⟨o, h1, h2⟩ => by
    rw [List.getElem?_set]
    by_cases e : u = w
    · subst e
      rw [hu] at h1
      obtain rfl := Option.some.inj h1
      rw [if_pos rfl, if_pos ul]
      exact ⟨_, rfl, by simp at h2 ⊢; exact h2.symm⟩
    · rw [if_neg e]
      exact ⟨o, h1, h2⟩
  have p' : (ts.set u (r ++ l)).flatten.Perm (List.range (2 * es.length)) := by
    refine List.Perm.trans ?_ h.perm
    obtain ⟨C, D, rfl, _, hs⟩ := PG.split_at hu
    rw [hs]
    simp only [List.flatten_append, List.flatten_cons]
    exact (List.perm_append_comm.append_right _).append_left _
  have n1 := h.n1
  refine ⟨p', fun k a b e => ?_, by rw [List.length_set]; exact n1, fun S h0 hS w hw => ?_, fun ne => ?_, fun z => ?_⟩
  · obtain ⟨h1, h2⟩ := h.org k a b e
    exact ⟨keep _ _ h1, keep _ _ h2⟩
  · rw [List.length_set] at hw
    exact h.conn S h0 hS w hw
  · obtain ⟨cs, hd, hc⟩ := h.euler ne
    refine ⟨cs, hd.congr fun d md => ?_, by rw [List.length_set]; exact hc⟩
    have hx := PG.xor1_lt (List.mem_range.mp md)
    refine (PG.fol_det p' List.nodup_range (g := fol ts) (fun own mo no => ?_) _ (List.mem_range.mpr hx)).symm
    rcases List.mem_or_eq_of_mem_set mo with m | m
    · exact PG.fol_cyc nf m no
    · rw [m] at no ⊢
      exact (PG.fol_cyc nf (List.mem_of_getElem? hu) (fun z => no (by
        obtain ⟨z1, z2⟩ := List.append_eq_nil_iff.mp z
        rw [z1, z2]
        rfl))).rot
  · have := h.nil z
    subst this
    have u0 : u = 0 := by
      have : u < 1 := ul
      omega
    subst u0
    have e : ([] : List Nat) = l ++ r := Option.some.inj hu
    obtain ⟨z1, z2⟩ := List.append_eq_nil_iff.mp e.symm
    rw [z1, z2]
    rfl
theorem pg_ne {es : List (Nat × Nat)} {ts : List (List Nat)} (h : Pg es ts) (ne : es ≠ []) {w : Nat} (hw : ts[w]? = some []) : False := by
  have wl := (List.getElem?_eq_some_iff.mp hw).1
  have key : ∀ e ∈ es, e.1 ≠ w ∧ e.2 ≠ w := fun e m => by
    obtain ⟨k, hk⟩ := List.getElem?_of_mem m
    obtain ⟨⟨l1, h1, m1⟩, l2, h2, m2⟩ := h.org k e.1 e.2 hk
    refine ⟨fun z => ?_, fun z => ?_⟩
    · rw [z, hw] at h1
      obtain rfl := Option.some.inj h1
      cases m1
    · rw [z, hw] at h2
      obtain rfl := Option.some.inj h2
      cases m2
  by_cases w0 : w = 0
  · subst w0
    have hS := h.conn (fun x => x = 0) rfl fun e m => ⟨fun z => absurd z (key e m).1, fun z => absurd z (key e m).2⟩
    obtain ⟨e, l, rfl⟩ := List.exists_cons_of_ne_nil ne
    obtain ⟨⟨l1, h1, _⟩, _⟩ := h.org 0 e.1 e.2 rfl
    exact (key e List.mem_cons_self).1 (hS e.1 (List.getElem?_eq_some_iff.mp h1).1)
  · exact h.conn (fun x => x ≠ w) (fun z => w0 z.symm) (fun e m => ⟨fun _ => (key e m).2, fun _ => (key e m).1⟩) w wl rfl
/-- a leaf in any place -/
theorem leafA {es : List (Nat × Nat)} {ts : List (List Nat)} (h : Pg es ts) {u : Nat} {A B : List Nat} (hu : ts[u]? = some (A ++ B)) : Pg (es ++ [(u, ts.length)]) (ts.set u (A ++ 2 * es.length :: B) ++ [[2 * es.length + 1]]) := by
  have ul := (List.getElem?_eq_some_iff.mp hu).1
  by_cases e : es = []
  · have := h.nil e
    subst this
    have u0 : u = 0 := by
      have : u < 1 := ul
      omega
    subst u0
    have e2 : ([] : List Nat) = A ++ B := Option.some.inj hu
    obtain ⟨rfl, rfl⟩ := List.append_eq_nil_iff.mp e2.symm
    rw [e]
    exact PG.Pg.leaf0
  cases B with
  | cons y r => exact h.leaf e hu
  | nil =>
    rw [List.append_nil] at hu
    cases A with
    | nil => exact (pg_ne h e hu).elim
    | cons y r =>
      have g := h.leaf e (l := []) (y := y) (r := r) hu
      have g1 : (ts.set u ([] ++ 2 * es.length :: y :: r) ++ [[2 * es.length + 1]])[u]? = some ([2 * es.length] ++ (y :: r)) := by
        rw [List.getElem?_append_left (by rw [List.length_set]; exact ul), List.getElem?_set, if_pos rfl, if_pos ul]
        rfl
      have g2 := pg_rot g g1
      rw [List.set_append_left _ _ (by rw [List.length_set]; exact ul), List.set_set] at g2
      exact g2
/-! ### loops -/
theorem pg_loops : ∀ k : Nat, Pg (List.replicate k (0, 0)) [List.range (2 * k)]
  | 0 => PG.Pg.zero
  | 1 => PG.Pg.loop0
  | k + 2 => by
    have h := pg_loops (k + 1)
    have le : (List.replicate (k + 1) ((0, 0) : Nat × Nat)).length = k + 1 := List.length_replicate
    have ne : List.replicate (k + 1) ((0, 0) : Nat × Nat) ≠ [] := fun z => by simp at z
    obtain ⟨cs, hd, _⟩ := h.euler ne
    have m0 : 0 ∈ List.range (2 * (List.replicate (k + 1) ((0, 0) : Nat × Nat)).length) := List.mem_range.mpr (by rw [le]; omega)
    obtain ⟨c, mc, m⟩ := hd.mem.mpr m0
    have er : List.range (2 * (k + 1)) = 0 :: (List.range (2 * k + 1)).map Nat.succ := by
      rw [show 2 * (k + 1) = (2 * k + 1) + 1 by omega, List.range_succ_eq_map]
    have g := h.edge (u := 0) (v := 0) (y := 0) (z := 0) (l := []) (r := (List.range (2 * k + 1)).map Nat.succ) (l' := [2 * (k + 1)]) (r' := (List.range (2 * k + 1)).map Nat.succ) (by rw [er]; rfl) (by rw [le]; rfl) (by rw [le]; omega) hd mc m m
    rw [le] at g
    have g1 := pg_rot g (u := 0) (l := [2 * (k + 1), 2 * (k + 1) + 1]) (r := 0 :: (List.range (2 * k + 1)).map Nat.succ) rfl
    have e1 : List.replicate (k + 1) ((0, 0) : Nat × Nat) ++ [(0, 0)] = List.replicate (k + 2) (0, 0) := List.replicate_succ'.symm
    have e2 : [List.range (2 * (k + 2))] = (([List.range (2 * (k + 1))].set 0 ([] ++ 2 * (k + 1) :: 0 :: (List.range (2 * k + 1)).map Nat.succ)).set 0 ([2 * (k + 1)] ++ (2 * (k + 1) + 1) :: 0 :: (List.range (2 * k + 1)).map Nat.succ)).set 0 (0 :: (List.range (2 * k + 1)).map Nat.succ ++ [2 * (k + 1), 2 * (k + 1) + 1]) := by
      show [List.range (2 * (k + 2))] = [0 :: (List.range (2 * k + 1)).map Nat.succ ++ [2 * (k + 1), 2 * (k + 1) + 1]]
      rw [← er, show 2 * (k + 2) = 2 * (k + 1) + 1 + 1 by omega, List.range_succ, List.range_succ]
      simp
    rw [e1] at g1
    rw [e2]
    exact g1
/-! ### a path -/
def tsP (k : Nat) : List (List Nat) := (List.range (k + 1)).map fun w => (if w = 0 then [] else [2 * w - 1]) ++ (if w < k then [2 * w] else [])
def esP (k : Nat) : List (Nat × Nat) := (List.range k).map fun i => (i, i + 1)
theorem pg_path : ∀ k : Nat, Pg (esP k) (tsP k)
  | 0 => PG.Pg.zero
  | k + 1 => by
    have h := pg_path k
    have le : (esP k).length = k := by unfold esP; rw [List.length_map, List.length_range]
    have lt : (tsP k).length = k + 1 := by unfold tsP; rw [List.length_map, List.length_range]
    have hu : (tsP k)[k]? = some ((if k = 0 then [] else [2 * k - 1]) ++ []) := by
      unfold tsP
      rw [List.getElem?_map, List.getElem?_range (by omega)]
      show some ((if k = 0 then [] else [2 * k - 1]) ++ (if k < k then [2 * k] else [])) = _
      rw [if_neg (Nat.lt_irrefl k)]
    have g := leafA h hu
    rw [le, lt] at g
    have e1 : esP (k + 1) = esP k ++ [(k, k + 1)] := by
      unfold esP
      rw [List.range_succ, List.map_append]
      rfl
    have e2 : tsP (k + 1) = (tsP k).set k ((if k = 0 then [] else [2 * k - 1]) ++ 2 * k :: []) ++ [[2 * k + 1]] := by
      refine List.ext_getElem? fun i => ?_
      by_cases h1 : i < k + 1
      · rw [List.getElem?_append_left (by rw [List.length_set, lt]; exact h1), List.getElem?_set]
        unfold tsP
        rw [List.getElem?_map, List.getElem?_range (by omega), List.getElem?_map, List.getElem?_range h1]
        by_cases h2 : k = i
        · subst h2
          rw [if_pos rfl, if_pos (by rw [List.length_map, List.length_range]; exact h1)]
          show some (_ ++ (if k < k + 1 then [2 * k] else [])) = _
          rw [if_pos (Nat.lt_succ_self k)]
        · rw [if_neg h2]
          show some (_ ++ (if i < k + 1 then [2 * i] else [])) = some (_ ++ (if i < k then [2 * i] else []))
          rw [if_pos h1, if_pos (show i < k by omega)]
      · rw [List.getElem?_append_right (by rw [List.length_set, lt]; omega), List.length_set, lt]
        unfold tsP
        rw [List.getElem?_map]
        by_cases h2 : i = k + 1
        · subst h2
          rw [List.getElem?_range (by omega), Nat.sub_self]
          show some ((if k + 1 = 0 then [] else [2 * (k + 1) - 1]) ++ (if k + 1 < k + 1 then [2 * (k + 1)] else [])) = some [2 * k + 1]
          rw [if_neg (by omega), if_neg (by omega)]
          rfl
        · rw [List.getElem?_eq_none (by rw [List.length_range]; omega), List.getElem?_eq_none (by simp; omega)]
          rfl
    rw [e1, e2]
    exact g
theorem dpAll_of {α : Type} {K : PySem.W.Frag} {H : Hp} {f : α → PyData} {R : V → α → Prop} (hR : ∀ v x, R v x → Dp K H v (f x)) : ∀ {vs : List V} {xs : List α}, Paired R vs xs → DpAll K H vs (xs.map f)
  | _, _, .nil => .nil
  | _, _, .cons h t => .cons (hR _ _ h) (dpAll_of hR t)
/-! ### the law's own way to put a dart in, and to compare -/
def spPut (K : PySem.W.Frag) : Sp := fun vs H Q _ => ∃ (l : Addr) (uys : List V) (ts : List (List Nat)) (v d : Nat) (A B : List Nat), vs = [.ref l, .int ((v : Nat) : Int), .int ((A.length : Nat) : Int), .int ((d : Nat) : Int)] ∧ H l = some (.lst uys) ∧ Paired (TuN K H) uys ts ∧ ts[v]? = some (A ++ B) ∧ ts.length ≤ 1000 ∧ A.length + B.length ≤ 1000 ∧
  ∀ r H' uys', Ext H H' → H r = none → H' r = some (.lst uys') → Paired (TuN K H') uys' (ts.set v (A ++ d :: B)) → Q (.ref r) H'
theorem ok_law_put (T : Top K mg) : FnOk P w K mg base CX0 1 T.f_law_put T.d_law_put ["turns", "vertex", "place", "dart"] (spPut K) := by
  refine T.F_law_put.ok sc_law_put (fun vs H Q E h => ?_) (fun cdv A outer s H vs Q E hr h => ?_)
  · obtain ⟨l, uys, ts, v, d, A, B, rfl, _⟩ := h
    rfl
  obtain ⟨l, uys, ts, v, d, A1, B1, rfl, hl, hy, hv, lt, lo, q⟩ := h
  refine ⟨_, (pss_cons (ps_set (i := 4) sc_law_put.nd rfl (by first | exact .inl rfl | exact .inr rfl) (pe_ix ix_list (pv 0) (pv 1) (fun _ _ => rfl)))
      (pss_one (ps_ret (pe_op op_cat (pe_op op_cat (pe_slice sl_list (pv 0) po_none (po_some (pv 1))) (pe_lst (pa_cons (pe_op op_catA (pe_op op_catA (pe_slice sl_tupA (pv 4) po_none (po_some (pv 2))) (pe_tup (pa_cons (pv 3) pa_nil))) (pe_slice sl_tupA (pv 4) (po_some (pv 2)) po_none)) pa_nil))) (pe_slice sl_list (pv 0) (po_some (pe_op op_add (pv 1) pe_int)) po_none))))), ?_⟩
  have ly := hy.length
  have hv1 : v < uys.length := by rw [ly]; exact (List.getElem?_eq_some_iff.mp hv).1
  obtain ⟨own, hown, a1, ea1, g1⟩ := paired_at hy (List.getElem?_eq_getElem hv1)
  rw [hv] at hown
  obtain rfl := Option.some.inj hown
  have hyv : uys[v]? = some (.ref a1) := by rw [List.getElem?_eq_getElem hv1, ea1]
  refine ⟨_, rfl, _, rfl, l, uys, _, .ref a1, rfl, rfl, SqL.of hl, atI_nat hyv, ?_⟩
  dsimp only [gName]
  refine ⟨_, rfl, _, rfl, _, rfl, l, uys, rfl, SqL.of hl, fun p1 hp1 => ?_⟩
  rw [cutN]
  have x1 := ext_upd (o := .lst (uys.take v)) hp1
  have k1 : upd H p1 (.lst (uys.take v)) p1 = some (.lst (uys.take v)) := upd_same
  generalize upd H p1 (.lst (uys.take v)) = H1 at *
  refine ⟨_, rfl, _, rfl, _, rfl, slA_of (x1.tup g1) fun p2 H2 s2 h2 => ?_⟩
  rw [cutN, natV_app, List.take_left' (natV_len A1)] at h2
  refine ⟨_, rfl, by rw [sizeLine_eq]; simp, fun p3 hp3 => ?_⟩
  have x3 := ext_upd (o := .tup [V.int ((d : Nat) : Int)]) hp3
  have k3 : SqT K (upd H2 p3 (.tup [V.int ((d : Nat) : Int)])) p3 [V.int ((d : Nat) : Int)] := SqT.of upd_same
  generalize upd H2 p3 (.tup [V.int ((d : Nat) : Int)]) = H3 at *
  have s13 := (x1.trans s2).trans x3
  refine catA_of (x3.tup h2) k3 (by rw [natV_len]; simp; omega) fun p4 H4 s4 h4 => ?_
  have s14 := s13.trans s4
  refine ⟨_, rfl, _, rfl, _, rfl, ?_⟩
  unfold tNoPart
  refine slA_of (s14.tup g1) fun p5 H5 s5 h5 => ?_
  rw [cutD, natV_app, List.drop_left' (natV_len A1)] at h5
  refine catA_of (s5.tup h4) h5 (by rw [List.length_append, natV_len, natV_len]; simp; omega) fun p6 H6 s6 h6 => ?_
  have s16 := (s14.trans s5).trans s6
  have e6 : natV A1 ++ [V.int ((d : Nat) : Int)] ++ natV B1 = natV (A1 ++ d :: B1) := by
    rw [show [V.int ((d : Nat) : Int)] = natV [d] from rfl, ← natV_app, ← natV_app]
    simp
  rw [e6] at h6
  refine ⟨by rw [sizeLine_eq]; simp, fun p7 hp7 => ?_⟩
  have x7 := ext_upd (o := .lst [V.ref p6]) hp7
  have k7 : upd H6 p7 (.lst [V.ref p6]) p7 = some (.lst [V.ref p6]) := upd_same
  generalize upd H6 p7 (.lst [V.ref p6]) = H7 at *
  have s17 := s16.trans x7
  have k17 := (((((s2.trans x3).trans s4).trans s5).trans s6).trans x7).lst k1
  refine ⟨p1, p7, _, _, rfl, rfl, k17, k7, sl_of (by rw [List.length_take]; simp; omega), fun p8 hp8 => ?_⟩
  have x8 := ext_upd (o := .lst (uys.take v ++ [V.ref p6])) hp8
  have k8 : upd H7 p8 (.lst (uys.take v ++ [V.ref p6])) p8 = some (.lst (uys.take v ++ [V.ref p6])) := upd_same
  generalize upd H7 p8 (.lst (uys.take v ++ [V.ref p6])) = H8 at *
  have s18 := s17.trans x8
  refine ⟨_, rfl, _, rfl, _, _, rfl, rfl, _, rfl, ?_⟩
  refine ⟨l, uys, rfl, SqL.of (s18.lst hl), fun p9 hp9 => ?_⟩
  have e9 : cutV uys (some (((v : Nat) : Int) + 1)) none = uys.drop (v + 1) := cutD uys (v + 1)
  show ∃ _, _
  rw [e9]
  have x9 := ext_upd (o := .lst (uys.drop (v + 1))) hp9
  have k9 : upd H8 p9 (.lst (uys.drop (v + 1))) p9 = some (.lst (uys.drop (v + 1))) := upd_same
  generalize upd H8 p9 (.lst (uys.drop (v + 1))) = H9 at *
  have s19 := s18.trans x9
  refine ⟨p8, p9, _, _, rfl, rfl, x9.lst k8, k9, sl_of (by rw [List.length_append, List.length_take, List.length_drop]; simp; omega), fun p10 hp10 => ?_⟩
  rw [set_cut hv1]
  have x10 := ext_upd (o := .lst (uys.set v (.ref p6))) hp10
  exact q p10 _ _ (s19.trans x10) (s19.free hp10) upd_same (paired_set ⟨p6, rfl, (((x7.trans x8).trans x9).trans x10).tup h6⟩ v (tun_up (s19.trans x10) hy))
def pairD (e : EgI) : PyData := .tuple [.int e.1, .int e.2]
def turnD (l : List Int) : PyData := .tuple (intsD l)
theorem pri_dp {H : Hp} {v : V} {e : EgI} (h : PrI K H v e) : Dp K H v (pairD e) := by
  obtain ⟨a, rfl, g⟩ := h
  exact .tup g (.cons (.int _) (.cons (.int _) .nil))
theorem tui_dp {H : Hp} {v : V} {l : List Int} (h : TuI K H v l) : Dp K H v (turnD l) := by
  obtain ⟨a, rfl, g⟩ := h
  exact .tup g (ints_dp l)
def spSame (T : Top K mg) : Sp := fun vs H Q _ => ∃ (a el ul : Addr) (n : Nat) (es : List EgI) (tss : List (List Int)) (exs uys : List V), vs = [.ref a, .int ((n : Nat) : Int), .ref el, .ref ul] ∧ PlAt T H a n es tss ∧ H el = some (.lst exs) ∧ Paired (PrI K H) exs es ∧ H ul = some (.lst uys) ∧ Paired (TuI K H) uys tss ∧ es.length ≤ 1000 ∧ tss.length ≤ 1000 ∧ ∀ H', Ext H H' → Q (.bl true) H'
theorem ok_law_same (T : Top K mg) : FnOk P w K mg base CX0 1 T.f_law_same T.d_law_same ["plane", "count", "edges", "turns"] (spSame T) := by
  refine T.F_law_same.ok sc_law_same (fun vs H Q E h => ?_) (fun cdv A outer s H vs Q E hr h => ?_)
  · obtain ⟨a, el, ul, n, es, tss, exs, uys, rfl, _⟩ := h
    rfl
  obtain ⟨a, el, ul, n, es, tss, exs, uys, rfl, ⟨dx, eb, tb, xs, ys, hp, he, hes, ht, hts⟩, hel, hx, hul, hy, le, lt, q⟩ := h
  refine ⟨_, (pss_one (ps_ret (pe_and (pe_cmpR op_eq (pe_fld (pv 0) rfl) (pv 1) (nomark _)) (pe_and (pe_cmpR (op_eqD hr.units) (pe_fld (pv 0) rfl) (pe_callTy call_tuple_of (by rfl) T.m_tuple (by decide +kernel) (pa_cons (pv 2) pa_nil)) (nomark _)) (pe_one (pe_cmpR (op_eqD hr.units) (pe_fld (pv 0) rfl) (pe_callTy call_tuple_of (by rfl) T.m_tuple (by decide +kernel) (pa_cons (pv 3) pa_nil)) (nomark _))))))), ?_⟩
  refine ⟨_, rfl, a, T.C_Plane, dx, _, .int ((n : Nat) : Int), rfl, hp, T.cl_Plane, T.na_Plane_count, rfl, _, rfl, rfl, ?_⟩
  have gE : Gd 5 (.tuple (es.map pairD)) := gd_tup fun d m => by
    obtain ⟨e, _, rfl⟩ := List.mem_map.mp m
    exact gd_intsT [e.1, e.2]
  have gT : Gd 5 (.tuple (tss.map turnD)) := gd_tup fun d m => by
    obtain ⟨e, _, rfl⟩ := List.mem_map.mp m
    exact gd_intsT e
  refine ⟨_, rfl, iteB (fun _ => ?_) (fun c => by simp at c)⟩
  refine ⟨_, rfl, a, T.C_Plane, dx, _, .ref eb, rfl, hp, T.cl_Plane, T.na_Plane_edges, rfl, _, rfl, el, exs, rfl, .inl ⟨SqL.of hel, fun g1 hg1 => ?_⟩⟩
  have x1 := ext_upd (o := .tup exs) hg1
  have k1 : SqT K (upd H g1 (.tup exs)) g1 exs := SqT.of upd_same
  generalize upd H g1 (.tup exs) = H1 at *
  refine ⟨.tuple (es.map pairD), .tuple (es.map pairD), .tup (x1.tup he) (dpAll_of (f := pairD) (fun _ _ => pri_dp) (pri_up x1 hes)), .tup k1 (dpAll_of (f := pairD) (fun _ _ => pri_dp) (pri_up x1 hx)), gE.sh, gE.sh, ?_⟩
  rw [eqv_self gE]
  refine ⟨_, rfl, iteT ?_⟩
  refine ⟨_, rfl, a, T.C_Plane, dx, _, .ref tb, rfl, x1.keep _ _ hp (fun _ z => by cases z), T.cl_Plane, T.na_Plane_turns, rfl, _, rfl, ul, uys, rfl, .inl ⟨SqL.of (x1.lst hul), fun g2 hg2 => ?_⟩⟩
  have x2 := ext_upd (o := .tup uys) hg2
  have k2 : SqT K (upd H1 g2 (.tup uys)) g2 uys := SqT.of upd_same
  generalize upd H1 g2 (.tup uys) = H2 at *
  have s2 := x1.trans x2
  refine ⟨.tuple (tss.map turnD), .tuple (tss.map turnD), .tup (s2.tup ht) (dpAll_of (f := turnD) (fun _ _ => tui_dp) (tui_up s2 hts)), .tup k2 (dpAll_of (f := turnD) (fun _ _ => tui_dp) (tui_up s2 hy)), gT.sh, gT.sh, ?_⟩
  rw [eqv_self gT]
  exact q H2 s2
/-! ### what is good, in the law's words -/
theorem getD_map {α β : Type} (f : List α → List β) (hf : f [] = []) (ts : List (List α)) (v : Nat) : (ts.map f).getD v [] = f (ts.getD v []) := by
  rw [List.getD_eq_getElem?_getD, List.getD_eq_getElem?_getD, List.getElem?_map]
  cases ts[v]? with
  | none => exact hf.symm
  | some l => rfl
theorem insD_iT (ts : List (List Nat)) (v p d : Nat) : insD (iT ts) v p ((d : Nat) : Int) = iT (insD ts v p d) := by
  unfold insD iT
  rw [getD_map _ rfl, List.map_set, List.map_append, List.map_cons, List.map_take, List.map_drop]
theorem okD_iT (ts : List (List Nat)) (v p : Int) : okD (iT ts) v p ↔ okD ts v p := by
  unfold okD iT
  rw [getD_map _ rfl, List.length_map, List.length_map]
theorem okD_at {ts : List (List Nat)} {v p : Int} (h : okD ts v p) : ∃ (vn : Nat) (A B : List Nat), v = ((vn : Nat) : Int) ∧ p = ((A.length : Nat) : Int) ∧ ts[vn]? = some (A ++ B) ∧ ∀ d, insD ts v.toNat p.toNat d = ts.set vn (A ++ d :: B) := by
  obtain ⟨h1, h2, h3, h4⟩ := h
  obtain ⟨vn, rfl⟩ := Int.eq_ofNat_of_zero_le h1
  obtain ⟨pn, rfl⟩ := Int.eq_ofNat_of_zero_le h3
  have e1 : (((vn : Nat) : Int)).toNat = vn := Int.toNat_natCast vn
  have e2 : (((pn : Nat) : Int)).toNat = pn := Int.toNat_natCast pn
  rw [e1] at h4
  have hv : vn < ts.length := by omega
  have e := List.getElem?_eq_getElem hv
  have eg : ts.getD vn [] = ts[vn] := by rw [List.getD_eq_getElem?_getD, e]; rfl
  rw [eg] at h4
  refine ⟨vn, ts[vn].take pn, ts[vn].drop pn, rfl, by rw [List.length_take]; omega, by rw [List.take_append_drop]; exact e, fun d => ?_⟩
  unfold insD
  rw [e1, e2, eg]
theorem goodL_iff {es : List (Nat × Nat)} {ts : List (List Nat)} (h : Pg es ts) (v p : Int) : goodL ts.length (es.map cE) (iT ts) v p ↔ okD ts v p ∧ ts.length < 100 ∧ es.length < 160 := by
  have lM : (es.map cE).length = es.length := List.length_map _
  unfold goodL
  rw [okD_iT, lM]
  constructor
  · rintro ⟨h1, h2⟩
    have h3 := h2.1.2.1
    have h4 := h2.1.2.2.1
    rw [List.length_append, lM, List.length_singleton] at h4
    exact ⟨h1, by omega, by omega⟩
  · rintro ⟨h1, h2, h3⟩
    refine ⟨h1, ?_⟩
    obtain ⟨vn, A, B, rfl, rfl, hu, hi⟩ := okD_at h1
    have g := leafA h hu
    have e1 : es.map cE ++ [(((vn : Nat) : Int), ((ts.length : Nat) : Int))] = (es ++ [(vn, ts.length)]).map cE := by rw [List.map_append]; rfl
    have e2 : insD (iT ts) (((vn : Nat) : Int)).toNat (((A.length : Nat) : Int)).toNat (2 * ((es.length : Nat) : Int)) ++ [[2 * ((es.length : Nat) : Int) + 1]] = iT (ts.set vn (A ++ 2 * es.length :: B) ++ [[2 * es.length + 1]]) := by
      rw [← hi]
      show insD (iT ts) _ _ ((2 * es.length : Nat) : Int) ++ _ = _
      rw [insD_iT]
      unfold iT
      rw [List.map_append]
      rfl
    rw [e1, e2]
    have ll : (ts.set vn (A ++ 2 * es.length :: B) ++ [[2 * es.length + 1]]).length = ts.length + 1 := by rw [List.length_append, List.length_set]; rfl
    have := good_pg g (by rw [ll]; omega) (by rw [List.length_append, List.length_singleton]; omega)
    rw [ll] at this
    exact this
theorem goodD_iff {es : List (Nat × Nat)} {ts : List (List Nat)} (h : Pg es ts) (hn : ts.length ≤ 100) (v p v2 p2 : Int) : goodD ts.length (es.map cE) (iT ts) v p v2 p2 ↔ okD ts v p ∧ okD (insD ts v.toNat p.toNat (2 * es.length)) v2 p2 ∧ es.length < 160 ∧ ∀ fs, FcOf (es.length + 1) (insD (insD ts v.toNat p.toNat (2 * es.length)) v2.toNat p2.toNat (2 * es.length + 1)) fs → fs.length + ts.length = 3 + es.length := by
  have lM : (es.map cE).length = es.length := List.length_map _
  unfold goodD
  rw [okD_iT, lM, show (2 * ((es.length : Nat) : Int)) = ((2 * es.length : Nat) : Int) from rfl, insD_iT, okD_iT, show ((2 * es.length : Nat) : Int) + 1 = ((2 * es.length + 1 : Nat) : Int) from rfl, insD_iT]
  refine and_congr_right fun h1 => and_congr_right fun h2 => ?_
  obtain ⟨vn, A, B, rfl, rfl, hu, hi⟩ := okD_at h1
  rw [hi] at h2 ⊢
  obtain ⟨wn, C, D, rfl, rfl, hv, hj⟩ := okD_at h2
  rw [hj]
  have e1 : es.map cE ++ [(((vn : Nat) : Int), ((wn : Nat) : Int))] = (es ++ [(vn, wn)]).map cE := by rw [List.map_append]; rfl
  have le : (es ++ [(vn, wn)]).length = es.length + 1 := by rw [List.length_append]; rfl
  have ll : ((ts.set vn (A ++ 2 * es.length :: B)).set wn (C ++ (2 * es.length + 1) :: D)).length = ts.length := by rw [List.length_set, List.length_set]
  have g := ((pre_of h).edge hu hv).good (by rw [ll]; exact hn)
  rw [ll, le] at g
  rw [e1, g]
  refine and_congr ?_ ?_
  · omega
  · exact ⟨fun k fs q => by have := k fs q; omega, fun k fs q => by have := k fs q; omega⟩
theorem _root_.L2H.RoomH.units {k : Nat} {A : Around} (r : L2H.RoomH k A) : A.units + 64 < cLine := by
  have := r.un
  omega
theorem _root_.L2.Fun.okHR {x qual : Str} {st : Stmt} {f : Addr} {fd : FuncData} {N ps : List Str} {k : Nat} {sp : Sp} (F : Fun K x qual st f fd) (S : FnScope N ps (defScope st)) (len : ∀ vs H Q E, sp vs H Q E → vs.length = ps.length)
    (hbody : ∀ (cdv : Value) (A : Around) (outer : List Env) (s : Shared) (H : Hp) (vs : List V) (Q : VK) (E : XK) (p : Addr × Obj), L2H.RoomH k (A.deeper (envOfC qual (defScope st) s.heap.objs.size f cdv)) → sp vs H Q E →
      ∃ t, PSs (L2H.cxH (L2N.CX P w) P w K mg base N qual (defScope st) f cdv A outer s H E p) (defBody st) t ∧ t { nx := fun _ H' => Q .non H', rt := Q } (L2.start N vs) H) : L2H.FnH P w K mg base (L2N.CX P w) (k + 1) f fd ps sp := by
  obtain ⟨oc, od, kV, doc, pm, an, cdv, ct, osl, e, lk, hcd⟩ := F.ex
  subst e
  exact L2H.fn_ofH lk hcd S len fun A outer s H vs Q E p _ hr hsp => hbody cdv A outer s H vs Q E p hr hsp
theorem ok_law_sameH (T : Top K mg) : L2H.FnH P w K mg base (L2N.CX P w) 1 T.f_law_same T.d_law_same ["plane", "count", "edges", "turns"] (spSame T) := by
  refine T.F_law_same.okHR sc_law_same (fun vs H Q E h => ?_) (fun cdv A outer s H vs Q E p0 hr h => ?_)
  · obtain ⟨a, el, ul, n, es, tss, exs, uys, rfl, _⟩ := h
    rfl
  obtain ⟨a, el, ul, n, es, tss, exs, uys, rfl, ⟨dx, eb, tb, xs, ys, hp, he, hes, ht, hts⟩, hel, hx, hul, hy, le, lt, q⟩ := h
  refine ⟨_, (pss_one (ps_ret (pe_and (pe_cmpR op_eq (pe_fld (pv 0) rfl) (pv 1) (nomark _)) (pe_and (pe_cmpR (op_eqD hr.units) (pe_fld (pv 0) rfl) (pe_callTy call_tuple_of (by rfl) T.m_tuple (by decide +kernel) (pa_cons (pv 2) pa_nil)) (nomark _)) (pe_one (pe_cmpR (op_eqD hr.units) (pe_fld (pv 0) rfl) (pe_callTy call_tuple_of (by rfl) T.m_tuple (by decide +kernel) (pa_cons (pv 3) pa_nil)) (nomark _))))))), ?_⟩
  refine ⟨_, rfl, a, T.C_Plane, dx, _, .int ((n : Nat) : Int), rfl, hp, T.cl_Plane, T.na_Plane_count, rfl, _, rfl, rfl, ?_⟩
  have gE : Gd 5 (.tuple (es.map pairD)) := gd_tup fun d m => by
    obtain ⟨e, _, rfl⟩ := List.mem_map.mp m
    exact gd_intsT [e.1, e.2]
  have gT : Gd 5 (.tuple (tss.map turnD)) := gd_tup fun d m => by
    obtain ⟨e, _, rfl⟩ := List.mem_map.mp m
    exact gd_intsT e
  refine ⟨_, rfl, iteB (fun _ => ?_) (fun c => by simp at c)⟩
  refine ⟨_, rfl, a, T.C_Plane, dx, _, .ref eb, rfl, hp, T.cl_Plane, T.na_Plane_edges, rfl, _, rfl, el, exs, rfl, .inl ⟨SqL.of hel, fun g1 hg1 => ?_⟩⟩
  have x1 := ext_upd (o := .tup exs) hg1
  have k1 : SqT K (upd H g1 (.tup exs)) g1 exs := SqT.of upd_same
  generalize upd H g1 (.tup exs) = H1 at *
  refine ⟨.tuple (es.map pairD), .tuple (es.map pairD), .tup (x1.tup he) (dpAll_of (f := pairD) (fun _ _ => pri_dp) (pri_up x1 hes)), .tup k1 (dpAll_of (f := pairD) (fun _ _ => pri_dp) (pri_up x1 hx)), gE.sh, gE.sh, ?_⟩
  rw [eqv_self gE]
  refine ⟨_, rfl, iteT ?_⟩
  refine ⟨_, rfl, a, T.C_Plane, dx, _, .ref tb, rfl, x1.keep _ _ hp (fun _ z => by cases z), T.cl_Plane, T.na_Plane_turns, rfl, _, rfl, ul, uys, rfl, .inl ⟨SqL.of (x1.lst hul), fun g2 hg2 => ?_⟩⟩
  have x2 := ext_upd (o := .tup uys) hg2
  have k2 : SqT K (upd H1 g2 (.tup uys)) g2 uys := SqT.of upd_same
  generalize upd H1 g2 (.tup uys) = H2 at *
  have s2 := x1.trans x2
  refine ⟨.tuple (tss.map turnD), .tuple (tss.map turnD), .tup (s2.tup ht) (dpAll_of (f := turnD) (fun _ _ => tui_dp) (tui_up s2 hts)), .tup k2 (dpAll_of (f := turnD) (fun _ _ => tui_dp) (tui_up s2 hy)), gT.sh, gT.sh, ?_⟩
  rw [eqv_self gT]
  exact q H2 s2
def wWhen (p : Prop) (t : TS) : TS := fun D σ H => p ∧ t D σ H
theorem pss_when {X : Cx} {p : Prop} {b : List Stmt} {t : TS} (h : p → PSs X b t) : PSs X b (wWhen p t) := ⟨fun pins s σ H D I q => (h q.1).run pins s σ H D I q.2⟩
def adV : Value → Addr
  | .ref a => a
  | _ => 0
theorem zc_of {K : PySem.W.Frag} {cls : Value} {d : Option Addr} {oe : Obj} (hq : cls = .ref (adV cls) ∧ d = none ∧ ExcC K (adV cls)) (hz : Zc cls d oe) : Zc (.ref (adV cls)) none oe := by
  obtain ⟨h1, h2, _⟩ := hq
  rw [← h1]
  subst h2
  exact hz
def rLenS (K : PySem.W.Frag) : List V → Hp → VK → Prop := fun xs H Q => ∃ p ys, xs = [V.ref p] ∧ (SqL K H p ys ∨ SqT K H p ys) ∧ Q (.int (ys.length : Int)) H
/-! ### the law -/
def spLaw (T : Top K mg) : Sp := fun vs H Q _ => ∃ (a : Addr) (ns : List Int), vs = [.ref a] ∧ SqL K H a (ns.map V.int) ∧ Tg T H ∧ ∀ H', Q (.bl true) H'
theorem law_in (T : Top K mg) (H : Hp) (a : Addr) (ns : List Int) (hl : ns.length ≤ 63) (hb : ∀ z ∈ ns, Builtin.Int.intBits z ≤ 1048576) (G : Tg T H) (hS : SqL K H a (ns.map V.int)) : spLaw T [.ref a] H (fun v _ => v = .bl true) fun _ _ _ => False := ⟨a, ns, rfl, hS, G, fun _ => rfl⟩
/-- a plane graph in the law's lists -/
structure SetP (K : PySem.W.Frag) (H0 H : Hp) (el ul : Addr) (exs uys : List V) (es : List (Nat × Nat)) (ts : List (List Nat)) : Prop where
  ext : Ext H0 H
  e : H el = some (.lst exs)
  ep : Paired (PrI K H) exs (es.map cE)
  u : H ul = some (.lst uys)
  up : Paired (TuN K H) uys ts
  pg : Pg es ts
  n : ts.length ≤ 100
  m : es.length ≤ 160
theorem SetP.mono {H0 H H' : Hp} {el ul : Addr} {exs uys : List V} {es : List (Nat × Nat)} {ts : List (List Nat)} (h : SetP K H0 H el ul exs uys es ts) (s : Ext H H') : SetP K H0 H' el ul exs uys es ts := ⟨h.ext.trans s, s.lst h.e, pri_up s h.ep, s.lst h.u, tun_up s h.up, h.pg, h.n, h.m⟩
theorem tun_tui {H : Hp} {xs : List V} {ts : List (List Nat)} (h : Paired (TuN K H) xs ts) : Paired (TuI K H) xs (iT ts) := by
  induction h with
  | nil => exact .nil
  | cons h _ ih =>
    obtain ⟨a, e, g⟩ := h
    refine .cons ⟨a, e, ?_⟩ ih
    rw [← natV_int]
    exact g
theorem rgV_nat (n : Nat) : rgV 0 ((n : Nat) : Int) = natV (List.range n) := by
  unfold rgV natV
  rw [show (((n : Nat) : Int) - 0).toNat = n by omega]
  refine List.map_congr_left fun i _ => ?_
  rw [Int.zero_add]
theorem paired_rep {α β : Type} {R : α → β → Prop} {a : α} {b : β} (h : R a b) : ∀ n, Paired R (List.replicate n a) (List.replicate n b)
  | 0 => .nil
  | n + 1 => .cons h (paired_rep h n)
theorem esP_succ (k : Nat) : (esP (k + 1)).map cE = (esP k).map cE ++ [(((k : Nat) : Int), ((k : Nat) : Int) + 1)] := by
  unfold esP
  rw [List.range_succ, List.map_append, List.map_append]
  rfl
def midP (i : Nat) : List (List Nat) := (List.range i).map fun k => [2 * k + 1, 2 * k + 2]
theorem midP_succ (k : Nat) : midP (k + 1) = midP k ++ [[2 * k + 1, 2 * k + 2]] := by
  unfold midP
  rw [List.range_succ, List.map_append]
  rfl
theorem tsP99 : tsP 99 = [[0]] ++ midP 98 ++ [[197]] := by decide +kernel
theorem asg_joinB {e : TE} {g : TG} {D : Ends} {σ : L2.St} {H : Hp} (R : Bool → Prop) (h1 : ∀ b, R b → g (.bl b) σ H D.nx) (h2 : ∀ Q' : VK, (∀ b, R b → Q' (.bl b) H) → e σ H Q') : tAsg e g D σ H := h2 _ h1
theorem asg_joinBE {e : TE} {g : TG} {D : Ends} {σ : L2.St} {H : Hp} (R : Bool → Prop) (h1 : ∀ b H', Ext H H' → R b → g (.bl b) σ H' D.nx) (h2 : ∀ Q' : VK, (∀ b H', Ext H H' → R b → Q' (.bl b) H') → e σ H Q') : tAsg e g D σ H := h2 _ h1
def szZ (ts : List (List Nat)) (v : Int) : Int := if 0 ≤ v ∧ v < ((ts.length : Nat) : Int) then (((ts.getD v.toNat []).length : Nat) : Int) else 0
theorem szZ_nn (ts : List (List Nat)) (v : Int) : 0 ≤ szZ ts v := by
  unfold szZ
  split
  · omega
  · omega
/-- a wider plane graph, as the law has it -/
def WAt (K : PySem.W.Frag) (H : Hp) (wa : Addr) (n : Nat) (es : List EgI) (tss : List (List Int)) : Prop := ∃ e2 u2 exs uys, SqT K H wa [.int ((n : Nat) : Int), .ref e2, .ref u2] ∧ H e2 = some (.lst exs) ∧ Paired (PrI K H) exs es ∧ H u2 = some (.lst uys) ∧ Paired (TuI K H) uys tss ∧ es.length ≤ 1000 ∧ tss.length ≤ 1000
theorem WAt.mono {H H' : Hp} {wa : Addr} {n : Nat} {es : List EgI} {tss : List (List Int)} (h : WAt K H wa n es tss) (s : Ext H H') : WAt K H' wa n es tss := by
  obtain ⟨e2, u2, exs, uys, h1, h2, h3, h4, h5, h6⟩ := h
  exact ⟨e2, u2, exs, uys, s.tup h1, s.lst h2, pri_up s h3, s.lst h4, tui_up s h5, h6⟩
/-- what the wider plane graph is -/
def Wd (K : PySem.W.Frag) (H : Hp) (lf gd : Bool) (wa : Addr) (es : List (Nat × Nat)) (ts : List (List Nat)) (F1 P1 F2 P2 : Int) : Prop :=
  if lf = true then (gd = true ↔ goodL ts.length (es.map cE) (iT ts) F1 P1) ∧ (gd = true → WAt K H wa (ts.length + 1) (es.map cE ++ [(F1, ((ts.length : Nat) : Int))]) (insD (iT ts) F1.toNat P1.toNat (2 * (((es.map cE).length : Nat) : Int)) ++ [[2 * (((es.map cE).length : Nat) : Int) + 1]]))
  else (gd = true ↔ goodD ts.length (es.map cE) (iT ts) F1 P1 F2 P2) ∧ (gd = true → WAt K H wa ts.length (es.map cE ++ [(F1, F2)]) (insD (insD (iT ts) F1.toNat P1.toNat (2 * (((es.map cE).length : Nat) : Int))) F2.toNat P2.toNat (2 * (((es.map cE).length : Nat) : Int) + 1)))
theorem Wd.mono {H H' : Hp} {lf gd : Bool} {wa : Addr} {es : List (Nat × Nat)} {ts : List (List Nat)} {F1 P1 F2 P2 : Int} (h : Wd K H lf gd wa es ts F1 P1 F2 P2) (s : Ext H H') : Wd K H' lf gd wa es ts F1 P1 F2 P2 := by
  unfold Wd at h ⊢
  split
  · rename_i e
    rw [if_pos e] at h
    exact ⟨h.1, fun g => (h.2 g).mono s⟩
  · rename_i e
    rw [if_neg e] at h
    exact ⟨h.1, fun g => (h.2 g).mono s⟩
theorem ok_law {f : Addr} {d : FuncData} (F : Fun K "law" "law" s_law f d) (T : Top K mg) (B : Tb T base) : FnOk P w K mg base CX0 8 f d ["script"] (spLaw T) := by
  refine F.ok sc_law (fun vs H Q E h => ?_) (fun cdv A outer s H vs Q E hr h => ?_)
  · obtain ⟨a, ns, rfl, _⟩ := h
    rfl
  obtain ⟨a, ns, rfl, hS, G, q⟩ := h
  refine ⟨_, (pss_cons (ps_asg (pe_call (ok_law_plane T) (hr.mono (by decide)) (by rfl) T.g_law_plane T.F_law_plane.kp T.b_law_plane .nil pass0 (pa_cons (pv 0) (pa_cons pe_int (pa_cons pe_int (pa_cons pe_int pa_nil))))) (pg_tup rfl (pgs_cons (pg_name (i := 1) sc_law.nd rfl (by first | exact .inl rfl | exact .inr rfl)) (pgs_cons (pg_name (i := 2) sc_law.nd rfl (by first | exact .inl rfl | exact .inr rfl)) (pgs_cons (pg_name (i := 3) sc_law.nd rfl (by first | exact .inl rfl | exact .inr rfl)) pgs_nil)))))
      (pss_cons (ps_set (i := 4) sc_law.nd rfl (by first | exact .inl rfl | exact .inr rfl) (pe_callB call_abs (by rfl) T.m_abs (by decide +kernel) (pa_cons (pe_call (ok_law_cell T) (hr.mono (by decide)) (by rfl) T.g_law_cell T.F_law_cell.kp T.b_law_cell .nil pass0 (pa_cons (pv 0) (pa_cons pe_int pa_nil))) pa_nil)))
      (pss_cons (ps_set (i := 5) sc_law.nd rfl (by first | exact .inl rfl | exact .inr rfl) (pe_callB call_abs (by rfl) T.m_abs (by decide +kernel) (pa_cons (pe_call (ok_law_cell T) (hr.mono (by decide)) (by rfl) T.g_law_cell T.F_law_cell.kp T.b_law_cell .nil pass0 (pa_cons (pv 0) (pa_cons pe_int pa_nil))) pa_nil)))
      (C8.pss_cut (ps_if (pt_cmpR op_eq (pe_op op_mod (pv 5) pe_int) pe_int (nomark _)) (pss_cons (ps_set (i := 1) sc_law.nd rfl (by first | exact .inl rfl | exact .inr rfl) pe_int)
      (pss_cons (ps_set (i := 2) sc_law.nd rfl (by first | exact .inl rfl | exact .inr rfl) (pe_op op_rep (pe_lst (pa_cons (pe_tup (pa_cons pe_int (pa_cons pe_int pa_nil))) pa_nil)) pe_int))
      (pss_one (ps_set (i := 3) sc_law.nd rfl (by first | exact .inl rfl | exact .inr rfl) (pe_lst (pa_cons (pe_tupRg rfl (by rfl) T.m_tuple (prg_1 (by rfl) T.m_range pe_int)) pa_nil)))))) pss_nil)
      (C8.pss_cut (ps_if (pt_cmpR op_eq (pe_op op_mod (pv 5) pe_int) pe_int (nomark _)) (pss_cons (ps_set (i := 1) sc_law.nd rfl (by first | exact .inl rfl | exact .inr rfl) pe_int)
      (pss_cons (ps_setLc (i := 2) (own := [("k", 6)]) (g := gName 6) (tt := tYes) rfl sc_law.nd rfl rfl (sw_true rfl rfl rfl (by decide +kernel)) (pi_range1 (by rfl) T.m_range (pa_cons pe_int pa_nil)) (blkOk_by (own := [("k", 6)]) (N := n_law) (sc := defScope s_law) (by decide +kernel)) (fun _ _ _ _ _ => (pg_name (i := 6) sc_law.nd rfl (by first | exact .inl rfl | exact .inr rfl))) (fun _ _ _ _ _ => pts_nil) (fun _ _ _ _ _ => (pe_tup (pa_cons (pv 6) (pa_cons (pe_op op_add (pv 6) pe_int) pa_nil)))))
      (pss_one (ps_set (i := 3) sc_law.nd rfl (by first | exact .inl rfl | exact .inr rfl) (pe_op op_cat (pe_op op_cat (pe_lst (pa_cons (pe_tup (pa_cons pe_int pa_nil)) pa_nil)) (pe_lc (own := [("k", 6)]) (g := gName 6) (tt := tYes) rfl sc_law.nd (pi_range2 (by rfl) T.m_range (pa_cons pe_int (pa_cons pe_int pa_nil))) (blkOk_by (own := [("k", 6)]) (N := n_law) (sc := defScope s_law) (by decide +kernel)) (fun _ _ _ _ _ => (pg_name (i := 6) sc_law.nd rfl (by first | exact .inl rfl | exact .inr rfl))) (fun _ _ _ _ _ => pts_nil) (fun _ _ _ _ _ => (pe_tup (pa_cons (pe_op op_sub (pe_op op_mul pe_int (pv 6)) pe_int) (pa_cons (pe_op op_mul pe_int (pv 6)) pa_nil)))))) (pe_lst (pa_cons (pe_tup (pa_cons pe_int pa_nil)) pa_nil))))))) pss_nil)
      (pss_cons (ps_set (i := 7) sc_law.nd rfl (by first | exact .inl rfl | exact .inr rfl) (pe_op op_sub (pe_op op_mod (pv 4) (pe_op op_add (pv 1) pe_int)) pe_int))
      (pss_cons (ps_set (i := 8) sc_law.nd rfl (by first | exact .inl rfl | exact .inr rfl) (pe_op op_sub (pe_op op_mod (pe_op op_fdivZ (pv 4) pe_int) (pe_op op_add (pv 1) pe_int)) pe_int))
      (pss_cons (ps_setLc (i := 9) (own := [("vertex", 10)]) (g := gName 10) (tt := tYes) rfl sc_law.nd rfl rfl (sw_true rfl rfl rfl (by decide +kernel)) (pi_tup (pe_tup (pa_cons (pv 7) (pa_cons (pv 8) pa_nil)))) (blkOk_by (own := [("vertex", 10)]) (N := n_law) (sc := defScope s_law) (by decide +kernel)) (fun _ _ _ _ _ => (pg_name (i := 10) sc_law.nd rfl (by first | exact .inl rfl | exact .inr rfl))) (fun _ _ _ _ _ => pts_nil) (fun _ _ _ _ _ => (pe_ifExp (pt_chain op_le op_lt pe_int (pv 10) (pv 1)) (pe_callB (r := rLenS K) call_len_seq (by rfl) T.m_len (by decide +kernel) (pa_cons (pe_ix (r := rIxL K) ix_list (pv 3) (pv 10) (fun _ _ => rfl)) pa_nil)) pe_int)))
      (pss_cons (ps_set (i := 11) sc_law.nd rfl (by first | exact .inl rfl | exact .inr rfl) (pe_op op_sub (pe_op op_mod (pe_op op_fdivZ (pv 4) pe_int) (pe_op op_add (pe_ix ix_list (pv 9) pe_int (fun _ _ => rfl)) pe_int)) pe_int))
      (pss_cons (ps_set (i := 12) sc_law.nd rfl (by first | exact .inl rfl | exact .inr rfl) (pe_op op_sub (pe_op op_mod (pe_op op_fdivZ (pv 5) pe_int) (pe_op op_add (pe_ix ix_list (pv 9) pe_int (fun _ _ => rfl)) pe_int)) pe_int))
      (pss_cons (ps_set (i := 13) sc_law.nd rfl (by first | exact .inl rfl | exact .inr rfl) (pe_cmpR op_eq (pe_op op_mod (pe_op op_fdivZ (pv 5) pe_int) pe_int) pe_int (nomark _)))
      (pss_cons (ps_set (i := 14) sc_law.nd rfl (by first | exact .inl rfl | exact .inr rfl) (pe_op op_mul pe_int (pe_callB call_len_seq (by rfl) T.m_len (by decide +kernel) (pa_cons (pv 2) pa_nil))))
      (pss_cons (ps_set (i := 15) sc_law.nd rfl (by first | exact .inl rfl | exact .inr rfl) (pe_and (pe_chain op_le op_lt pe_int (pv 7) (pv 1)) (pe_one (pe_chain op_le op_le pe_int (pv 11) (pe_ix ix_list (pv 9) pe_int (fun _ _ => rfl))))))
      (pss_cons (ps_set (i := 16) sc_law.nd rfl (by first | exact .inl rfl | exact .inr rfl) (pe_callTy call_list_of (by rfl) T.m_list (by decide +kernel) (pa_cons (pv 3) pa_nil)))
      (C8.pss_cut (ps_if (pt_val (pv 15)) (pss_one (ps_set (i := 16) sc_law.nd rfl (by first | exact .inl rfl | exact .inr rfl) (pe_call (ok_law_put T) (hr.mono (by decide)) (by rfl) T.g_law_put T.F_law_put.kp T.b_law_put .nil pass0 (pa_cons (pv 16) (pa_cons (pv 7) (pa_cons (pv 11) (pa_cons (pv 14) pa_nil))))))) pss_nil)
      (C8.pss_cut (ps_if (pt_val (pv 13)) (pss_cons (ps_set (i := 15) sc_law.nd rfl (by first | exact .inl rfl | exact .inr rfl) (pe_and (pv 15) (pe_and (pe_cmpR op_lt (pv 1) pe_int (nomark _)) (pe_one (pe_cmpR op_lt (pe_callB call_len_seq (by rfl) T.m_len (by decide +kernel) (pa_cons (pv 2) pa_nil)) pe_int (nomark _))))))
      (pss_one (ps_set (i := 17) sc_law.nd rfl (by first | exact .inl rfl | exact .inr rfl) (pe_tup (pa_cons (pe_op op_add (pv 1) pe_int) (pa_cons (pe_op op_cat (pv 2) (pe_lst (pa_cons (pe_tup (pa_cons (pv 7) (pa_cons (pv 1) pa_nil))) pa_nil))) (pa_cons (pe_op op_cat (pv 16) (pe_lst (pa_cons (pe_tup (pa_cons (pe_op op_add (pv 14) pe_int) pa_nil)) pa_nil))) pa_nil))))))) (pss_cons (ps_set (i := 15) sc_law.nd rfl (by first | exact .inl rfl | exact .inr rfl) (pe_and (pv 15) (pe_and (pe_chain op_le op_lt pe_int (pv 8) (pv 1)) (pe_one (pe_chain op_le op_le pe_int (pv 12) (pe_callB call_len_seq (by rfl) T.m_len (by decide +kernel) (pa_cons (pe_ix ix_list (pv 16) (pv 8) (fun _ _ => rfl)) pa_nil)))))))
      (C8.pss_cut (ps_if (pt_val (pv 15)) (pss_one (ps_set (i := 16) sc_law.nd rfl (by first | exact .inl rfl | exact .inr rfl) (pe_call (ok_law_put T) (hr.mono (by decide)) (by rfl) T.g_law_put T.F_law_put.kp T.b_law_put .nil pass0 (pa_cons (pv 16) (pa_cons (pv 8) (pa_cons (pv 12) (pa_cons (pe_op op_add (pv 14) pe_int) pa_nil))))))) pss_nil)
      (pss_cons (ps_set (i := 17) sc_law.nd rfl (by first | exact .inl rfl | exact .inr rfl) (pe_tup (pa_cons (pv 1) (pa_cons (pe_op op_cat (pv 2) (pe_lst (pa_cons (pe_tup (pa_cons (pv 7) (pa_cons (pv 8) pa_nil))) pa_nil))) (pa_cons (pv 16) pa_nil)))))
      (pss_one (ps_set (i := 15) sc_law.nd rfl (by first | exact .inl rfl | exact .inr rfl) (pe_and (pv 15) (pe_and (pe_cmpR op_lt (pe_callB call_len_seq (by rfl) T.m_len (by decide +kernel) (pa_cons (pv 2) pa_nil)) pe_int (nomark _)) (pe_one (pe_cmpR op_eq (pe_callB call_len_seq (by rfl) T.m_len (by decide +kernel) (pa_cons (pe_call (ok_law_faces T) (hr.mono (by decide)) (by rfl) T.g_law_faces T.F_law_faces.kp T.b_law_faces .nil pass0 (pa_cons (pe_ix ix_tup (pv 17) pe_int (fun _ _ => rfl)) (pa_cons (pv 16) pa_nil))) pa_nil)) (pe_op op_add (pe_op op_sub pe_int (pv 1)) (pe_callB call_len_seq (by rfl) T.m_len (by decide +kernel) (pa_cons (pv 2) pa_nil))) (nomark _)))))))))))
      (pss_cons (ps_set (i := 18) sc_law.nd rfl (by first | exact .inl rfl | exact .inr rfl) (pe_make T.mk_Plane (ok_Plane_init T B) (hr.mono (by decide)) (by rfl) T.g_Plane T.b_Plane_init .nil HTN.passes_noN (pa_cons (pv 1) (pa_cons (pv 2) (pa_cons (pv 3) pa_nil)))))
      (C8.pss_cut (L2N.ps_try_as (i := 20) (tb := fun W => tIfS (tB (tVar 13)) (tAsg (tCallS (spWL T) (WE W) _) (gName 19)) (tAsg (tCallS (spWE T) (WE W) _) (gName 19))) (ts := fun a cls d => wWhen (cls = .ref (adV cls) ∧ d = none ∧ ExcC K (adV cls)) _) (Wout := fun _ _ _ _ => False) rfl rfl sc_law.nd rfl rfl ⟨rfl, by decide, Or.inl T.g_FieldError⟩ HTN.takes0N (fun W pn xe tk _ => pss_one (ps_if (pt_val (pv 13)) (pss_one (ps_set (i := 19) sc_law.nd rfl (Or.inl rfl) (pe_callS (ok_with_leaf T B) (hr.mono (by decide)) (by rfl) T.g_with_leaf T.F_with_leaf.kp T.b_with_leaf (fun σ => L2N.passAt tk σ) (pa_cons (pv 18) (pa_cons (pv 7) (pa_cons (pv 11) pa_nil)))))) (pss_one (ps_set (i := 19) sc_law.nd rfl (Or.inl rfl) (pe_callS (ok_with_edge T B) (hr.mono (by decide)) (by rfl) T.g_with_edge T.F_with_edge.kp T.b_with_edge (fun σ => L2N.passAt tk σ) (pa_cons (pv 18) (pa_cons (pv 7) (pa_cons (pv 11) (pa_cons (pv 8) (pa_cons (pv 12) pa_nil)))))))))) (fun a oe cls d pn hz hf => pss_when fun hq => (pss_one (ps_ret (pe_and (pe_callB (r := rIsE K (adV cls) a) (call_isE hq.2.2 (zc_of hq hz.zc) hf) (by rfl) T.m_isinstance (by decide +kernel) (pa_cons (pv 20) (pa_cons (pe_glob (v := .ref T.f_InvalidPlane) (by rfl) T.g_InvalidPlane rfl) pa_nil))) (pe_and (pe_not (pv 15)) (pe_one (L2H.pe_callH (E := fun _ _ _ _ => False) (ok_law_sameH T) (HTN.roomS (hr.mono (show 1 ≤ 7 by decide))) (HTN.hotS hz hf) (by rfl) T.g_law_same T.F_law_same.kp T.b_law_same (fun σ => HTN.passesAt0) (pa_cons (pv 18) (pa_cons (pv 1) (pa_cons (pv 2) (pa_cons (pv 3) pa_nil))))))))))))
      (pss_one (ps_ret (pe_and (pv 15) (pe_and (pe_call (ok_law_same T) (hr.mono (by decide)) (by rfl) T.g_law_same T.F_law_same.kp T.b_law_same .nil pass0 (pa_cons (pv 19) (pa_cons (pe_ix ix_tup (pv 17) pe_int (fun _ _ => rfl)) (pa_cons (pe_ix ix_tup (pv 17) pe_int (fun _ _ => rfl)) (pa_cons (pe_ix ix_tup (pv 17) pe_int (fun _ _ => rfl)) pa_nil))))) (pe_one (pe_call (ok_law_same T) (hr.mono (by decide)) (by rfl) T.g_law_same T.F_law_same.kp T.b_law_same .nil pass0 (pa_cons (pv 18) (pa_cons (pv 1) (pa_cons (pv 2) (pa_cons (pv 3) pa_nil)))))))))))))))))))))))))))), ?_⟩
  refine ⟨_, rfl, a, ns, 2, 7, 6, rfl, hS, by decide, fun l1 H1 el ul exs uys es ts s1 hl1 he hep hu hup pg hm hn => ⟨l1, _, rfl, hl1, rfl, _, _, rfl, _, _, rfl, _, _, rfl, rfl, ?_⟩⟩
  have S1 : SetP K H H1 el ul exs uys es ts := ⟨s1, he, hep, hu, hup, pg, by omega, by omega⟩
  clear s1 hl1 he hep hu hup pg hm hn
  dsimp only [gName]
  refine ⟨_, rfl, a, ns, 0, rfl, S1.ext.seq hS, cellZ ns 0, rfl, ?_⟩
  dsimp only [gName]
  generalize (if cellZ ns 0 < 0 then -cellZ ns 0 else cellZ ns 0) = cc at *
  refine ⟨_, rfl, a, ns, 1, rfl, S1.ext.seq hS, cellZ ns 1, rfl, ?_⟩
  dsimp only [gName]
  generalize (if cellZ ns 1 < 0 then -cellZ ns 1 else cellZ ns 1) = oo at *
  refine ⟨fun σ H2 => ∃ el ul exs uys es ts y6, σ = [some (.ref a), some (.int ((ts.length : Nat) : Int)), some (.ref el), some (.ref ul), some (.int cc), some (.int oo), y6, none, none, none, none, none, none, none, none, none, none, none, none, none, none] ∧ SetP K H H2 el ul exs uys es ts, ?_, ?_⟩
  · refine ⟨_, rfl, _, _, rfl, rfl, (by decide : (0 : Int) < 64), rfl, _, rfl, iteB (fun _ => ?_) (fun _ => ⟨el, ul, exs, uys, es, ts, _, rfl, S1⟩)⟩
    refine ⟨sl2, fun t1 h1 => ⟨by rw [sizeLine_eq]; simp, fun l0 hl0 => ⟨l0, 160, [V.ref t1], rfl, rfl, upd_same, by omega, by omega, by rw [sizeLine_eq]; show 1 * Int.toNat 160 ≤ _; decide, fun f0 hf0 => ?_⟩⟩⟩
    have x1 := ext_upd (o := .tup [V.int 0, V.int 0]) h1
    have k1 : SqT K (upd H1 t1 (.tup [V.int 0, V.int 0])) t1 [V.int 0, V.int 0] := SqT.of upd_same
    generalize upd H1 t1 (.tup [V.int 0, V.int 0]) = J1 at *
    have x2 := ext_upd (o := .lst [V.ref t1]) hl0
    generalize upd J1 l0 (.lst [V.ref t1]) = J2 at *
    rw [show (List.replicate (Int.toNat 160) [V.ref t1]).flatten = List.replicate 160 (V.ref t1) from List.flatten_replicate_singleton] at *
    have x3 := ext_upd (o := .lst (List.replicate 160 (V.ref t1))) hf0
    have k3 : upd J2 f0 (.lst (List.replicate 160 (V.ref t1))) f0 = some (.lst (List.replicate 160 (V.ref t1))) := upd_same
    dsimp only [gName]
    generalize upd J2 f0 (.lst (List.replicate 160 (V.ref t1))) = J3 at *
    refine ⟨320, rfl, RgOk.of_le (by decide) (by decide) (by decide) (by decide), fun r0 hr0 => ⟨by rw [sizeLine_eq]; simp, fun u0 hu0 => ?_⟩⟩
    rw [show rgV 0 320 = natV (List.range 320) from rgV_nat 320] at *
    have x4 := ext_upd (o := .tup (natV (List.range 320))) hr0
    have k4 : SqT K (upd J3 r0 (.tup (natV (List.range 320)))) r0 (natV (List.range 320)) := SqT.of upd_same
    generalize upd J3 r0 (.tup (natV (List.range 320))) = J4 at *
    have x5 := ext_upd (o := .lst [V.ref r0]) hu0
    have k5 : upd J4 u0 (.lst [V.ref r0]) u0 = some (.lst [V.ref r0]) := upd_same
    generalize upd J4 u0 (.lst [V.ref r0]) = J5 at *
    have x35 := x4.trans x5
    have x15 := (x2.trans x3).trans x35
    refine ⟨f0, u0, _, [V.ref r0], List.replicate 160 (0, 0), [List.range 320], _, rfl, ⟨S1.ext.trans (x1.trans x15), x35.lst k3, ?_, k5, .cons ⟨r0, rfl, x5.tup k4⟩ .nil, pg_loops 160, by decide, by decide⟩⟩
    rw [List.map_replicate]
    exact paired_rep ⟨t1, rfl, x15.tup k1⟩ 160
  clear S1 el ul exs uys es ts H1
  rintro σ H1 ⟨el, ul, exs, uys, es, ts, y6, rfl, S1⟩
  refine ⟨fun σ H2 => ∃ el ul exs uys es ts y6, σ = [some (.ref a), some (.int ((ts.length : Nat) : Int)), some (.ref el), some (.ref ul), some (.int cc), some (.int oo), y6, none, none, none, none, none, none, none, none, none, none, none, none, none, none] ∧ SetP K H H2 el ul exs uys es ts, ?_, ?_⟩
  · refine ⟨_, rfl, _, _, rfl, rfl, (by decide : (0 : Int) < 64), rfl, _, rfl, iteB (fun _ => ?_) (fun _ => ⟨el, ul, exs, uys, es, ts, _, rfl, S1⟩)⟩
    refine ⟨99, rfl, by decide, by decide, fun D hD => lc_range (lo := 0) (n := 99) (fun i HN => ∃ exs, HN D = some (.lst exs) ∧ Ext H1 HN ∧ Paired (PrI K HN) exs ((esP i).map cE)) ⟨[], upd_same, ext_upd hD, .nil⟩ (fun i HN hi hP => ?_) (fun HN hP => ?_)⟩
    · obtain ⟨exs, hDN, sN, hpN⟩ := hP
      have lN := hpN.length
      rw [List.length_map] at lN
      unfold esP at lN
      rw [List.length_map, List.length_range] at lN
      rw [Int.zero_add]
      refine ⟨rfl, _, rfl, _, rfl, _, _, rfl, rfl, sl2, fun p hp => ?_⟩
      have xp := ext_upd (o := .tup [V.int ((i : Nat) : Int), V.int (((i : Nat) : Int) + 1)]) hp
      have kp : SqT K (upd HN p (.tup [V.int ((i : Nat) : Int), V.int (((i : Nat) : Int) + 1)])) p [V.int ((i : Nat) : Int), V.int (((i : Nat) : Int) + 1)] := SqT.of upd_same
      generalize upd HN p (.tup [V.int ((i : Nat) : Int), V.int (((i : Nat) : Int) + 1)]) = HM at *
      refine ⟨exs, xp.lst hDN, sl_lt (by omega), exs ++ [.ref p], upd_same, (sN.trans xp).own hD, ?_⟩
      rw [esP_succ]
      exact pri_updL (xp.lst hDN) (paired_snoc (pri_up xp hpN) ⟨p, rfl, kp⟩)
    obtain ⟨exs, hDN, sN, hpN⟩ := hP
    dsimp only [gName]
    refine ⟨by rw [sizeLine_eq]; simp, fun t0 ht0 => ⟨by rw [sizeLine_eq]; simp, fun l0 hl0 => ?_⟩⟩
    have x1 := ext_upd (o := .tup [V.int 0]) ht0
    have k1 : SqT K (upd HN t0 (.tup [V.int 0])) t0 [V.int 0] := SqT.of upd_same
    generalize upd HN t0 (.tup [V.int 0]) = J1 at *
    have x2 := ext_upd (o := .lst [V.ref t0]) hl0
    have k2 : upd J1 l0 (.lst [V.ref t0]) l0 = some (.lst [V.ref t0]) := upd_same
    generalize upd J1 l0 (.lst [V.ref t0]) = J2 at *
    refine ⟨_, _, rfl, by decide, fun D2 hD2 => lc_range (lo := 1) (n := 98) (fun i HM => ∃ zs, HM D2 = some (.lst zs) ∧ Ext J2 HM ∧ Paired (TuN K HM) zs (midP i) ∧ zs.length = i) ⟨[], upd_same, ext_upd hD2, .nil, rfl⟩ (fun i HM hi hP => ?_) (fun HM hP => ?_)⟩
    · obtain ⟨zs, hDM, sM, hpM, lM⟩ := hP
      refine ⟨rfl, _, rfl, _, _, rfl, rfl, .inl ⟨by decide, by omega⟩, _, _, rfl, rfl, _, rfl, _, _, rfl, rfl, .inl ⟨by decide, by omega⟩, sl2, fun p hp => ?_⟩
      have ev : [V.int (2 * (1 + ((i : Nat) : Int)) - 1), V.int (2 * (1 + ((i : Nat) : Int)))] = natV [2 * i + 1, 2 * i + 2] := by
        show _ = [V.int ((2 * i + 1 : Nat) : Int), V.int ((2 * i + 2 : Nat) : Int)]
        rw [show 2 * (1 + ((i : Nat) : Int)) - 1 = ((2 * i + 1 : Nat) : Int) by omega, show 2 * (1 + ((i : Nat) : Int)) = ((2 * i + 2 : Nat) : Int) by omega]
      dsimp only
      rw [ev]
      have xp := ext_upd (o := .tup (natV [2 * i + 1, 2 * i + 2])) hp
      have kp : SqT K (upd HM p (.tup (natV [2 * i + 1, 2 * i + 2]))) p (natV [2 * i + 1, 2 * i + 2]) := SqT.of upd_same
      generalize upd HM p (.tup (natV [2 * i + 1, 2 * i + 2])) = HO at *
      refine ⟨zs, xp.lst hDM, sl_lt (by omega), zs ++ [.ref p], upd_same, (sM.trans xp).own hD2, ?_, by rw [List.length_append, lM]; rfl⟩
      rw [midP_succ]
      exact tun_updL (xp.lst hDM) (paired_snoc (tun_up xp hpM) ⟨p, rfl, kp⟩)
    obtain ⟨zs, hDM, sM, hpM, lM⟩ := hP
    refine ⟨l0, D2, _, _, rfl, rfl, sM.lst k2, hDM, sl_of (by rw [lM]; show 1 + 98 ≤ 1000000; decide), fun l3 hl3 => ?_⟩
    have x3 := ext_upd (o := .lst ([V.ref t0] ++ zs)) hl3
    have k3 : upd HM l3 (.lst ([V.ref t0] ++ zs)) l3 = some (.lst ([V.ref t0] ++ zs)) := upd_same
    generalize upd HM l3 (.lst ([V.ref t0] ++ zs)) = J3 at *
    refine ⟨by rw [sizeLine_eq]; simp, fun t4 ht4 => ⟨by rw [sizeLine_eq]; simp, fun l5 hl5 => ?_⟩⟩
    have x4 := ext_upd (o := .tup [V.int 197]) ht4
    have k4 : SqT K (upd J3 t4 (.tup [V.int 197])) t4 [V.int 197] := SqT.of upd_same
    generalize upd J3 t4 (.tup [V.int 197]) = J4 at *
    have x5 := ext_upd (o := .lst [V.ref t4]) hl5
    have k5 : upd J4 l5 (.lst [V.ref t4]) l5 = some (.lst [V.ref t4]) := upd_same
    generalize upd J4 l5 (.lst [V.ref t4]) = J5 at *
    refine ⟨l3, l5, _, _, rfl, rfl, (x4.trans x5).lst k3, k5, sl_of (by rw [List.length_append, lM]; show 1 + 98 + 1 ≤ 1000000; decide), fun l6 hl6 => ?_⟩
    have x6 := ext_upd (o := .lst ([V.ref t0] ++ zs ++ [V.ref t4])) hl6
    have k6 : upd J5 l6 (.lst ([V.ref t0] ++ zs ++ [V.ref t4])) l6 = some (.lst ([V.ref t0] ++ zs ++ [V.ref t4])) := upd_same
    generalize upd J5 l6 (.lst ([V.ref t0] ++ zs ++ [V.ref t4])) = J6 at *
    have s36 := ((x3.trans x4).trans x5).trans x6
    have s26 := sM.trans s36
    have sN6 := (x1.trans x2).trans s26
    have up6 : Paired (TuN K J6) ([V.ref t0] ++ zs ++ [V.ref t4]) (tsP 99) := by
      rw [tsP99]
      exact paired_app (paired_app (.cons ⟨t0, rfl, (x2.trans s26).tup k1⟩ .nil) (tun_up s36 hpM)) (.cons ⟨t4, rfl, (x5.trans x6).tup k4⟩ .nil)
    have l99 : (tsP 99).length = 100 := by unfold tsP; rw [List.length_map, List.length_range]
    have e99 : (esP 99).length = 99 := by unfold esP; rw [List.length_map, List.length_range]
    refine ⟨D, l6, exs, _, esP 99, tsP 99, _, by rw [l99]; rfl, ⟨S1.ext.trans (sN.trans sN6), sN6.lst hDN, pri_up sN6 hpN, k6, up6, pg_path 99, by omega, by omega⟩⟩
  clear S1 el ul exs uys es ts H1
  rintro σ H1 ⟨el, ul, exs, uys, es, ts, y6, rfl, S1⟩
  have lx := S1.ep.length
  rw [List.length_map] at lx
  have ly := S1.up.length
  have hn1 := S1.pg.n1
  have hnn := S1.n
  have hm1 := S1.m
  have n2 : (0 : Int) < ((ts.length : Nat) : Int) + 2 := by omega
  refine ⟨_, rfl, _, rfl, _, _, rfl, rfl, _, _, rfl, rfl, n2, _, _, rfl, rfl, ?_⟩
  dsimp only [gName]
  generalize cc % (((ts.length : Nat) : Int) + 2) - 1 = F1
  refine ⟨_, rfl, _, _, rfl, rfl, ⟨by decide, by decide⟩, _, rfl, _, _, rfl, rfl, _, _, rfl, rfl, n2, _, _, rfl, rfl, ?_⟩
  dsimp only [gName]
  generalize cc.fdiv 128 % (((ts.length : Nat) : Int) + 2) - 1 = F2
  refine ⟨_, rfl, _, rfl, sl2, fun p0 hp0 => ?_⟩
  have x0 := ext_upd (o := .tup [V.int F1, V.int F2]) hp0
  have k0 : SqT K (upd H1 p0 (.tup [V.int F1, V.int F2])) p0 ([F1, F2].map V.int) := SqT.of upd_same
  have S2 := S1.mono x0
  generalize upd H1 p0 (.tup [V.int F1, V.int F2]) = H2 at *
  refine ⟨p0, rfl, ⟨_, k0⟩, fun D hD => lc_tup (xs := [F1, F2].map V.int) (fun i HN => HN D = some (.lst ((([F1, F2].take i).map (szZ ts)).map V.int)) ∧ Ext H2 HN) ⟨upd_same, ext_upd hD⟩ (fun i HN _ h => h.2.tup k0) (fun i x HN hi hP => ?_) (fun HN hP => ?_)⟩
  · obtain ⟨hDN, sN⟩ := hP
    rw [List.getElem?_map] at hi
    obtain ⟨v, hv, rfl⟩ := Option.map_eq_some_iff.mp hi
    have SN := S2.mono sN
    have il : i < 2 := (List.getElem?_eq_some_iff.mp hv).1
    have fin : ∀ z : Int, z = szZ ts v → ∃ acc, HN D = some (.lst acc) ∧ acc.length < sizeLine ∧ (upd HN D (.lst (acc ++ [V.int z])) D = some (.lst ((([F1, F2].take (i + 1)).map (szZ ts)).map V.int)) ∧ Ext H2 (upd HN D (.lst (acc ++ [V.int z])))) := fun z ez => by
      refine ⟨_, hDN, sl_lt (by rw [List.length_map, List.length_map, List.length_take]; show min i 2 < _; omega), ?_, sN.own hD⟩
      rw [upd_same, take_snoc hv, List.map_append, List.map_append, ez]
      rfl
    refine ⟨rfl, _, rfl, _, _, rfl, rfl, _, rfl, ite2 (fun e1 => ?_) (fun e1 => ⟨_, rfl, iteF (fin 0 ?_)⟩)⟩
    · have e1 : (0 : Int) ≤ v := of_decide_eq_true e1
      refine ⟨_, rfl, _, _, rfl, rfl, _, rfl, iteB (fun e2 => ?_) (fun e2 => fin 0 ?_)⟩
      · have e2 : v < ((ts.length : Nat) : Int) := of_decide_eq_true e2
        obtain ⟨vn, rfl⟩ := Int.eq_ofNat_of_zero_le e1
        have hvl : vn < uys.length := by omega
        obtain ⟨own, hown, a1, ea1, g1⟩ := paired_at SN.up (List.getElem?_eq_getElem hvl)
        have hyv : uys[vn]? = some (.ref a1) := by rw [List.getElem?_eq_getElem hvl, ea1]
        refine ⟨_, rfl, _, rfl, ul, uys, _, .ref a1, rfl, rfl, SqL.of SN.u, atI_nat hyv, a1, natV own, rfl, .inr g1, fin _ ?_⟩
        unfold szZ
        rw [if_pos ⟨e1, e2⟩, Int.toNat_natCast, List.getD_eq_getElem?_getD, hown, natV_len]
        rfl
      · have e2 : ¬ v < ((ts.length : Nat) : Int) := of_decide_eq_false e2
        unfold szZ
        rw [if_neg (fun z => e2 z.2)]
    · unfold szZ
      rw [if_neg (fun z => e1 (decide_eq_true z.1))]
  obtain ⟨hDN, sN⟩ := hP
  have S3 := S2.mono sN
  clear S1 S2 x0 k0 sN
  have hs : SqL K HN D [V.int (szZ ts F1), V.int (szZ ts F2)] := SqL.of hDN
  dsimp only [gName]
  have z1 := szZ_nn ts F1
  have z2 := szZ_nn ts F2
  refine ⟨_, rfl, _, _, rfl, rfl, ⟨by decide, by decide⟩, _, rfl, D, _, _, _, rfl, rfl, hs, atI_nat (j := 0) rfl, _, _, rfl, rfl, _, _, rfl, rfl, (by show (0 : Int) < szZ ts F1 + 3; omega), _, _, rfl, rfl, ?_⟩
  dsimp only [gName]
  generalize cc.fdiv 16384 % (szZ ts F1 + 3) - 1 = P1
  refine ⟨_, rfl, _, _, rfl, rfl, ⟨by decide, by decide⟩, _, rfl, D, _, _, _, rfl, rfl, hs, atI_nat (j := 1) rfl, _, _, rfl, rfl, _, _, rfl, rfl, (by show (0 : Int) < szZ ts F2 + 4; omega), _, _, rfl, rfl, ?_⟩
  dsimp only [gName]
  generalize oo.fdiv 64 % (szZ ts F2 + 4) - 1 = P2
  refine ⟨_, rfl, _, _, rfl, rfl, ⟨by decide, by decide⟩, _, _, rfl, rfl, (by decide : (0 : Int) < 2), rfl, ?_⟩
  dsimp only [gName]
  generalize decide (V.int (oo.fdiv 4096 % 2) = V.int 0) = lf
  refine ⟨_, rfl, el, exs, rfl, .inl (SqL.of S3.e), _, _, rfl, rfl, .inl ⟨by decide, by omega⟩, ?_⟩
  rw [lx]
  dsimp only [gName]
  refine asg_joinB (fun b => b = true ↔ okD ts F1 P1) (fun gd hgd => ?_) (fun Q' hQ => by
    refine ⟨_, rfl, _, _, rfl, rfl, _, rfl, ite2 (fun e1 => ?_) (fun e1 => ⟨_, rfl, iteF (hQ false ⟨fun z => Bool.noConfusion z, fun g => absurd (decide_eq_true g.1) e1⟩)⟩)⟩
    have e1 : (0 : Int) ≤ F1 := of_decide_eq_true e1
    refine ⟨_, rfl, _, _, rfl, rfl, _, rfl, iteB (fun e2 => ?_) (fun e2 => hQ _ ⟨fun z => Bool.noConfusion z, fun g => absurd g.2.1 (of_decide_eq_false e2)⟩)⟩
    have e2 : F1 < ((ts.length : Nat) : Int) := of_decide_eq_true e2
    have es : szZ ts F1 = (((ts.getD F1.toNat []).length : Nat) : Int) := by
      unfold szZ
      rw [if_pos ⟨e1, e2⟩]
    refine ⟨_, rfl, _, _, rfl, rfl, _, rfl, ite2 (fun e3 => ?_) (fun e3 => hQ _ ⟨fun z => Bool.noConfusion z, fun g => absurd (decide_eq_true g.2.2.1) e3⟩)⟩
    have e3 : (0 : Int) ≤ P1 := of_decide_eq_true e3
    refine ⟨_, rfl, D, _, _, _, rfl, rfl, hs, atI_nat (j := 0) rfl, _, _, rfl, rfl, hQ _ ⟨fun z => ⟨e1, e2, e3, ?_⟩, fun g => decide_eq_true ?_⟩⟩
    · have := of_decide_eq_true z
      rw [← es]
      exact this
    · rw [es]
      exact g.2.2.2)
  dsimp only [gName]
  refine ⟨_, rfl, ul, uys, rfl, .inl (SqL.of S3.u), fun ml hml => ?_⟩
  have xm := ext_upd (o := .lst uys) hml
  have km : upd HN ml (.lst uys) ml = some (.lst uys) := upd_same
  have S4 := S3.mono xm
  dsimp only [gName]
  generalize upd HN ml (.lst uys) = H4 at *
  refine ⟨fun σ H5 => ∃ ml mys y10, σ = [some (.ref a), some (.int ((ts.length : Nat) : Int)), some (.ref el), some (.ref ul), some (.int cc), some (.int oo), y6, some (.int F1), some (.int F2), some (.ref D), y10, some (.int P1), some (.int P2), some (.bl lf), some (.int (2 * ((es.length : Nat) : Int))), some (.bl gd), some (.ref ml), none, none, none, none] ∧ SetP K H H5 el ul exs uys es ts ∧ H5 ml = some (.lst mys) ∧ Paired (TuN K H5) mys (if gd = true then insD ts F1.toNat P1.toNat (2 * es.length) else ts), ?_, ?_⟩
  · refine ⟨_, rfl, gd, rfl, ?_⟩
    by_cases hg : gd = true
    · rw [hg]
      refine iteT ?_
      obtain ⟨vn, A1, B1, ev, ep, hu, hi⟩ := okD_at (hgd.mp hg)
      have lo := own_len S4.pg.perm (List.mem_of_getElem? hu)
      rw [List.length_append] at lo
      refine ⟨_, rfl, _, rfl, _, rfl, _, rfl, ml, uys, ts, vn, 2 * es.length, A1, B1, by rw [ev, ep]; rfl, km, S4.up, hu, by omega, by omega, fun r H5 ys5 s5 hr0 hr hy5 => ?_⟩
      refine ⟨r, ys5, _, rfl, S4.mono s5, hr, ?_⟩
      rw [if_pos rfl, hi]
      exact hy5
    · have hg2 : gd = false := by cases gd with | false => rfl | true => exact absurd rfl hg
      rw [hg2]
      exact iteF ⟨ml, uys, _, rfl, S4, km, by rw [if_neg (by decide)]; exact S4.up⟩
  clear S3 S4 km xm hml hs hDN
  rintro σ H5 ⟨ml, mys, y10, rfl, S5, hml5, hmy5⟩
  have ltm : mys.length = ts.length := by
    have := hmy5.length
    rw [this]
    split
    · exact List.length_set
    · rfl
  refine ⟨fun σ H6 => ∃ g2 wa ml y10, σ = [some (.ref a), some (.int ((ts.length : Nat) : Int)), some (.ref el), some (.ref ul), some (.int cc), some (.int oo), y6, some (.int F1), some (.int F2), some (.ref D), y10, some (.int P1), some (.int P2), some (.bl lf), some (.int (2 * ((es.length : Nat) : Int))), some (.bl g2), some (.ref ml), some (.ref wa), none, none, none] ∧ SetP K H H6 el ul exs uys es ts ∧ Wd K H6 lf g2 wa es ts F1 P1 F2 P2, ?_, ?_⟩
  · refine ⟨_, rfl, lf, rfl, ?_⟩
    by_cases hlf : lf = true
    · rw [hlf]
      refine iteT ?_
      refine asg_joinB (fun b => b = true ↔ gd = true ∧ ts.length < 100 ∧ es.length < 160) (fun g2 hg2 => ?_) (fun Q' hQ => by
        refine ⟨_, rfl, gd, rfl, iteB (fun e => ?_) (fun e => hQ false ⟨fun z => Bool.noConfusion z, fun g => by rw [g.1] at e; cases e⟩)⟩
        refine ⟨_, rfl, _, _, rfl, rfl, _, rfl, iteB (fun e1 => ?_) (fun e1 => hQ false ⟨fun z => Bool.noConfusion z, fun g => absurd (show ((ts.length : Nat) : Int) < 100 by omega) (of_decide_eq_false e1)⟩)⟩
        have e1 : ((ts.length : Nat) : Int) < 100 := of_decide_eq_true e1
        refine ⟨_, rfl, el, exs, rfl, .inl (SqL.of S5.e), _, _, rfl, rfl, hQ _ ⟨fun z => ⟨e, by omega, by have := of_decide_eq_true z; omega⟩, fun g => decide_eq_true (by show ((exs.length : Nat) : Int) < 160; omega)⟩⟩)
      dsimp only [gName]
      refine ⟨_, rfl, _, _, rfl, rfl, _, rfl, _, rfl, _, rfl, sl2, fun t1 h1 => ⟨by rw [sizeLine_eq]; simp, fun l2 h2 => ?_⟩⟩
      have x1 := ext_upd (o := .tup [V.int F1, V.int ((ts.length : Nat) : Int)]) h1
      have k1 : SqT K (upd H5 t1 (.tup [V.int F1, V.int ((ts.length : Nat) : Int)])) t1 [V.int F1, V.int ((ts.length : Nat) : Int)] := SqT.of upd_same
      generalize upd H5 t1 (.tup [V.int F1, V.int ((ts.length : Nat) : Int)]) = J1 at *
      have x2 := ext_upd (o := .lst [V.ref t1]) h2
      have k2 : upd J1 l2 (.lst [V.ref t1]) l2 = some (.lst [V.ref t1]) := upd_same
      generalize upd J1 l2 (.lst [V.ref t1]) = J2 at *
      have s2 := x1.trans x2
      refine ⟨el, l2, exs, _, rfl, rfl, s2.lst S5.e, k2, sl_of (by rw [lx]; simp; omega), fun l3 h3 => ?_⟩
      have x3 := ext_upd (o := .lst (exs ++ [V.ref t1])) h3
      have k3 : upd J2 l3 (.lst (exs ++ [V.ref t1])) l3 = some (.lst (exs ++ [V.ref t1])) := upd_same
      generalize upd J2 l3 (.lst (exs ++ [V.ref t1])) = J3 at *
      have s3 := s2.trans x3
      refine ⟨_, rfl, _, rfl, _, _, rfl, rfl, by rw [sizeLine_eq]; simp, fun t4 h4 => ⟨by rw [sizeLine_eq]; simp, fun l5 h5 => ?_⟩⟩
      have x4 := ext_upd (o := .tup [V.int (2 * ((es.length : Nat) : Int) + 1)]) h4
      have k4 : SqT K (upd J3 t4 (.tup [V.int (2 * ((es.length : Nat) : Int) + 1)])) t4 [V.int (2 * ((es.length : Nat) : Int) + 1)] := SqT.of upd_same
      generalize upd J3 t4 (.tup [V.int (2 * ((es.length : Nat) : Int) + 1)]) = J4 at *
      have x5 := ext_upd (o := .lst [V.ref t4]) h5
      have k5 : upd J4 l5 (.lst [V.ref t4]) l5 = some (.lst [V.ref t4]) := upd_same
      generalize upd J4 l5 (.lst [V.ref t4]) = J5 at *
      have s5 := (s3.trans x4).trans x5
      refine ⟨ml, l5, mys, _, rfl, rfl, s5.lst hml5, k5, sl_of (by rw [ltm]; simp; omega), fun l6 h6 => ?_⟩
      have x6 := ext_upd (o := .lst (mys ++ [V.ref t4])) h6
      have k6 : upd J5 l6 (.lst (mys ++ [V.ref t4])) l6 = some (.lst (mys ++ [V.ref t4])) := upd_same
      generalize upd J5 l6 (.lst (mys ++ [V.ref t4])) = J6 at *
      have s6 := s5.trans x6
      refine ⟨by rw [sizeLine_eq]; simp, fun wa h7 => ?_⟩
      have x7 := ext_upd (o := .tup [V.int (((ts.length : Nat) : Int) + 1), V.ref l3, V.ref l6]) h7
      have k7 : SqT K (upd J6 wa (.tup [V.int (((ts.length : Nat) : Int) + 1), V.ref l3, V.ref l6])) wa [V.int (((ts.length : Nat) : Int) + 1), V.ref l3, V.ref l6] := SqT.of upd_same
      dsimp only [gName]
      generalize upd J6 wa (.tup [V.int (((ts.length : Nat) : Int) + 1), V.ref l3, V.ref l6]) = J7 at *
      have s7 := s6.trans x7
      have s37 := ((x4.trans x5).trans x6).trans x7
      refine ⟨g2, wa, ml, _, rfl, S5.mono s7, ?_⟩
      unfold Wd
      rw [if_pos rfl]
      refine ⟨by rw [goodL_iff S5.pg, hg2, hgd], fun gg => ?_⟩
      have gT := (hg2.mp gg).1
      rw [if_pos gT] at hmy5
      rw [List.length_map]
      refine ⟨l3, l6, _, _, k7, s37.lst k3, paired_snoc (pri_up s7 S5.ep) ⟨t1, rfl, ((x2.trans x3).trans s37).tup k1⟩, x7.lst k6, ?_, by rw [List.length_append, List.length_map]; simp; omega, by rw [List.length_append]; unfold insD; rw [List.length_set]; unfold iT; rw [List.length_map]; simp; omega⟩
      rw [show (2 * ((es.length : Nat) : Int)) = ((2 * es.length : Nat) : Int) from rfl, insD_iT]
      exact paired_snoc (tun_tui (tun_up s7 hmy5)) ⟨t4, rfl, ((x5.trans x6).trans x7).tup k4⟩
    · have hl2 : lf = false := by cases lf with | false => rfl | true => exact absurd rfl hlf
      rw [hl2]
      refine iteF ?_
      have lA : (insD ts F1.toNat P1.toNat (2 * es.length)).length = ts.length := List.length_set
      refine asg_joinB (fun b => b = true ↔ okD ts F1 P1 ∧ okD (insD ts F1.toNat P1.toNat (2 * es.length)) F2 P2) (fun g2 hg2 => ?_) (fun Q' hQ => by
        refine ⟨_, rfl, gd, rfl, iteB (fun e => ?_) (fun e => hQ false ⟨fun z => Bool.noConfusion z, fun g => by rw [hgd.mpr g.1] at e; cases e⟩)⟩
        have g1 := hgd.mp e
        rw [e] at hmy5
        rw [if_pos rfl] at hmy5
        refine ⟨_, rfl, _, _, rfl, rfl, _, rfl, ite2 (fun e1 => ?_) (fun e1 => ⟨_, rfl, iteF (hQ false ⟨fun z => Bool.noConfusion z, fun g => absurd (decide_eq_true g.2.1) e1⟩)⟩)⟩
        have e1 : (0 : Int) ≤ F2 := of_decide_eq_true e1
        refine ⟨_, rfl, _, _, rfl, rfl, _, rfl, iteB (fun e2 => ?_) (fun e2 => hQ _ ⟨fun z => Bool.noConfusion z, fun g => absurd (by have := g.2.2.1; rw [lA] at this; exact this) (of_decide_eq_false e2)⟩)⟩
        have e2 : F2 < ((ts.length : Nat) : Int) := of_decide_eq_true e2
        obtain ⟨vn, rfl⟩ := Int.eq_ofNat_of_zero_le e1
        have hvl : vn < mys.length := by omega
        obtain ⟨own, hown, a1, ea1, ga1⟩ := paired_at hmy5 (List.getElem?_eq_getElem hvl)
        have hyv : mys[vn]? = some (.ref a1) := by rw [List.getElem?_eq_getElem hvl, ea1]
        have eown : (insD ts F1.toNat P1.toNat (2 * es.length)).getD (((vn : Nat) : Int)).toNat [] = own := by rw [Int.toNat_natCast, List.getD_eq_getElem?_getD, hown]; rfl
        refine ⟨_, rfl, _, _, rfl, rfl, _, rfl, ite2 (fun e3 => ?_) (fun e3 => hQ _ ⟨fun z => Bool.noConfusion z, fun g => absurd (decide_eq_true g.2.2.2.1) e3⟩)⟩
        have e3 : (0 : Int) ≤ P2 := of_decide_eq_true e3
        refine ⟨_, rfl, _, rfl, ml, mys, _, .ref a1, rfl, rfl, SqL.of hml5, atI_nat hyv, a1, natV own, rfl, .inr ga1, _, _, rfl, rfl, hQ _ ⟨fun z => ⟨g1, e1, by rw [lA]; exact e2, e3, ?_⟩, fun g => decide_eq_true ?_⟩⟩
        · have := of_decide_eq_true z
          rw [eown]
          rw [natV_len] at this
          exact this
        · have := g.2.2.2.2
          rw [eown] at this
          rw [natV_len]
          exact this)
      dsimp only [gName]
      refine ⟨fun σ H6 => ∃ ml mys y10, σ = [some (.ref a), some (.int ((ts.length : Nat) : Int)), some (.ref el), some (.ref ul), some (.int cc), some (.int oo), y6, some (.int F1), some (.int F2), some (.ref D), y10, some (.int P1), some (.int P2), some (.bl false), some (.int (2 * ((es.length : Nat) : Int))), some (.bl g2), some (.ref ml), none, none, none, none] ∧ SetP K H H6 el ul exs uys es ts ∧ H6 ml = some (.lst mys) ∧ (g2 = true → Paired (TuN K H6) mys (insD (insD ts F1.toNat P1.toNat (2 * es.length)) F2.toNat P2.toNat (2 * es.length + 1))), ?_, ?_⟩
      · refine ⟨_, rfl, g2, rfl, iteB (fun e => ?_) (fun e => ⟨ml, mys, y10, rfl, S5, hml5, fun z => by rw [z] at e; cases e⟩)⟩
        obtain ⟨o1, o2⟩ := hg2.mp e
        rw [hgd.mpr o1] at hmy5
        rw [if_pos rfl] at hmy5
        obtain ⟨vn, A1, B1, ev, ep, hu, hi⟩ := okD_at o1
        obtain ⟨wn, A2, B2, ew, eq, hv, hj⟩ := okD_at o2
        have hv' := hv
        rw [hi] at hv'
        have lo1 := own_len S5.pg.perm (List.mem_of_getElem? hu)
        rw [List.length_append] at lo1
        have lo2 : (A2 ++ B2).length ≤ 2 * es.length + 1 := by
          rcases List.mem_or_eq_of_mem_set (List.mem_of_getElem? hv') with m | m
          · have := own_len S5.pg.perm m
            omega
          · rw [m, List.length_append, List.length_cons]
            omega
        rw [List.length_append] at lo2
        refine ⟨_, rfl, _, rfl, _, rfl, _, rfl, _, _, rfl, rfl, ml, mys, _, wn, 2 * es.length + 1, A2, B2, by rw [ew, eq]; rfl, hml5, hmy5, hv, by omega, by omega, fun r H7 ys7 s7 hr0 hr hy7 => ?_⟩
        refine ⟨r, ys7, y10, by rw [e]; rfl, S5.mono s7, hr, fun _ => ?_⟩
        rw [hj]
        exact hy7
      rintro σ H6 ⟨ml2, mys2, z10, rfl, S6, hml6, hmy6⟩
      have lm2 : g2 = true → mys2.length = ts.length := fun e => by
        rw [(hmy6 e).length]
        exact List.length_set.trans lA
      refine ⟨_, rfl, _, rfl, _, rfl, _, rfl, sl2, fun t1 h1 => ⟨by rw [sizeLine_eq]; simp, fun l2 h2 => ?_⟩⟩
      have x1 := ext_upd (o := .tup [V.int F1, V.int F2]) h1
      have k1 : SqT K (upd H6 t1 (.tup [V.int F1, V.int F2])) t1 [V.int F1, V.int F2] := SqT.of upd_same
      generalize upd H6 t1 (.tup [V.int F1, V.int F2]) = J1 at *
      have x2 := ext_upd (o := .lst [V.ref t1]) h2
      have k2 : upd J1 l2 (.lst [V.ref t1]) l2 = some (.lst [V.ref t1]) := upd_same
      generalize upd J1 l2 (.lst [V.ref t1]) = J2 at *
      have s2 := x1.trans x2
      refine ⟨el, l2, exs, _, rfl, rfl, s2.lst S6.e, k2, sl_of (by rw [lx]; simp; omega), fun l3 h3 => ?_⟩
      have x3 := ext_upd (o := .lst (exs ++ [V.ref t1])) h3
      have k3 : upd J2 l3 (.lst (exs ++ [V.ref t1])) l3 = some (.lst (exs ++ [V.ref t1])) := upd_same
      generalize upd J2 l3 (.lst (exs ++ [V.ref t1])) = J3 at *
      have s3 := s2.trans x3
      refine ⟨_, rfl, by rw [sizeLine_eq]; simp, fun wa h7 => ?_⟩
      have x7 := ext_upd (o := .tup [V.int ((ts.length : Nat) : Int), V.ref l3, V.ref ml2]) h7
      have k7 : SqT K (upd J3 wa (.tup [V.int ((ts.length : Nat) : Int), V.ref l3, V.ref ml2])) wa [V.int ((ts.length : Nat) : Int), V.ref l3, V.ref ml2] := SqT.of upd_same
      dsimp only [gName]
      generalize upd J3 wa (.tup [V.int ((ts.length : Nat) : Int), V.ref l3, V.ref ml2]) = J7 at *
      have s7 := s3.trans x7
      have S7 := S6.mono s7
      have k37 := x7.lst k3
      have hml7 := s7.lst hml6
      have pm : okD ts F1 P1 → okD (insD ts F1.toNat P1.toNat (2 * es.length)) F2 P2 → (insD (insD ts F1.toNat P1.toNat (2 * es.length)) F2.toNat P2.toNat (2 * es.length + 1)).flatten.Perm (List.range (2 * (es.length + 1))) := fun o1 o2 => by
        obtain ⟨vn, A1, B1, ev, ep, hu, hi⟩ := okD_at o1
        obtain ⟨wn, A2, B2, ew, eq, hv, hj⟩ := okD_at o2
        have hv' := hv
        rw [hi] at hv'
        rw [hj, hi]
        have := ((pre_of S5.pg).edge hu hv').perm
        rw [List.length_append] at this
        exact this
      refine asg_joinBE (fun b => b = true ↔ goodD ts.length (es.map cE) (iT ts) F1 P1 F2 P2) (fun g3 J8 s8 hg3 => ?_) (fun Q' hQ => by
        refine ⟨_, rfl, g2, rfl, iteB (fun e => ?_) (fun e => hQ false _ (Ext.refl _) ⟨fun z => Bool.noConfusion z, fun g => by
          obtain ⟨o1, o2, _⟩ := (goodD_iff S5.pg hnn _ _ _ _).mp g
          rw [hg2.mpr ⟨o1, o2⟩] at e
          cases e⟩)⟩
        obtain ⟨o1, o2⟩ := hg2.mp e
        refine ⟨_, rfl, el, exs, rfl, .inl (SqL.of S7.e), _, _, rfl, rfl, _, rfl, iteB (fun e1 => ?_) (fun e1 => hQ false _ (Ext.refl _) ⟨fun z => Bool.noConfusion z, fun g => absurd (by have := ((goodD_iff S5.pg hnn _ _ _ _).mp g).2.2.1; show ((exs.length : Nat) : Int) < 160; omega) (of_decide_eq_false e1)⟩)⟩
        have e1 : ((exs.length : Nat) : Int) < 160 := of_decide_eq_true e1
        refine ⟨_, rfl, wa, _, _, .ref l3, rfl, rfl, k7, atI_nat (j := 1) rfl, _, rfl, l3, ml2, _, mys2, es.length + 1, _, rfl, SqL.of k37, by rw [List.length_append, lx]; rfl, SqL.of hml7, paired_imp (fun _ _ ⟨a, e, g⟩ => ⟨a, e, .inr g⟩) (tun_up s7 (hmy6 e)), pm o1 o2, by omega, fun fl J8 zs fs s8 nf hfl hzs hfc => ?_⟩
        refine ⟨fl, zs, rfl, .inl (SqL.of hfl), _, rfl, _, _, rfl, rfl, _, rfl, el, exs, rfl, .inl (SqL.of (s8.lst S7.e)), _, _, rfl, rfl, rfl, hQ _ J8 s8 ?_⟩
        have lz := hzs.length
        rw [goodD_iff S5.pg hnn, show (decide (V.int ((zs.length : Nat) : Int) = V.int (3 - ((ts.length : Nat) : Int) + ((exs.length : Nat) : Int)))) = (((zs.length : Nat) : Int) == 3 - ((ts.length : Nat) : Int) + ((exs.length : Nat) : Int)) from dec_int, beq_iff_eq]
        refine ⟨fun z => ⟨o1, o2, by omega, fun fs' h => by rw [h.unique hfc]; omega⟩, fun g => by
          have := g.2.2.2 fs hfc
          omega⟩)
      dsimp only [gName]
      have s78 := s7.trans s8
      refine ⟨g3, wa, ml2, z10, rfl, S6.mono s78, ?_⟩
      unfold Wd
      rw [if_neg (by decide)]
      refine ⟨hg3, fun gg => ?_⟩
      obtain ⟨o1, o2, o3, _⟩ := (goodD_iff S5.pg hnn _ _ _ _).mp (hg3.mp gg)
      have gT := hg2.mpr ⟨o1, o2⟩
      rw [List.length_map]
      refine ⟨l3, ml2, _, mys2, s8.tup k7, s8.lst k37, paired_snoc (pri_up s78 S6.ep) ⟨t1, rfl, (((x2.trans x3).trans x7).trans s8).tup k1⟩, s8.lst hml7, ?_, by rw [List.length_append, List.length_map]; simp; omega, by unfold insD; rw [List.length_set, List.length_set]; unfold iT; rw [List.length_map]; omega⟩
      rw [show (2 * ((es.length : Nat) : Int)) = ((2 * es.length : Nat) : Int) from rfl, insD_iT, show ((2 * es.length : Nat) : Int) + 1 = ((2 * es.length + 1 : Nat) : Int) from rfl, insD_iT]
      exact tun_tui (tun_up s78 (hmy6 gT))
  rintro σ H6 ⟨g2, wa, ml, y10, rfl, S6, hW⟩
  have liT : (iT ts).length = ts.length := List.length_map _
  have leM : (es.map cE).length = es.length := List.length_map _
  have lli : ∀ l ∈ iT ts, l.length ≤ 320 := fun l m => by
    obtain ⟨own, mo, rfl⟩ := List.mem_map.mp m
    rw [List.length_map]
    have := own_len S6.pg.perm mo
    omega
  have gp := good_pg S6.pg hnn hm1
  refine ⟨_, rfl, _, rfl, _, rfl, fun pa dx hpa hdx hne => ⟨pa, dx, el, ul, exs, uys, es.map cE, iT ts, ts.length, H6, rfl, upd_same, hpa, (ext_upd hdx).trans (ext_upd (by rw [upd_ne hne.symm]; exact hpa)), .inl (SqL.of S6.e), S6.ep, .inl (SqL.of S6.u), tun_tui S6.up, by omega, by omega, by omega, fun l m => Nat.le_trans (lli l m) (by decide), G.ext S6.ext, fun _ H7 s7 hpl => ⟨rfl, ?_⟩, fun nok => absurd gp nok⟩⟩
  have S7 := S6.mono s7
  have W7 := hW.mono s7
  have G7 := G.ext S7.ext
  dsimp only [gName]
  clear S6 hW hne hdx hpa
  refine ⟨fun σ H8 => ∃ tp y20, σ = [some (.ref a), some (.int ((ts.length : Nat) : Int)), some (.ref el), some (.ref ul), some (.int cc), some (.int oo), y6, some (.int F1), some (.int F2), some (.ref D), y10, some (.int P1), some (.int P2), some (.bl lf), some (.int (2 * ((es.length : Nat) : Int))), some (.bl g2), some (.ref ml), some (.ref wa), some (.ref pa), some (.ref tp), y20] ∧ g2 = true ∧ SetP K H H8 el ul exs uys es ts ∧ PlAt T H8 pa ts.length (es.map cE) (iT ts) ∧ ∃ n' es' tss', WAt K H8 wa n' es' tss' ∧ PlAt T H8 tp n' es' tss', ?_, ?_⟩
  · refine ⟨_, rfl, lf, rfl, ?_⟩
    by_cases hlf : lf = true
    · rw [hlf] at W7 ⊢
      unfold Wd at W7
      rw [if_pos rfl] at W7
      refine iteT ⟨_, rfl, _, rfl, _, rfl, pa, ts.length, es.map cE, iT ts, F1, P1, rfl, hpl, by omega, by omega, by omega, fun l m => Nat.le_trans (lli l m) (by decide), G7, fun gd tp H8 s8 htp => ?_, fun ng H8 s8 => ?_⟩
      · exact ⟨tp, _, rfl, W7.1.mpr gd, S7.mono s8, hpl.up s8, _, _, _, (W7.2 (W7.1.mpr gd)).mono s8, htp⟩
      · have g2f : g2 = false := by
          cases g2 with
          | false => rfl
          | true => exact absurd (W7.1.mp rfl) ng
        refine ⟨true, T.xm_InvalidPlane, fun _ a0 ha0 => ⟨⟨rfl, rfl, T.ec_InvalidPlane⟩, ?_⟩, fun z => Bool.noConfusion z⟩
        have S8 := S7.mono s8
        rw [g2f]
        refine ⟨_, rfl, _, .ref T.f_InvalidPlane, true, rfl, fun u r => r, T.ki_InvalidPlane, _, rfl, iteT ⟨_, rfl, false, rfl, _, rfl, iteT ⟨_, rfl, _, rfl, _, rfl, _, rfl, pa, el, ul, ts.length, es.map cE, iT ts, exs, uys, rfl, hpl.up s8, S8.e, S8.ep, S8.u, tun_tui S8.up, by omega, by omega, fun H9 s9 => q H9⟩⟩⟩
    · have hl2 : lf = false := by cases lf with | false => rfl | true => exact absurd rfl hlf
      rw [hl2] at W7 ⊢
      unfold Wd at W7
      rw [if_neg (by decide)] at W7
      refine iteF ⟨_, rfl, _, rfl, _, rfl, _, rfl, _, rfl, pa, ts.length, es.map cE, iT ts, F1, P1, F2, P2, rfl, hpl, by omega, by omega, by omega, fun l m => Nat.le_trans (lli l m) (by decide), G7, fun gd tp H8 s8 htp => ?_, fun ng H8 s8 => ?_⟩
      · exact ⟨tp, _, rfl, W7.1.mpr gd, S7.mono s8, hpl.up s8, _, _, _, (W7.2 (W7.1.mpr gd)).mono s8, htp⟩
      · have g2f : g2 = false := by
          cases g2 with
          | false => rfl
          | true => exact absurd (W7.1.mp rfl) ng
        refine ⟨true, T.xm_InvalidPlane, fun _ a0 ha0 => ⟨⟨rfl, rfl, T.ec_InvalidPlane⟩, ?_⟩, fun z => Bool.noConfusion z⟩
        have S8 := S7.mono s8
        rw [g2f]
        refine ⟨_, rfl, _, .ref T.f_InvalidPlane, true, rfl, fun u r => r, T.ki_InvalidPlane, _, rfl, iteT ⟨_, rfl, false, rfl, _, rfl, iteT ⟨_, rfl, _, rfl, _, rfl, _, rfl, pa, el, ul, ts.length, es.map cE, iT ts, exs, uys, rfl, hpl.up s8, S8.e, S8.ep, S8.u, tun_tui S8.up, by omega, by omega, fun H9 s9 => q H9⟩⟩⟩
  rintro σ H8 ⟨tp, y20, rfl, hg2, S8, hpl8, n', es', tss', hwa, htp⟩
  obtain ⟨e2, u2, exs2, uys2, kwa, he2, hp2, hu2, hup2, le2, lu2⟩ := hwa
  refine ⟨_, rfl, g2, rfl, ?_⟩
  rw [hg2]
  refine iteT ⟨_, rfl, _, rfl, wa, _, _, _, rfl, rfl, kwa, atI_nat (j := 0) rfl, _, rfl, wa, _, _, _, rfl, rfl, kwa, atI_nat (j := 1) rfl, _, rfl, wa, _, _, _, rfl, rfl, kwa, atI_nat (j := 2) rfl, tp, e2, u2, n', es', tss', exs2, uys2, rfl, htp, he2, hp2, hu2, hup2, le2, lu2, fun H9 s9 => ?_⟩
  have S9 := S8.mono s9
  exact ⟨_, rfl, iteT ⟨_, rfl, _, rfl, _, rfl, _, rfl, pa, el, ul, ts.length, es.map cE, iT ts, exs, uys, rfl, hpl8.up s9, S9.e, S9.ep, S9.u, tun_tui S9.up, by omega, by omega, fun H10 s10 => q H10⟩⟩
theorem tabG0 {H : Hp} {p : Addr} (h : H p = some (.tbl #[])) : GxR.TabG H p := ⟨#[], h, by simp [TriplesOk]⟩
end
theorem all_mk {l : PySem.W.OpenLaw} {q : Program} {w : World} {K : PySem.W.Frag} {h : Heap} {mg : Str → Option Value} {fa : Addr} (X : K.In h) (G : h.Ns mainGlobals mg) (hfa : mg "law" = some (.ref fa)) (AT : LamX.AllTab q K h)
    {f0 C_Plane c0 P0 f1 f2 f3 f4 f5 f6 f7 f8 f9 f10 f11 f12 f13 f14 f15 f16 X_FieldError X_InvalidPlane : Addr}
    {oc0 kV0 dc0 pm0 ct0 ge0 oc1 kV1 dc1 pm1 ct1 cd1 oc2 kV2 dc2 pm2 ct2 cd2 oc3 kV3 dc3 pm3 ct3 cd3 oc4 kV4 dc4 pm4 ct4 cd4 oc5 kV5 dc5 pm5 ct5 cd5 oc6 kV6 dc6 pm6 ct6 cd6 oc7 kV7 dc7 pm7 ct7 cd7 oc8 kV8 dc8 pm8 ct8 cd8 oc9 kV9 dc9 pm9 ct9 cd9 oc10 kV10 dc10 pm10 ct10 cd10 oc11 kV11 dc11 pm11 ct11 cd11 oc12 kV12 dc12 pm12 ct12 cd12 oc13 kV13 dc13 pm13 ct13 cd13 oc14 kV14 dc14 pm14 ct14 cd14 oc15 kV15 dc15 pm15 ct15 cd15 oc16 kV16 dc16 pm16 ct16 cd16 : Value}
    {od0 an0 gd0 od1 an1 od2 an2 od3 an3 od4 an4 od5 an5 od6 an6 od7 an7 od8 an8 od9 an9 od10 an10 od11 an11 od12 an12 od13 an13 od14 an14 od15 an15 od16 an16 : Option Addr}
    {sl0 gs0 sl1 sl2 sl3 sl4 sl5 sl6 sl7 sl8 sl9 sl10 sl11 sl12 sl13 sl14 sl15 sl16 : Array (Option Value)}
    {gv0 : Array Value}
    {tk_MOST_VERTICES tk_MOST_EDGES : Tok}
    (ac_Plane : PySem.W.nsIn K mainGlobals "Plane" = some (some (.ref C_Plane)))
    (a0 : PySem.W.findIn K (.ref C_Plane) "__init__" = some (some (.ref f0)))
    (i0 : PySem.W.isFn K (.ref f0) = true)
    (l0 : K.lookup f0 = some ⟨oc0, od0, .func (PySem.W.fnOf "__init__" "Plane.__init__" (defArgs s_Plane_init) (defBody s_Plane_init) (defScope s_Plane_init) .none kV0 dc0 pm0 an0 (.ref c0) ct0), sl0⟩)
    (x0 : PySem.W.codeIn K (.ref c0) "Plane.__init__" = true)
    (k0 : PySem.W.keepIn K (.ref f0) = true)
    (h0 : K.lookup c0 = some ⟨ge0, gd0, .fields gv0, gs0⟩)
    (v0 : gv0[11]? = some (.ref P0))
    (n0 : K.lookup P0 = none)
    (e0 : PySem.W.codeHdIn K c0 P0 = true)
    (t0 : h.get? P0 = some { cls := .none, data := .fields #[] })
    (a1 : PySem.W.nsIn K mainGlobals "_check_edges" = some (some (.ref f1)))
    (l1 : K.lookup f1 = some ⟨oc1, od1, .func (PySem.W.fnOf "_check_edges" "_check_edges" (defArgs s_check_edges) (defBody s_check_edges) (defScope s_check_edges) .none kV1 dc1 pm1 an1 cd1 ct1), sl1⟩)
    (x1 : PySem.W.codeIn K cd1 "_check_edges" = true)
    (k1 : PySem.W.keepIn K (.ref f1) = true)
    (a2 : PySem.W.nsIn K mainGlobals "_check_turns" = some (some (.ref f2)))
    (l2 : K.lookup f2 = some ⟨oc2, od2, .func (PySem.W.fnOf "_check_turns" "_check_turns" (defArgs s_check_turns) (defBody s_check_turns) (defScope s_check_turns) .none kV2 dc2 pm2 an2 cd2 ct2), sl2⟩)
    (x2 : PySem.W.codeIn K cd2 "_check_turns" = true)
    (k2 : PySem.W.keepIn K (.ref f2) = true)
    (a3 : PySem.W.nsIn K mainGlobals "_check_together" = some (some (.ref f3)))
    (l3 : K.lookup f3 = some ⟨oc3, od3, .func (PySem.W.fnOf "_check_together" "_check_together" (defArgs s_check_together) (defBody s_check_together) (defScope s_check_together) .none kV3 dc3 pm3 an3 cd3 ct3), sl3⟩)
    (x3 : PySem.W.codeIn K cd3 "_check_together" = true)
    (k3 : PySem.W.keepIn K (.ref f3) = true)
    (a4 : PySem.W.nsIn K mainGlobals "faces" = some (some (.ref f4)))
    (l4 : K.lookup f4 = some ⟨oc4, od4, .func (PySem.W.fnOf "faces" "faces" (defArgs s_faces) (defBody s_faces) (defScope s_faces) .none kV4 dc4 pm4 an4 cd4 ct4), sl4⟩)
    (x4 : PySem.W.codeIn K cd4 "faces" = true)
    (k4 : PySem.W.keepIn K (.ref f4) = true)
    (a5 : PySem.W.nsIn K mainGlobals "with_leaf" = some (some (.ref f5)))
    (l5 : K.lookup f5 = some ⟨oc5, od5, .func (PySem.W.fnOf "with_leaf" "with_leaf" (defArgs s_with_leaf) (defBody s_with_leaf) (defScope s_with_leaf) .none kV5 dc5 pm5 an5 cd5 ct5), sl5⟩)
    (x5 : PySem.W.codeIn K cd5 "with_leaf" = true)
    (k5 : PySem.W.keepIn K (.ref f5) = true)
    (a6 : PySem.W.nsIn K mainGlobals "with_edge" = some (some (.ref f6)))
    (l6 : K.lookup f6 = some ⟨oc6, od6, .func (PySem.W.fnOf "with_edge" "with_edge" (defArgs s_with_edge) (defBody s_with_edge) (defScope s_with_edge) .none kV6 dc6 pm6 an6 cd6 ct6), sl6⟩)
    (x6 : PySem.W.codeIn K cd6 "with_edge" = true)
    (k6 : PySem.W.keepIn K (.ref f6) = true)
    (a7 : PySem.W.nsIn K mainGlobals "_with_dart" = some (some (.ref f7)))
    (l7 : K.lookup f7 = some ⟨oc7, od7, .func (PySem.W.fnOf "_with_dart" "_with_dart" (defArgs s_with_dart) (defBody s_with_dart) (defScope s_with_dart) .none kV7 dc7 pm7 an7 cd7 ct7), sl7⟩)
    (x7 : PySem.W.codeIn K cd7 "_with_dart" = true)
    (k7 : PySem.W.keepIn K (.ref f7) = true)
    (a8 : PySem.W.nsIn K mainGlobals "_law_cell" = some (some (.ref f8)))
    (l8 : K.lookup f8 = some ⟨oc8, od8, .func (PySem.W.fnOf "_law_cell" "_law_cell" (defArgs s_law_cell) (defBody s_law_cell) (defScope s_law_cell) .none kV8 dc8 pm8 an8 cd8 ct8), sl8⟩)
    (x8 : PySem.W.codeIn K cd8 "_law_cell" = true)
    (k8 : PySem.W.keepIn K (.ref f8) = true)
    (a9 : PySem.W.nsIn K mainGlobals "_law_mix" = some (some (.ref f9)))
    (l9 : K.lookup f9 = some ⟨oc9, od9, .func (PySem.W.fnOf "_law_mix" "_law_mix" (defArgs s_law_mix) (defBody s_law_mix) (defScope s_law_mix) .none kV9 dc9 pm9 an9 cd9 ct9), sl9⟩)
    (x9 : PySem.W.codeIn K cd9 "_law_mix" = true)
    (k9 : PySem.W.keepIn K (.ref f9) = true)
    (a10 : PySem.W.nsIn K mainGlobals "_law_faces" = some (some (.ref f10)))
    (l10 : K.lookup f10 = some ⟨oc10, od10, .func (PySem.W.fnOf "_law_faces" "_law_faces" (defArgs s_law_faces) (defBody s_law_faces) (defScope s_law_faces) .none kV10 dc10 pm10 an10 cd10 ct10), sl10⟩)
    (x10 : PySem.W.codeIn K cd10 "_law_faces" = true)
    (k10 : PySem.W.keepIn K (.ref f10) = true)
    (a11 : PySem.W.nsIn K mainGlobals "_law_place" = some (some (.ref f11)))
    (l11 : K.lookup f11 = some ⟨oc11, od11, .func (PySem.W.fnOf "_law_place" "_law_place" (defArgs s_law_place) (defBody s_law_place) (defScope s_law_place) .none kV11 dc11 pm11 an11 cd11 ct11), sl11⟩)
    (x11 : PySem.W.codeIn K cd11 "_law_place" = true)
    (k11 : PySem.W.keepIn K (.ref f11) = true)
    (a12 : PySem.W.nsIn K mainGlobals "_law_owner" = some (some (.ref f12)))
    (l12 : K.lookup f12 = some ⟨oc12, od12, .func (PySem.W.fnOf "_law_owner" "_law_owner" (defArgs s_law_owner) (defBody s_law_owner) (defScope s_law_owner) .none kV12 dc12 pm12 an12 cd12 ct12), sl12⟩)
    (x12 : PySem.W.codeIn K cd12 "_law_owner" = true)
    (k12 : PySem.W.keepIn K (.ref f12) = true)
    (a13 : PySem.W.nsIn K mainGlobals "_law_plane" = some (some (.ref f13)))
    (l13 : K.lookup f13 = some ⟨oc13, od13, .func (PySem.W.fnOf "_law_plane" "_law_plane" (defArgs s_law_plane) (defBody s_law_plane) (defScope s_law_plane) .none kV13 dc13 pm13 an13 cd13 ct13), sl13⟩)
    (x13 : PySem.W.codeIn K cd13 "_law_plane" = true)
    (k13 : PySem.W.keepIn K (.ref f13) = true)
    (a14 : PySem.W.nsIn K mainGlobals "_law_put" = some (some (.ref f14)))
    (l14 : K.lookup f14 = some ⟨oc14, od14, .func (PySem.W.fnOf "_law_put" "_law_put" (defArgs s_law_put) (defBody s_law_put) (defScope s_law_put) .none kV14 dc14 pm14 an14 cd14 ct14), sl14⟩)
    (x14 : PySem.W.codeIn K cd14 "_law_put" = true)
    (k14 : PySem.W.keepIn K (.ref f14) = true)
    (a15 : PySem.W.nsIn K mainGlobals "_law_same" = some (some (.ref f15)))
    (l15 : K.lookup f15 = some ⟨oc15, od15, .func (PySem.W.fnOf "_law_same" "_law_same" (defArgs s_law_same) (defBody s_law_same) (defScope s_law_same) .none kV15 dc15 pm15 an15 cd15 ct15), sl15⟩)
    (x15 : PySem.W.codeIn K cd15 "_law_same" = true)
    (k15 : PySem.W.keepIn K (.ref f15) = true)
    (a16 : PySem.W.nsIn K mainGlobals "law" = some (some (.ref f16)))
    (l16 : K.lookup f16 = some ⟨oc16, od16, .func (PySem.W.fnOf "law" "law" (defArgs s_law) (defBody s_law) (defScope s_law) .none kV16 dc16 pm16 an16 cd16 ct16), sl16⟩)
    (x16 : PySem.W.codeIn K cd16 "law" = true)
    (k16 : PySem.W.keepIn K (.ref f16) = true)
    (n_MOST_VERTICES : PySem.W.nsIn K mainGlobals "MOST_VERTICES" = some (some (.int 100 tk_MOST_VERTICES)))
    (n_MOST_EDGES : PySem.W.nsIn K mainGlobals "MOST_EDGES" = some (some (.int 160 tk_MOST_EDGES)))
    (ax_FieldError : PySem.W.nsIn K mainGlobals "FieldError" = some (some (.ref X_FieldError)))
    (q_FieldError : PySem.W.excIn K X_FieldError veB "ValueError.__new__" = true)
    (kx_FieldError : PySem.W.keepIn K (.ref X_FieldError) = true)
    (bx_FieldError : PySem.W.subIn K (.ref X_FieldError) (.type "BaseException") = some true)
    (yx_FieldError : PySem.W.typeIn K (.ref X_FieldError) = some (.type "type"))
    (ax_InvalidPlane : PySem.W.nsIn K mainGlobals "InvalidPlane" = some (some (.ref X_InvalidPlane)))
    (q_InvalidPlane : PySem.W.excIn K X_InvalidPlane veB "ValueError.__new__" = true)
    (kx_InvalidPlane : PySem.W.keepIn K (.ref X_InvalidPlane) = true)
    (bx_InvalidPlane : PySem.W.subIn K (.ref X_InvalidPlane) (.type "BaseException") = some true)
    (yx_InvalidPlane : PySem.W.typeIn K (.ref X_InvalidPlane) = some (.type "type"))
    (pg_Plane : PySem.W.plainGet K C_Plane Str.empty = true)
    (hd_Plane : PySem.W.hasDictIn K C_Plane = true)
    (po_Plane : PySem.W.plainOver K C_Plane = true)
    (sa_Plane : PySem.W.findIn K (.ref C_Plane) "__setattr__" = some (some (.builtin "object.__setattr__")))
    (mk_Plane : PySem.W.makesIn K C_Plane = true)
    (kc_Plane : PySem.W.keepIn K (.ref C_Plane) = true)
    (na_Plane_count : PySem.W.findIn K (.ref C_Plane) "count" = some none)
    (na_Plane_edges : PySem.W.findIn K (.ref C_Plane) "edges" = some none)
    (na_Plane_turns : PySem.W.findIn K (.ref C_Plane) "turns" = some none)
    (z_abs : PySem.W.nsIn K mainGlobals "abs" = some none)
    (z_enumerate : PySem.W.nsIn K mainGlobals "enumerate" = some none)
    (z_int : PySem.W.nsIn K mainGlobals "int" = some none)
    (z_isinstance : PySem.W.nsIn K mainGlobals "isinstance" = some none)
    (z_len : PySem.W.nsIn K mainGlobals "len" = some none)
    (z_list : PySem.W.nsIn K mainGlobals "list" = some none)
    (z_range : PySem.W.nsIn K mainGlobals "range" = some none)
    (z_sorted : PySem.W.nsIn K mainGlobals "sorted" = some none)
    (z_tuple : PySem.W.nsIn K mainGlobals "tuple" = some none)
    (z_zip : PySem.W.nsIn K mainGlobals "zip" = some none)
    (xm_InvalidPlane : PySem.W.exmOne K (.ref X_InvalidPlane) (.ref X_FieldError) = some true)
    (ki_InvalidPlane : PySem.W.kitOne K (.ref X_InvalidPlane) (.ref X_InvalidPlane) = some true)
    (ehg_InvalidPlane : PySem.W.findIn K (.ref X_InvalidPlane) "__getattribute__" = some (some (.builtin "BaseException.__getattribute__")))
    (ehk_InvalidPlane : PySem.W.findIn K (.ref X_InvalidPlane) "__getattr__" = some none)
    (ehd_InvalidPlane : PySem.W.hasDictIn K X_InvalidPlane = true)
    (eha_InvalidPlane : PySem.W.findIn K (.ref X_InvalidPlane) "__class__" = some (some (.builtin "object.__class__")))
    (ehn_InvalidPlane : PySem.W.specialIn K (.builtin "object.__class__") "__get__" = some (some (.builtin "getset_descriptor.__get__")))
    (eht_InvalidPlane : PySem.W.takesIn K (.builtin "object.__class__") = some true)
    (ehm_InvalidPlane : PySem.W.mroIn K X_InvalidPlane (.type "object") = some true) :
    LamX.LawAtS l w K CX0 8 63 "script" mg fa h := by
  have e := hfa.symm.trans (PySem.W.mg_of X G a16)
  cases e
  have F0 := funC_mk (st := s_Plane_init) l0 x0 k0
  have b0 := F0.binds (ps := ["self", "count", "edges", "turns"]) fun _ _ _ _ _ _ us hl => match us, hl with | [_, _, _, _], _ => rfl
  have F1 := fun_mk (st := s_check_edges) l1 x1 k1
  have b1 := F1.binds (ps := ["count", "edges"]) fun _ _ _ _ _ _ us hl => match us, hl with | [_, _], _ => rfl
  have F2 := fun_mk (st := s_check_turns) l2 x2 k2
  have b2 := F2.binds (ps := ["count", "edges", "turns"]) fun _ _ _ _ _ _ us hl => match us, hl with | [_, _, _], _ => rfl
  have F3 := fun_mk (st := s_check_together) l3 x3 k3
  have b3 := F3.binds (ps := ["count", "edges"]) fun _ _ _ _ _ _ us hl => match us, hl with | [_, _], _ => rfl
  have F4 := fun_mk (st := s_faces) l4 x4 k4
  have b4 := F4.binds (ps := ["plane"]) fun _ _ _ _ _ _ us hl => match us, hl with | [_], _ => rfl
  have F5 := fun_mk (st := s_with_leaf) l5 x5 k5
  have b5 := F5.binds (ps := ["plane", "vertex", "place"]) fun _ _ _ _ _ _ us hl => match us, hl with | [_, _, _], _ => rfl
  have F6 := fun_mk (st := s_with_edge) l6 x6 k6
  have b6 := F6.binds (ps := ["plane", "first", "place", "second", "other"]) fun _ _ _ _ _ _ us hl => match us, hl with | [_, _, _, _, _], _ => rfl
  have F7 := fun_mk (st := s_with_dart) l7 x7 k7
  have b7 := F7.binds (ps := ["turns", "vertex", "place", "dart"]) fun _ _ _ _ _ _ us hl => match us, hl with | [_, _, _, _], _ => rfl
  have F8 := fun_mk (st := s_law_cell) l8 x8 k8
  have b8 := F8.binds (ps := ["script", "k"]) fun _ _ _ _ _ _ us hl => match us, hl with | [_, _], _ => rfl
  have F9 := fun_mk (st := s_law_mix) l9 x9 k9
  have b9 := F9.binds (ps := ["cell", "k"]) fun _ _ _ _ _ _ us hl => match us, hl with | [_, _], _ => rfl
  have F10 := fun_mk (st := s_law_faces) l10 x10 k10
  have b10 := F10.binds (ps := ["edges", "turns"]) fun _ _ _ _ _ _ us hl => match us, hl with | [_, _], _ => rfl
  have F11 := fun_mk (st := s_law_place) l11 x11 k11
  have b11 := F11.binds (ps := ["turns", "vertex", "dart"]) fun _ _ _ _ _ _ us hl => match us, hl with | [_, _, _], _ => rfl
  have F12 := fun_mk (st := s_law_owner) l12 x12 k12
  have b12 := F12.binds (ps := ["turns", "dart"]) fun _ _ _ _ _ _ us hl => match us, hl with | [_, _], _ => rfl
  have F13 := fun_mk (st := s_law_plane) l13 x13 k13
  have b13 := F13.binds (ps := ["script", "first", "most", "vertices"]) fun _ _ _ _ _ _ us hl => match us, hl with | [_, _, _, _], _ => rfl
  have F14 := fun_mk (st := s_law_put) l14 x14 k14
  have b14 := F14.binds (ps := ["turns", "vertex", "place", "dart"]) fun _ _ _ _ _ _ us hl => match us, hl with | [_, _, _, _], _ => rfl
  have F15 := fun_mk (st := s_law_same) l15 x15 k15
  have b15 := F15.binds (ps := ["plane", "count", "edges", "turns"]) fun _ _ _ _ _ _ us hl => match us, hl with | [_, _, _, _], _ => rfl
  have F16 := fun_mk (st := s_law) l16 x16 k16
  let T : Top K mg := ⟨f1, _, F1, b1, PySem.W.mg_of X G a1, f2, _, F2, b2, PySem.W.mg_of X G a2, f3, _, F3, b3, PySem.W.mg_of X G a3, f4, _, F4, b4, PySem.W.mg_of X G a4, f5, _, F5, b5, PySem.W.mg_of X G a5, f6, _, F6, b6, PySem.W.mg_of X G a6, f7, _, F7, b7, PySem.W.mg_of X G a7, f8, _, F8, b8, PySem.W.mg_of X G a8, f9, _, F9, b9, PySem.W.mg_of X G a9, f10, _, F10, b10, PySem.W.mg_of X G a10, f11, _, F11, b11, PySem.W.mg_of X G a11, f12, _, F12, b12, PySem.W.mg_of X G a12, f13, _, F13, b13, PySem.W.mg_of X G a13, f14, _, F14, b14, PySem.W.mg_of X G a14, f15, _, F15, b15, PySem.W.mg_of X G a15, tk_MOST_VERTICES, PySem.W.mg_of X G n_MOST_VERTICES, tk_MOST_EDGES, PySem.W.mg_of X G n_MOST_EDGES, X_FieldError, PySem.W.mg_of X G ax_FieldError, q_FieldError, kx_FieldError, bx_FieldError, yx_FieldError, X_InvalidPlane, PySem.W.mg_of X G ax_InvalidPlane, q_InvalidPlane, kx_InvalidPlane, bx_InvalidPlane, yx_InvalidPlane, C_Plane, PySem.W.mg_of X G ac_Plane, ⟨pg_Plane, hd_Plane, po_Plane, sa_Plane⟩, f0, _, c0, P0, F0, b0, ⟨mk_Plane, a0, i0, kc_Plane⟩, na_Plane_count, na_Plane_edges, na_Plane_turns, PySem.W.mg_none_of X G z_abs, PySem.W.mg_none_of X G z_enumerate, PySem.W.mg_none_of X G z_int, PySem.W.mg_none_of X G z_isinstance, PySem.W.mg_none_of X G z_len, PySem.W.mg_none_of X G z_list, PySem.W.mg_none_of X G z_range, PySem.W.mg_none_of X G z_sorted, PySem.W.mg_none_of X G z_tuple, PySem.W.mg_none_of X G z_zip, xm_InvalidPlane, ki_InvalidPlane, ⟨ehg_InvalidPlane, ehk_InvalidPlane, bx_InvalidPlane, ehd_InvalidPlane, eha_InvalidPlane, ehn_InvalidPlane, eht_InvalidPlane, ehm_InvalidPlane⟩⟩
  refine ⟨_, [(c0, P0)], spLaw T, ?_, ?_, ?_, fun s u => .of_eq rfl, fun H a ns hl hb ht hS => law_in T H a ns hl hb ⟨tabG0 (ht (c0, P0) (by simp))⟩ hS, fun base _ _ tb => ok_law F16 T ⟨tb (c0, P0) (by simp)⟩⟩
  · intro p hp
    obtain rfl := List.mem_singleton.mp hp
    exact t0
  · intro p hp
    obtain rfl := List.mem_singleton.mp hp
    exact n0
  · intro p hp
    obtain rfl := List.mem_singleton.mp hp
    exact PySem.W.codeHd_of_K X e0
end KP
open PySem PySem.W PyProof.Rows
local macro_rules | `(tactic| o_head ($f:ident $k $a $e)) => `(tactic| o_head (kmHook $k $a $e [48]))
set_option maxHeartbeats 0 in
theorem PySem.Challenge.cw_spinfield_k17_more_edges_holds : PySem.Challenge.rw_spinfield_k17_more_edges.Holds := by
  w_on; o_law; k_head; (case hw => w_witness2)
  k_fill
  refine LamX.walk_ofAll (l := PySem.Challenge.rw_spinfield_k17_more_edges) (n := 63) (k := 8) (x := "script") (CX := fun _ => L2.CX0) rfl (by decide) rfl ⟨rfl, by decide, by decide⟩ (fun w h Y => PySem.W.km_in_of Y) ?F (fun _ _ _ _ _ h => h)
  case F =>
    intro w mg fa h Y KX G hmg AT
    refine' KP.all_mk KX G hmg AT ?ac_Plane ?a0 ?i0 ?l0 ?x0 ?k0 ?h0 ?v0 ?n0 ?e0 ?t0 ?a1 ?l1 ?x1 ?k1 ?a2 ?l2 ?x2 ?k2 ?a3 ?l3 ?x3 ?k3 ?a4 ?l4 ?x4 ?k4 ?a5 ?l5 ?x5 ?k5 ?a6 ?l6 ?x6 ?k6 ?a7 ?l7 ?x7 ?k7 ?a8 ?l8 ?x8 ?k8 ?a9 ?l9 ?x9 ?k9 ?a10 ?l10 ?x10 ?k10 ?a11 ?l11 ?x11 ?k11 ?a12 ?l12 ?x12 ?k12 ?a13 ?l13 ?x13 ?k13 ?a14 ?l14 ?x14 ?k14 ?a15 ?l15 ?x15 ?k15 ?a16 ?l16 ?x16 ?k16 ?n_MOST_VERTICES ?n_MOST_EDGES ?ax_FieldError ?q_FieldError ?kx_FieldError ?bx_FieldError ?yx_FieldError ?ax_InvalidPlane ?q_InvalidPlane ?kx_InvalidPlane ?bx_InvalidPlane ?yx_InvalidPlane ?pg_Plane ?hd_Plane ?po_Plane ?sa_Plane ?mk_Plane ?kc_Plane ?na_Plane_count ?na_Plane_edges ?na_Plane_turns ?z_abs ?z_enumerate ?z_int ?z_isinstance ?z_len ?z_list ?z_range ?z_sorted ?z_tuple ?z_zip ?xm_InvalidPlane ?ki_InvalidPlane ?ehg_InvalidPlane ?ehk_InvalidPlane ?ehd_InvalidPlane ?eha_InvalidPlane ?ehn_InvalidPlane ?eht_InvalidPlane ?ehm_InvalidPlane
    (case ac_Plane => k_is); (case a0 => k_is); (case i0 => k_is); (case l0 => k_is); (case x0 => k_is); (case k0 => k_is); (case h0 => k_is); (case v0 => exact rfl); (case n0 => kernel_rfl); (case e0 => kernel_rfl); (case t0 => exact PySem.W.km_tabs_of Y 48 (by simp)); (case a1 => k_is); (case l1 => k_is); (case x1 => k_is); (case k1 => k_is); (case a2 => k_is); (case l2 => k_is); (case x2 => k_is); (case k2 => k_is); (case a3 => k_is); (case l3 => k_is); (case x3 => k_is); (case k3 => k_is); (case a4 => k_is); (case l4 => k_is); (case x4 => k_is); (case k4 => k_is); (case a5 => k_is); (case l5 => k_is); (case x5 => k_is); (case k5 => k_is); (case a6 => k_is); (case l6 => k_is); (case x6 => k_is); (case k6 => k_is); (case a7 => k_is); (case l7 => k_is); (case x7 => k_is); (case k7 => k_is); (case a8 => k_is); (case l8 => k_is); (case x8 => k_is); (case k8 => k_is); (case a9 => k_is); (case l9 => k_is); (case x9 => k_is); (case k9 => k_is); (case a10 => k_is); (case l10 => k_is); (case x10 => k_is); (case k10 => k_is); (case a11 => k_is); (case l11 => k_is); (case x11 => k_is); (case k11 => k_is); (case a12 => k_is); (case l12 => k_is); (case x12 => k_is); (case k12 => k_is); (case a13 => k_is); (case l13 => k_is); (case x13 => k_is); (case k13 => k_is); (case a14 => k_is); (case l14 => k_is); (case x14 => k_is); (case k14 => k_is); (case a15 => k_is); (case l15 => k_is); (case x15 => k_is); (case k15 => k_is); (case a16 => k_is); (case l16 => k_is); (case x16 => k_is); (case k16 => k_is); (case n_MOST_VERTICES => k_is); (case n_MOST_EDGES => k_is); (case ax_FieldError => k_is); (case q_FieldError => kernel_rfl); (case kx_FieldError => k_is); (case bx_FieldError => k_is); (case yx_FieldError => k_is); (case ax_InvalidPlane => k_is); (case q_InvalidPlane => kernel_rfl); (case kx_InvalidPlane => k_is); (case bx_InvalidPlane => k_is); (case yx_InvalidPlane => k_is); (case pg_Plane => k_is); (case hd_Plane => k_is); (case po_Plane => k_is); (case sa_Plane => k_is); (case mk_Plane => k_is); (case kc_Plane => k_is); (case na_Plane_count => k_is); (case na_Plane_edges => k_is); (case na_Plane_turns => k_is); (case z_abs => k_is); (case z_enumerate => k_is); (case z_int => k_is); (case z_isinstance => k_is); (case z_len => k_is); (case z_list => k_is); (case z_range => k_is); (case z_sorted => k_is); (case z_tuple => k_is); (case z_zip => k_is); (case xm_InvalidPlane => kernel_rfl); (case ki_InvalidPlane => kernel_rfl); (case ehg_InvalidPlane => k_is); (case ehk_InvalidPlane => k_is); (case ehd_InvalidPlane => k_is); (case eha_InvalidPlane => k_is); (case ehn_InvalidPlane => k_is); (case eht_InvalidPlane => k_is); (case ehm_InvalidPlane => k_is)
