import PyProof.Rows.All
import Wide.All
import OpenK.AllK
import Wide.FinOn
import HandS.ForMost
import HandS.AnyAll
import HandS.GenList
import HandS.EndTab
import PyProof.TupleOfGen
import HandS.SortRule
import HandS.Conv
import HandS.NamedTupSort
import KE.KSortTup
import HandS.EndOwn
import HandS.EndBits
import HandS.Zip
import HandS.TupLe
import HandS.ForExc
import HandS.ExcIs
import HandS.Style
import HandS.TupAny
import HandS.IsInst
import HandS.CallLocal
import HandS.Wide
import HandS.Codes
import HandS.DictComp
import KE.KBits
import PyProof.SumWalkG
import KE.GoesEnum
import PyProof.Walks
import PyProof.MinMaxWalk
import HandS.TupSets
import HandS.Deep
import HandS.Text
import HandS.Gcd
import HandS.TupMul
import KE.KDictDisplayH
import HandS.TupLen
import KE.KDictWalk
import KE.KPairComp
import HandS.DictTup
import HandS.ExcCtx
import HandS.HotCalls
import HandS.SetFor
import HandS.Strs
import KE.GoesZip
import KE.GoesMore
import KE.KMathGC
import PySem.Challenge.RW_spinfield_k09_transfer
set_option Elab.async false
set_option linter.all false
set_option maxRecDepth 100000
set_option maxHeartbeats 4000000
/-! Generator expressions over the layer: the generator's own frame as a context, its turns, what wakes it. -/
namespace GXP
open PySem PySem.Spec PyProof.Rows L2
/-- the generator's frame while its consumer stands at A -/
abbrev gcx (X : Cx) (A : Around) (s : Shared) (H : Hp) (ce : Env) (fp : List Addr) : Cx :=
  { X with A := A, s_0 := s, H_0 := H, env := ce, outer := X.stack, stack := ce :: X.stack, ex := fp, fn := fun _ => false, calm := true, pn := [], xe := fun _ _ => False }
/-- the cells of the frame that are taken over -/
theorem clo_look {cells : List (Str × Addr)} {names : List (Str × NameKind)} (hf : ∀ y ∈ names, y.2 = .free → ∃ c, cells.lookup y.1 = some c) {y : Str} {c : Addr} (e : (cloFrom cells names []).lookup y = some c) : cells.lookup y = some c ∧ (y, NameKind.free) ∈ names := by
  rcases cloFrom_mem (PySem.mem_of_lookup e) with z | ⟨z, rfl⟩
  · cases z
  · obtain ⟨d, hd⟩ := hf _ z rfl
    have hd : cells.lookup y = some d := hd
    rw [hd]
    exact ⟨rfl, z⟩
theorem gcx_start {X : Cx} {pins : List (Addr × Obj)} {σ : L2.St} {H : Hp} {s s5 : Shared} {A : Around} {ce : Env} {scope : Scope} {own : List (Str × Nat)} {fp : List Addr} {m0 : Str → Option Value}
    (I : Inv X pins σ H s) (ok : BlkOk X.N X.env.scope scope own) (hN : X.N.Nodup) (nocell : ∀ y ∈ scope.names, y.2 ≠ .cell) (hfp : ∀ b ∈ fp, FpOk X pins H b ∧ b < s.heap.objs.size)
    (hsc : ce.scope = scope) (hL : ce.locals = s.heap.objs.size) (hgl : ce.globals = mainGlobals) (hbl : ce.builtins = builtinsNs) (hcl : ce.cells = cloFrom X.env.cells scope.names []) (hfr : ce.frame = some ce.locals)
    (hA : A.frames = some (ce :: X.stack)) (hh : A.handled = none) (kp : ∀ b o, s.heap.get? b = some o → s5.heap.get? b = some o) (ns : s5.heap.Ns ce.locals m0) (hos : s5.os = s.os) (hb : AllBare s5.gens) :
    Inv (gcx X A s H ce fp) [] (wipe σ (own.map (·.2))) H s5 := by
  have hfree : ∀ y ∈ scope.names, y.2 = .free → ∃ c, X.env.cells.lookup y.1 = some c := fun y hy e => (ok.free y hy e).elim (fun k => I.ok.has _ (.inl k)) (fun k => I.ok.has _ (.inr k))
  have look : ∀ {y c}, ce.cells.lookup y = some c → X.env.cells.lookup y = some c ∧ (y, NameKind.free) ∈ scope.names := fun {y c} e => clo_look hfree (by rw [← hcl]; exact e)
  have cellLt : ∀ {y c}, X.env.cells.lookup y = some c → c < s.heap.objs.size := fun {y c} e => let ⟨_, z⟩ := I.cell y c e; z.lt
  have freeHas : ∀ {y}, scope.names.lookup y = some .free → ∃ c, ce.cells.lookup y = some c ∧ X.env.cells.lookup y = some c := fun {y} e => by
    obtain ⟨c, hc⟩ := mem_lookup (cloFrom_has (cells := X.env.cells) (acc := []) (PySem.mem_of_lookup e))
    rw [← hcl] at hc
    exact ⟨c, hc, (look hc).1⟩
  have okG : (gcx X A s H ce fp).Ok := by
    refine { mod := I.ok.mod, kind := ?kd, glob := hgl, blt := hbl, above := Nat.le_of_eq hL.symm, inj := ?inj, has := ?has, cab := fun _ _ z _ => (by cases z), hd := fun _ => hh, frames := hA, stk := .inr ⟨rfl, hfr⟩, exf := ?exf, bs := I.bs, bsz := Nat.le_trans I.ok.bsz I.sz, noex := ?noex, exfs := ?exfs, funs := I.stack, frf := I.stkFree }
    case kd =>
      show ce.scope.kind = _
      rw [hsc]
      exact ok.kind
    case inj => exact fun y z c e1 e2 => I.ok.inj y z c (look e1).1 (look e2).1
    case has =>
      intro y hy
      have hy : ce.scope.names.lookup y = some .cell ∨ ce.scope.names.lookup y = some .free := hy
      rw [hsc] at hy
      rcases hy with hy | hy
      · exact absurd rfl (nocell _ (PySem.mem_of_lookup hy))
      · exact let ⟨c, h, _⟩ := freeHas hy; ⟨c, h⟩
    case exf =>
      refine fun b hb => ⟨?_, fun y c e z => (hfp b hb).1.2.2.2.2.1 y c (look e).1 z⟩
      show b ≠ ce.locals
      rw [hL]
      exact Nat.ne_of_lt (hfp b hb).2
    case noex =>
      intro b o e hb
      rcases (hfp b hb).1.2.2.2.1 with z | z
      · exact I.ok.noex b o e z
      · have h1 := Heap.lt_size e
        have h2 := I.ok.bsz
        exact absurd (Nat.lt_of_lt_of_le h1 (Nat.le_trans h2 z)) (Nat.lt_irrefl _)
    case exfs =>
      intro b hb z
      rcases List.mem_cons.mp (I.stkSub b z) with z | z
      · exact (hfp b hb).1.2.1 z
      · exact (hfp b hb).1.2.2.1 z
  refine { ok := okG, os := hos, bare := hb, base := Un.kept kp, loc := ⟨m0, ns, ?loc⟩, cell := ?cell, free := ?free, freeC := fun y c e => I.freeC y c (look e).1, pin := fun p hp => absurd (show p ∈ ([] : List (Addr × Obj)) ++ [] from hp) (by simp), hok := I.hok.kept kp, len := by rw [wipe_length]; exact I.len }
  case loc =>
    intro i y v e1 e2 e3
    obtain ⟨e2, hne⟩ := wipe_some e2
    have e3 : ce.scope.names.lookup y = some .local ∨ ce.scope.names.lookup y = some .cell ∨ ce.scope.names.lookup y = some .free := e3
    rw [hsc] at e3
    have hfr : scope.names.lookup y = some .free := by
      rcases e3 with k | k | k
      · exfalso
        rcases ok.own _ (PySem.mem_of_lookup k) (.inl rfl) with h | h
        · obtain ⟨p, hp, hpy⟩ := List.mem_map.mp h
          have h3 := ok.ix p hp
          have : p.1 = y := hpy
          rw [this] at h3
          exact hne (List.mem_map.mpr ⟨p, hp, nodup_ix hN h3 e1⟩)
        · exact h (List.mem_of_getElem? e1)
      · exact absurd rfl (nocell _ (PySem.mem_of_lookup k))
      · exact k
    obtain ⟨c, h1, h2⟩ := freeHas hfr
    have hvis : Vis X.env.scope y := (ok.free _ (PySem.mem_of_lookup hfr) rfl).elim (fun k => .inr (.inl k)) (fun k => .inr (.inr k))
    obtain ⟨m, hn, hl⟩ := I.loc
    obtain ⟨u, r, q⟩ := hl i y v e1 e2 hvis
    refine ⟨u, r, .inr ⟨.inr (by show ce.scope.names.lookup y = _; rw [hsc]; exact hfr), ?_⟩⟩
    rcases q with ⟨k, _⟩ | ⟨_, d, hd, z⟩
    · have k : X.env.scope.names.lookup y = some .local := k
      rcases ok.free _ (PySem.mem_of_lookup hfr) rfl with k' | k' <;> rw [show X.env.scope.names.lookup y = _ from k'] at k <;> cases k
    · rw [h2] at hd
      cases hd
      exact ⟨c, h1, z.keeps kp⟩
  case cell =>
    intro y c e
    obtain ⟨v, z⟩ := I.cell y c (look e).1
    exact ⟨v, z.keeps kp⟩
  case free =>
    show H ce.locals = none
    rw [hL]
    exact I.hok.fresh (Nat.le_refl _)
/-- while the generator sleeps, its consumer writes at cw alone -/
structure Doz (cw : List Addr) (s s' : Shared) : Prop where
  os : s'.os = s.os
  bare : AllBare s'.gens
  keep : ∀ b o, b ∉ cw → s.heap.get? b = some o → s'.heap.get? b = some o
  there : ∀ b ∈ cw, ∃ o, s'.heap.get? b = some o ∧ ∀ v, o.data ≠ .cell v
/-- what stands at cw is left alone by a turn -/
def KeptAt (cw : List Addr) (s₀ s : Shared) : Prop := ∀ b ∈ cw, ∀ o, s₀.heap.get? b = some o → s.heap.get? b = some o
/-- what a consumer does with an item: the items so far, the item, the heap, and what the generator wants to go on -/
abbrev Cy := List V → V → Hp → (List V → Hp → Prop) → Prop
/-- how the items so far show in what the consumer keeps at cw -/
structure Lnk (cw : List Addr) (Lk : List V → Heap → Prop) : Prop where
  st : ∀ ys h h', Lk ys h → (∀ b ∈ cw, ∀ o, h.get? b = some o → h'.get? b = some o) → Lk ys h'
def GYld (Y : Cx) (gp : List (Addr × Obj)) (cw : List Addr) (Lk : List V → Heap → Prop) (cy : Cy) : Protocol := fun _ s₀ v s kap =>
  ∃ (ys : List V) (y : V) (σ : L2.St) (H : Hp) (Nx : List V → Hp → Prop), Inv Y gp σ H s ∧ RelV y v ∧ KeptAt cw s₀ s ∧ (∀ b ∈ cw, H b = none) ∧ Lk ys s.heap ∧ cy ys y H Nx ∧ ∀ ys', Nx ys' H → ∀ s', Doz cw s s' → Lk ys' s'.heap → kap (.send .none) s'
def GFin (Y : Cx) (gp : List (Addr × Obj)) (cw : List Addr) (Lk : List V → Heap → Prop) (Qe : List V → Hp → Prop) : GenEnd := fun _ s₀ r s =>
  r = .ok .next ∧ ∃ (ys : List V) (σ : L2.St) (H : Hp), Inv Y gp σ H s ∧ KeptAt cw s₀ s ∧ (∀ b ∈ cw, H b = none) ∧ Lk ys s.heap ∧ Qe ys H
/-- the turns of a generator expression: W by the turn, a measure and the items so far -/
def Turns (J : It) (g : TG) (tt : TT) (te : TE) (vs : List Nat) (σ : L2.St) (cy : Cy) (Qe : List V → Hp → Prop) (W : Nat → Nat → List V → Hp → Prop) : Prop :=
  ∀ i m ys H, W i m ys H → (J.stop i H ∧ Qe ys H) ∨ (J.go i H ∧ 0 < m ∧ ∃ Nx : List V → Hp → Prop, (∀ ys' H', Nx ys' H' → ∃ m', m' < m ∧ W (i + 1) m' ys' H') ∧
    ∀ x H', J.yld i H x H' → g x (wipe σ vs) H' fun σ2 H2 => wipe σ2 vs = wipe σ vs ∧ tt σ2 H2 fun b H3 => if b = true then te σ2 H3 fun y H4 => cy ys y H4 Nx else Nx ys H3)
/-- the iterator's and the consumer's objects in the generator's frame -/
structure GPlace (Y : Cx) (gp : List (Addr × Obj)) (fp cw : List Addr) : Prop where
  fx : ∀ b ∈ fp, b ∈ Y.ex ∧ b ≠ Y.env.locals ∧ b ∉ Y.fs ∧ (∀ x c, Y.env.cells.lookup x = some c → c ≠ b) ∧ (∀ p ∈ Y.pn ++ gp, p.1 ≠ b) ∧ b ∉ cw
  cx : ∀ b ∈ cw, Y.s_0.heap.objs.size ≤ b ∧ b ≠ Y.env.locals ∧ b ∉ Y.fs ∧ (∀ x c, Y.env.cells.lookup x = some c → c ≠ b) ∧ ∀ p ∈ Y.pn ++ gp, p.1 ≠ b
theorem GPlace.fpOk {Y : Cx} {gp : List (Addr × Obj)} {fp cw : List Addr} (G : GPlace Y gp fp cw) {s₀ : Shared} {H : Hp} (n : ∀ b ∈ fp, H b = none) : ∀ b ∈ fp, FpOk Y (gp ++ pinsAt cw s₀.heap) H b := fun b hb => by
  obtain ⟨h1, h2, h3, h4, h5, h6⟩ := G.fx b hb
  refine ⟨n b hb, h2, h3, .inl h1, h4, fun p hp => ?_⟩
  rw [← List.append_assoc] at hp
  rcases List.mem_append.mp hp with hp | hp
  · exact h5 p hp
  · intro z
    have h7 := (of_pinsAt hp).1
    rw [z] at h7
    exact h6 h7
/-- the consumer's objects are pinned as they stand -/
theorem GPlace.pin {Y : Cx} {gp : List (Addr × Obj)} {fp cw : List Addr} (G : GPlace Y gp fp cw) {σ : L2.St} {H : Hp} {s : Shared} (I : Inv Y gp σ H s) (n : ∀ b ∈ cw, H b = none) (t : ∀ b ∈ cw, ∃ o, s.heap.get? b = some o ∧ ∀ v, o.data ≠ .cell v) :
    Inv Y (gp ++ pinsAt cw s.heap) σ H s :=
  I.pinned (fun b hb => let ⟨h1, h2, h3, h4, h5⟩ := G.cx b hb; ⟨n b hb, h2, h3, .inr h1, h4, h5⟩) t
theorem kept_of {Y : Cx} {gp pl : List (Addr × Obj)} {cw : List Addr} {σ : L2.St} {H : Hp} {s₀ s : Shared} (I : Inv Y ((gp ++ pinsAt cw s₀.heap) ++ pl) σ H s) : KeptAt cw s₀ s := fun b hb o e =>
  (I.pin (b, o) (List.mem_append_right _ (List.mem_append_left _ (List.mem_append_right _ (mem_pinsAt hb e))))).1
/-- asleep: only cw is written -/
theorem GPlace.doz {Y : Cx} {gp : List (Addr × Obj)} {fp cw : List Addr} (G : GPlace Y gp fp cw) {σ : L2.St} {H : Hp} {s s' : Shared} (I : Inv Y gp σ H s) (n : ∀ b ∈ cw, H b = none) (z : Doz cw s s') : Inv Y gp σ H s' := by
  obtain ⟨z1, z2, z3, _⟩ := z
  have nt : ∀ b u, H b = some u → b ∉ cw := fun b u q hb => by
    rw [n b hb] at q
    cases q
  obtain ⟨hh, g, d, t, o⟩ := s'
  have ho : o = s.os := z1
  subst ho
  refine I.step (g' := g) (t' := t) (d' := d) (ch := cw) (fun b hb => ?_) (fun b ob _ _ hc q _ => z3 b ob hc q) (fun b ob _ _ hc q _ => ⟨ob.slots, z3 b ob hc q⟩) (fun _ _ _ _ k => k) (fun b ob hc q => ⟨ob, z3 b ob hc q⟩) (fun _ _ q => q) (fun _ _ _ q => q)
    (fun b ps q => ⟨#[], by rw [q]; simp⟩) (fun m hm => ?_) (fun b u q => ?_) z2
  · obtain ⟨h1, h2, h3, h4, h5⟩ := G.cx b hb
    exact ⟨.inr h1, h2, h4, h5⟩
  · obtain ⟨ob, es, ep, ho, r⟩ := hm
    exact ⟨ob, es, ep, z3 _ ob (fun hb => (G.cx _ hb).2.1 rfl) ho, r⟩
  · refine (I.hok b u q).stay (fun c v hc y => z3 c v ?_ y) (fun _ y => y) fun _ _ y => y
    rcases hc with y | y
    · rw [y]
      exact nt b u q
    · exact nt c _ y
section
variable {Y : Cx} {Aw : Around} {elt tg iter : Expr} {ifs : List Expr} {scope : Scope} {pos : Pos} {it : Addr} {fp cw : List Addr} {gp : List (Addr × Obj)} {tn : Nat → Heap → Prop} {J : It} {g : TG} {tt : TT} {te : TE} {vs : List Nat} {σ : L2.St} {cy : Cy} {Qe : List V → Hp → Prop} {Lk : List V → Heap → Prop}
  {W : Nat → Nat → List V → Hp → Prop}
abbrev gxE (elt tg iter : Expr) (ifs : List Expr) (scope : Scope) (pos : Pos) : Expr := .GeneratorExp elt [⟨tg, iter, ifs, 0⟩] scope pos
theorem gx_loop (hA : Aw.over (.compLoop (gxE elt tg iter ifs scope pos) 0 (.ref it) .none Y.env) [] = Y.A) (hx : Y.xe = fun _ _ => False) (hco : Y.env.scope.isCoroutine = false) (hc : Y.calm = true)
    (T : Turn Y.prog Y.w Y.K tg J fp it tn) (pg : PG Y tg g) (pt : PTs Y ifs tt) (pe : PE Y elt te) (G : GPlace Y gp fp cw) (hLk : Lnk cw Lk) (hW : Turns J g tt te vs σ cy Qe W) :
    ∀ (m n i : Nat) (ys : List V) (s₀ s : Shared) (H : Hp), m ≤ n → Inv Y (gp ++ pinsAt cw s₀.heap) (wipe σ vs) H s → (∀ b ∈ cw, ∃ o, s₀.heap.get? b = some o) → Lk ys s₀.heap → tn i s.heap → (∀ b ∈ fp, H b = none) → W i m ys H →
      Seg (model Y.prog Y.w) Aw (GFin Y gp cw Lk Qe) (GYld Y gp cw Lk cy) n s₀ (.compLoop (gxE elt tg iter ifs scope pos) 0 (.ref it) .none Y.env) ((model Y.prog Y.w).den (.compLoop (gxE elt tg iter ifs scope pos) 0 (.ref it) .none Y.env)) [] s := by
  have cwn : ∀ {s₀ s : Shared} {pl : List (Addr × Obj)} {σ' : L2.St} {H : Hp}, (∀ b ∈ cw, ∃ o, s₀.heap.get? b = some o) → Inv Y ((gp ++ pinsAt cw s₀.heap) ++ pl) σ' H s → ∀ b ∈ cw, H b = none := fun {s₀ s pl σ' H} h I b hb => by
    obtain ⟨o, e⟩ := h b hb
    exact (I.pin (b, o) (List.mem_append_right _ (List.mem_append_left _ (List.mem_append_right _ (mem_pinsAt hb e))))).2.1
  have nil : ∀ {l : List (Addr × Obj)} {σ' : L2.St} {H : Hp} {s : Shared}, Inv Y l σ' H s → Inv Y (l ++ []) σ' H s := fun {l σ' H s} I => by
    rw [List.append_nil]
    exact I
  intro m
  induction m using Nat.strongRecOn with
  | ind m ih =>
    intro n i ys s₀ s H hmn I hcw lk st nf w
    have fk := G.fpOk (s₀ := s₀) nf
    show Seg _ _ _ _ _ _ _ ((compTurn (gxE elt tg iter ifs scope pos) 0 (.ref it) .none Y.env).onRaise (leaving Y.env)) [] s
    rw [compTurn_gen elt tg iter ifs scope pos, Sem.onRaise_eq_wrap]
    refine seg_bind_wrap (wpAny_standAt (seg_bind_wrap ?_))
    rw [hA]
    rcases hW i m ys H w with ⟨stop, q⟩ | ⟨go, m0, Nx, hNx, step⟩
    · refine thnF (T.done Y rfl rfl rfl hc i _ s _ H _ I fk st stop) fun r s6 ⟨hr, I6⟩ => ?_
      subst hr
      exact seg_end (.ok .next) ⟨rfl, ys, _, H, I6.unpinned, kept_of (nil I6), cwn hcw (nil I6), hLk.st _ _ _ lk (kept_of (nil I6)), q⟩
    · refine thnF (T.item Y rfl rfl rfl hc i _ s _ H _ I fk st go) fun r s6 ⟨u, hr, h6⟩ => ?_
      subst hr
      refine seg_bind_wrap ?_
      rw [hA]
      refine thnF h6 fun _ s7 ⟨x, H7, I7, r7, y7, st7, n7⟩ => ?_
      have I7' := I7.pinned (G.fpOk n7) (T.obj _ _ st7)
      have kfp : ∀ {s' : Shared} {σ' : L2.St} {H' : Hp}, Inv Y ((gp ++ pinsAt cw s₀.heap) ++ pinsAt fp s7.heap) σ' H' s' → ∀ b ∈ fp, (∀ o, s7.heap.get? b = some o → s'.heap.get? b = some o) ∧ H' b = none := fun {s' σ' H'} I' b hb => by
        obtain ⟨o, e, _⟩ := T.obj _ _ st7 b hb
        obtain ⟨z1, z2, _⟩ := I'.pin (b, o) (List.mem_append_right _ (List.mem_append_right _ (mem_pinsAt hb e)))
        refine ⟨fun o' e' => ?_, z2⟩
        rw [e] at e'
        cases e'
        exact z1
      have exF : ∀ {e : Value} {s' : Shared} {Z : Prop}, Y.xe e s' → Z := fun {e s' Z} h => by
        rw [hx] at h
        exact False.elim h
      refine seg_bind_wrap ?_
      rw [hA]
      refine wpAny_mono (pg.run _ s7 _ H7 x u _ I7' r7 (step x H7 y7)) (fun _ s8 ⟨σ8, H8, I8, hw8, q8⟩ => ?_) fun _ _ h => exF h
      refine seg_bind_wrap ?_
      rw [hA]
      refine wpAny_mono (pt.run _ s8 σ8 H8 _ I8 q8) (fun b s9 ⟨H9, I9, q9⟩ => ?_) fun _ _ h => exF h
      have hl : (wipe σ vs).length = σ8.length := by rw [← hw8, wipe_length]
      have weak : ∀ {l : List (Addr × Obj)} {H' : Hp} {s' : Shared}, Inv Y l σ8 H' s' → Inv Y l (wipe σ vs) H' s' := fun {l H' s'} I' => I'.weak hl fun j v e => by
        rw [← hw8] at e
        exact (wipe_some e).1
      cases b with
      | false =>
        rw [if_neg Bool.false_ne_true] at q9
        obtain ⟨m', hm, w'⟩ := hNx _ _ q9
        simp only [Bool.false_eq_true, if_false]
        exact seg_again rfl (ih m' hm n (i + 1) ys s₀ s9 H9 (by omega) (weak I9.unpinned) hcw lk (T.keep _ _ _ st7 fun b hb => (kfp I9 b hb).1) (fun b hb => (kfp I9 b hb).2) w')
      | true =>
        rw [if_pos rfl] at q9
        simp only [if_true]
        have hy : ∀ v, yieldOut Y.env v = yieldValue v := fun v => by
          unfold yieldOut
          rw [hco]
          rfl
        simp only [hy]
        rw [Sem.bind_eq_wrap', Sem.bind_eq_wrap', Sem.wrap_wrap, Sem.wrap_wrap]
        refine seg_wrap ?_
        rw [hA]
        refine wpAny_mono (pe.run _ s9 σ8 H9 _ I9 q9) (fun v s10 ⟨y, H10, I10, r10, q10⟩ => ?_) fun _ _ h => exF h
        obtain ⟨n', rfl⟩ : ∃ n', n = n' + 1 := ⟨n - 1, by omega⟩
        have Ig : Inv Y gp σ8 H10 s10 := I10.pins_of fun p hp => I10.pin p (List.mem_append_right _ (List.mem_append_left _ (List.mem_append_left _ hp)))
        refine seg_at (seg_yield rfl rfl rfl ⟨ys, y, σ8, H10, Nx, Ig, r10, kept_of I10, cwn hcw I10, hLk.st _ _ _ lk (kept_of I10), q10, fun ys' hys s' hz lk' => ?_⟩)
        obtain ⟨m', hm, w'⟩ := hNx ys' H10 hys
        have nc := cwn hcw I10
        have Iz := G.doz Ig nc hz
        refine seg_again rfl (ih m' hm n' (i + 1) ys' s' s' H10 (by omega) (weak (G.pin Iz nc hz.there)) (fun b hb => let ⟨o, e, _⟩ := hz.there b hb; ⟨o, e⟩) lk' (T.keep _ _ _ st7 fun b hb o e => ?_) (fun b hb => (kfp I10 b hb).2) w')
        exact hz.keep b o (G.fx b hb).2.2.2.2.2 ((kfp I10 b hb).1 o e)
end
section
variable {Y : Cx} {Aw : Around} {elt tg iter : Expr} {ifs : List Expr} {scope : Scope} {pos : Pos} {it : Addr} {fp cw : List Addr} {gp : List (Addr × Obj)} {tn : Nat → Heap → Prop} {J : It} {g : TG} {tt : TT} {te : TE} {vs : List Nat} {σ : L2.St} {cy : Cy} {Qe : List V → Hp → Prop} {Lk : List V → Heap → Prop}
  {W : Nat → Nat → List V → Hp → Prop}
theorem gx_first (hA : Aw.over (.compLoop (gxE elt tg iter ifs scope pos) 0 (.ref it) .none Y.env) [] = Y.A) (hx : Y.xe = fun _ _ => False) (hco : Y.env.scope.isCoroutine = false) (hc : Y.calm = true)
    (T : Turn Y.prog Y.w Y.K tg J fp it tn) (pg : PG Y tg g) (pt : PTs Y ifs tt) (pe : PE Y elt te) (G : GPlace Y gp fp cw) (hLk : Lnk cw Lk) (hW : Turns J g tt te vs σ cy Qe W)
    {m : Nat} {s : Shared} {H : Hp} (I : Inv Y gp (wipe σ vs) H s) (nc : ∀ b ∈ cw, H b = none) (hcw : ∀ b ∈ cw, ∃ o, s.heap.get? b = some o ∧ ∀ v, o.data ≠ .cell v) (lk : Lk [] s.heap) (st : tn 0 s.heap) (nf : ∀ b ∈ fp, H b = none) (w : W 0 m [] H) :
    Seg (model Y.prog Y.w) Aw (GFin Y gp cw Lk Qe) (GYld Y gp cw Lk cy) m s (.compStart (gxE elt tg iter ifs scope pos) 0 (.ref it) .none Y.env) ((model Y.prog Y.w).den (.compStart (gxE elt tg iter ifs scope pos) 0 (.ref it) .none Y.env)) [] s := by
  have go := gx_loop (pos := pos) hA hx hco hc T pg pt pe G hLk hW m m 0 [] s s H (Nat.le_refl _) (G.pin I nc hcw) (fun b hb => let ⟨o, e, _⟩ := hcw b hb; ⟨o, e⟩) lk st nf w
  show Seg _ _ _ _ _ _ _ ((compStart (gxE elt tg iter ifs scope pos) 0 (.ref it) .none Y.env).onRaise (leaving Y.env)) [] s
  unfold compStart
  rw [Sem.onRaise_eq_wrap]
  show Seg _ _ _ _ _ _ _ ((ask >>= _).wrap _ _ _ _) [] s
  refine seg_bind_wrap (wpAny_askSetting ?_)
  split
  · exact seg_again rfl go
  · have last := T.self (Aw.over (.compStart (gxE elt tg iter ifs scope pos) 0 (.ref it) .none Y.env) []) 0 s
    first
      | exact seg_bind_wrap (wpAny_rule (seg_bind_wrap (wpAny_standAt (seg_bind_wrap (last _ _ st (seg_again rfl go))))))
      | (refine seg_bind_wrap (wpAny_rule ?_); show Seg _ _ _ _ _ _ _ ((standAt iter.pos >>= _).wrap _ _ _ _) [] s; exact seg_bind_wrap (wpAny_standAt (seg_bind_wrap (last _ _ st (seg_again rfl go)))))
end
/-- a generator that was made in X's code: what stood then, its frame's objects, its own object -/
structure GMk (X : Cx) (pins : List (Addr × Obj)) (σ : L2.St) (sg : Shared) (Hg : Hp) (fp : List Addr) (a g : Addr) (go : Obj) : Prop where
  inv : Inv X pins σ Hg sg
  fx : ∀ b ∈ fp, FpOk X pins Hg b
  isGen : ∀ h : Heap, h.get? a = some go → h.IsGen a g
/-- it sleeps; ys is out, at most n more come -/
structure GRun (Y : Cx) (cw : List Addr) (Lk : List V → Heap → Prop) (cy : Cy) (Qe : List V → Hp → Prop) (a g : Addr) (go : Obj) (Aw : Around) (n : Nat) (ys : List V) (s : Shared) : Prop where
  here : s.heap.get? a = some go
  lim : s.heap.NoLimit
  run : ∃ gs, s.gens[g]? = some gs ∧ ∀ s', Doz cw s s' → Lk ys s'.heap → gs.Goes (model Y.prog Y.w) Aw (GFin Y [(a, go)] cw Lk Qe) (GYld Y [(a, go)] cw Lk cy) n (.send .none) s'
theorem Doz.turn {cw : List Addr} {s s' s'' : Shared} (x : Doz cw s s') (y : Doz cw s' s'') : Doz cw s s'' :=
  ⟨y.os.trans x.os, y.bare, fun b o hb e => y.keep b o hb (x.keep b o hb e), y.there⟩
theorem GRun.doz {Y : Cx} {cw : List Addr} {Lk : List V → Heap → Prop} {cy : Cy} {Qe : List V → Hp → Prop} {a g : Addr} {go : Obj} {Aw : Around} {n : Nat} {ys : List V} {s s' : Shared} (R : GRun Y cw Lk cy Qe a g go Aw n ys s) (z : Doz cw s s') (ha : a ∉ cw) (hs : cStatics ∉ cw) (hg : s'.gens = s.gens) :
    GRun Y cw Lk cy Qe a g go Aw n ys s' := by
  obtain ⟨h1, ⟨mc, hn, hnn⟩, gs, h3, h4⟩ := R
  exact ⟨z.keep _ _ ha h1, ⟨mc, hn.at' fun o e => z.keep _ o hs e, hnn⟩, gs, by rw [hg]; exact h3, fun s2 y lk => h4 s2 (z.turn y) lk⟩
section
variable {X : Cx} {pins : List (Addr × Obj)} {σ : L2.St} {sg : Shared} {Hg : Hp} {fp cw : List Addr} {a g : Addr} {go : Obj} {A A1 : Around} {ce : Env} {cy : Cy} {Qe : List V → Hp → Prop} {Lk : List V → Heap → Prop} {s : Shared} {E : Value → Shared → Prop}
/-- back in the consumer's frame -/
theorem GMk.back (M : GMk X pins σ sg Hg fp a g go) {σ' : L2.St} {H : Hp} {s1 s' : Shared} (I : Inv (gcx X A1 sg Hg ce fp) [(a, go)] σ' H s1) (ho : s'.os = s1.os) (kp : ∀ b o, s1.heap.get? b = some o → s'.heap.get? b = some o) (hb : AllBare s'.gens) : Inv X pins σ H s' :=
  M.inv.call' (ch := fp) (ho.trans I.os) (I.base.trans (Un.kept kp)) (I.hok.kept kp) hb fun b hb => ⟨(M.fx b hb).2.2.2.1, (M.fx b hb).2.1, (M.fx b hb).2.2.2.2.1, (M.fx b hb).2.2.2.2.2⟩
/-- what next(generator) gives -/
def GNext (X : Cx) (pins : List (Addr × Obj)) (σ : L2.St) (Y : Cx) (cw : List Addr) (Lk : List V → Heap → Prop) (cy : Cy) (Qe : List V → Hp → Prop) (a g : Addr) (go : Obj) (A : Around) (n : Nat) (s : Shared) (r : Option Value) (s' : Shared) : Prop :=
  KeptAt cw s s' ∧ match r with
  | none => ∃ ys H, Inv X pins σ H s' ∧ (∀ b ∈ cw, H b = none) ∧ Lk ys s'.heap ∧ Qe ys H
  | some v => ∃ ys y H Nx, Inv X pins σ H s' ∧ RelV y v ∧ (∀ b ∈ cw, H b = none) ∧ Lk ys s'.heap ∧ cy ys y H Nx ∧ ∀ ys', Nx ys' H → ∀ s2, Doz cw s' s2 → Lk ys' s2.heap → s2.gens = s'.gens → ∃ n', n = n' + 1 ∧ GRun Y cw Lk cy Qe a g go A n' ys' s2
theorem gx_next (M : GMk X pins σ sg Hg fp a g go) (hLk : Lnk cw Lk) (ha : a ∉ cw) (hs : cStatics ∉ cw) {n : Nat} {ys : List V} (hh : A.handled = none) (hd : A.depth < recursionLimit) (R : GRun (gcx X A1 sg Hg ce fp) cw Lk cy Qe a g go A.in1 n ys s) (hb : AllBare s.gens) (hcw : ∀ b ∈ cw, ∃ o, s.heap.get? b = some o ∧ ∀ v, o.data ≠ .cell v)
    (lk : Lk ys s.heap) : wpAny (model X.prog X.w) A (pyNext (.ref a)) (GNext X pins σ (gcx X A1 sg Hg ce fp) cw Lk cy Qe a g go A.in1 n s) E s := by
  obtain ⟨h1, h2, gs, h3, h4⟩ := R
  have hgl : g < s.gens.size := (Array.getElem?_eq_some_iff.mp h3).1
  have z0 : Doz cw s (s.setGen g .running) := ⟨rfl, allBare_setGen hb rfl, fun _ _ _ e => e, hcw⟩
  refine GenW.wpAny_gsz (n := g + 1) hgl ?_
  refine wpAny_pyNext_genexpQ (P := fun _ s₀ s1 => ∃ (ys : List V) (σ' : L2.St) (H : Hp), Inv (gcx X A1 sg Hg ce fp) [(a, go)] σ' H s1 ∧ KeptAt cw s₀ s1 ∧ (∀ b ∈ cw, H b = none) ∧ Lk ys s1.heap ∧ Qe ys H)
    hh h2 hd (M.isGen _ h1) h3 (h4 _ z0 lk) (fun v s1 gs' hbare hv => ?_) fun s1 hp h' hk => ?_
  · obtain ⟨ys1, y, σ', H, Nx, I, r, kc, nc, lk1, q, wake⟩ := hv
    intro hsz
    have hsz1 : g < s1.gens.size := by
      rw [GenW.setGen_size] at hsz
      exact hsz
    refine ⟨kc, ys1, y, H, Nx, M.back I rfl (fun _ _ e => e) (allBare_setGen I.bare hbare), r, nc, lk1, q, fun ys' hN s2 z lk2 hgs => ?_⟩
    have w2 := wake ys' hN s2 ⟨z.os, z.bare, z.keep, z.there⟩ lk2
    cases n with
    | zero => exact w2.elim
    | succ n' =>
      have R1 : GRun (gcx X A1 sg Hg ce fp) cw Lk cy Qe a g go A.in1 n' ys' (s1.setGen g gs') :=
        ⟨(I.pin (a, go) (List.mem_append_right _ (List.mem_singleton.mpr rfl))).1, I.nolimit, gs', setGen_at hsz1, fun s2 z lk2 => wake ys' hN s2 ⟨z.os, z.bare, z.keep, z.there⟩ lk2⟩
      exact ⟨n', rfl, R1.doz z ha hs hgs⟩
  · obtain ⟨ys1, σ', H, I, kc, nc, lk1, q⟩ := hp
    intro _
    refine ⟨fun b hb o e => hk _ _ (kc b hb o e), ys1, H, M.back I rfl hk (allBare_setGen I.bare rfl), nc, hLk.st _ _ _ lk1 fun b _ o e => hk b o e, q⟩
end
theorem over_gx {A : Around} {elt tg iter : Expr} {ifs : List Expr} {scope : Scope} {pos : Pos} {it : Addr} {ce : Env} : A.over (.compLoop (gxE elt tg iter ifs scope pos) 0 (.ref it) .none ce) [] = A.deeper ce := by
  first
    | rfl
    | (obtain ⟨hd, d, fr, gs, u⟩ := A; simp [Around.over, Around.deeper, marksOver, frameCount, unitsOf, envsOf, guardsOf, pushEnvs, pushGuards, Code.envs, Code.env?, Code.isFrame, Code.guards, Code.isGuard, Code.weight, Code.frames, Code.isCreation, Code.isCaller, Code.cUnits])
/-- the generator has been made and has not begun; at most m items come -/
structure GReady (X : Cx) (pins : List (Addr × Obj)) (σ : L2.St) (m : Nat) (cy : Cy) (Qe : List V → Hp → Prop) (a : Addr) (s : Shared) : Prop where
  ex : ∃ (g : Addr) (go : Obj) (sg : Shared) (Hg : Hp) (fp : List Addr) (ce : Env), GMk X pins σ sg Hg fp a g go ∧ Inv X pins σ Hg s ∧ s.heap.get? a = some go ∧ s.heap.NoLimit ∧
    ∀ (cw : List Addr) (Lk : List V → Heap → Prop) (A : Around) (s2 : Shared), Lnk cw Lk → A.handled = none → A.frames = some X.stack → A.depth ≤ X.A.depth + 1 → A.units ≤ X.A.units + 8 → (∀ b ∈ cw, s.heap.objs.size ≤ b) →
      (∀ b o, s.heap.get? b = some o → s2.heap.get? b = some o) → (∀ b ∈ cw, ∃ o, s2.heap.get? b = some o ∧ ∀ v, o.data ≠ .cell v) → s2.os = s.os → s2.gens = s.gens → Lk [] s2.heap →
      GRun (gcx X (A.deeper ce) sg Hg ce fp) cw Lk cy Qe a g go A m [] s2
section
variable {X : Cx} {pins : List (Addr × Obj)} {σ : L2.St} {H : Hp} {s : Shared} {c P : Addr} {elt iter tg : Expr} {ifs : List Expr} {scope : Scope} {gpos : Pos} {own : List (Str × Nat)} {wi : TI} {g : TG} {tt : TT} {te : TE} {k : Nat} {cy : Cy} {Qe : List V → Hp → Prop}
theorem gx_make (hr : Room (k + 1) X.A) (TB : LamX.TabB X.base X.mg c P) (hcode : X.env.code = .ref c) (hco : scope.isCoroutine = false) (ok : BlkOk X.N X.env.scope scope own) (hN : X.N.Nodup) (nocell : ∀ y ∈ scope.names, y.2 ≠ .cell)
    (h0 : scope.names.lookup (".0" : Str) = some NameKind.local) (hi : PI X tg iter wi)
    (pg : ∀ (A : Around) (s : Shared) (H : Hp) (C : Addr) (cl : List (Str × Addr)) (code : Value) (bi : Addr) (fp : List Addr), Room k A → PG (gcx X A s H (genEnv scope cl C code bi X.env) fp) tg g)
    (pt : ∀ (A : Around) (s : Shared) (H : Hp) (C : Addr) (cl : List (Str × Addr)) (code : Value) (bi : Addr) (fp : List Addr), Room k A → PTs (gcx X A s H (genEnv scope cl C code bi X.env) fp) ifs tt)
    (pe : ∀ (A : Around) (s : Shared) (H : Hp) (C : Addr) (cl : List (Str × Addr)) (code : Value) (bi : Addr) (fp : List Addr), Room k A → PE (gcx X A s H (genEnv scope cl C code bi X.env) fp) elt te)
    (hs : ∀ v, genFold iter X.env v = pure v) (I : Inv X pins σ H s)
    (h : wi σ H fun J H1 => GxR.TabG H1 P ∧ ∀ H2, GxR.Tabbed P H1 H2 → ∃ W m, W 0 m [] H2 ∧ Turns J g tt te (own.map (·.2)) σ cy Qe W) :
    wpAny (model X.prog X.w) X.A (eval (gxE elt tg iter ifs scope gpos) X.env) (fun u s' => ∃ a m, u = .ref a ∧ GReady X pins σ m cy Qe a s') X.xe s := by
  have hfree : ∀ y ∈ scope.names, y.2 = .free → ∃ c, X.env.cells.lookup y.1 = some c := fun y hy e => (ok.free y hy e).elim (fun z => I.ok.has _ (.inl z)) (fun z => I.ok.has _ (.inr z))
  refine wpAny_GeneratorExp_make hco (closure_ok hfree) nocell h0 ok.kind (by have := hr.dp; omega) ?_ hs
  refine thn (hi.run pins s σ H _ I h) fun xv s1 hx => thn hx fun itv s2 h2 => ?_
  obtain ⟨it, fp, tn, J, H2, rfl, I2, T, st2, f2, ⟨ps, hP, ht⟩, q⟩ := h2
  refine ⟨I2.nolimit, ?_⟩
  have hPs : s2.heap.get? P = some { cls := .none, data := .fields ps } := I2.hok P _ hP
  have cd : PySem.W.CodeHd s2.heap c P := TB.code.keeps fun b u e => I2.bk b u e
  have sz : ∀ b ∈ fp, b < s2.heap.objs.size := fun b hb => by
    obtain ⟨o, e, _⟩ := T.obj _ _ st2 b hb
    exact Heap.lt_size e
  have nP : ∀ b ∈ fp, b ≠ P := fun b hb z => by
    have := (f2 b hb).1
    rw [z, hP] at this
    cases this
  have cont : ∀ (code : Value) (h3 : Heap) (tk : Nat) (more : Array Value), Heap.ExtBut P s2.heap h3 → s2.heap.objs.size ≤ h3.objs.size → h3.get? P = some { cls := .none, data := .fields (ps ++ more) } → TriplesOk (ps ++ more).toList →
      wpAny (model X.prog X.w) X.A (builtinsFor X.env.globals X.env.builtins) (fun bi s4 => ∀ h', h'.Ns s4.heap.objs.size (fun y => if y = ".0" then some (.ref it) else none) → Heap.SameBut s4.heap.objs.size (s4.heap.push { cls := .type "frame", data := .dict #[] }) h' →
        ∃ a m, Value.ref h'.objs.size = .ref a ∧ GReady X pins σ m cy Qe a { s4 with
            gens := s4.gens.push (.fresh (.compStart (gxE elt tg iter ifs scope gpos) 0 (.ref it) .none (genEnv scope (cloFrom X.env.cells scope.names []) s4.heap.objs.size code bi X.env))),
            toks := s4.toks + 1 + 1 + 1,
            heap := h'.push { cls := .type "generator", data := .fields #[.int s4.gens.size 0, .str "<genexpr>" (s4.toks + 1), .str (X.env.qual ++ "<genexpr>") (s4.toks + 1 + 1)] } }) X.xe { s2 with heap := h3, toks := tk } := by
    intro code h3 tk more hx3 hsz hP3 ht3
    have kp3 : ∀ b o, b ≠ P → s2.heap.get? b = some o → h3.get? b = some o := fun b o hb e => hx3 b o hb e
    have I3 : Inv X pins σ (upd H2 P (.tbl (ps ++ more))) { s2 with heap := h3, toks := tk } := GxR.inv_tab (g' := s2.gens) (d' := s2.drawn) (t' := tk) I2 hP kp3 hP3 I2.bare
    obtain ⟨W, m, w0, hW⟩ := q (upd H2 P (.tbl (ps ++ more))) ⟨⟨_, upd_same, ht3⟩, fun b hb => upd_ne hb⟩
    have f3 : ∀ b ∈ fp, FpOk X pins (upd H2 P (.tbl (ps ++ more))) b := fun b hb => ⟨by rw [upd_ne (nP b hb)]; exact (f2 b hb).1, (f2 b hb).2⟩
    have st3 : tn 0 h3 := T.keep _ _ _ st2 fun b hb o e => kp3 b o (nP b hb) e
    have sz3 : ∀ b ∈ fp, b < h3.objs.size := fun b hb => Nat.lt_of_lt_of_le (sz b hb) hsz
    obtain ⟨bm, ob, e1, e2, e3, e4, e5, e6, e7, e8⟩ := TB.bm
    refine wpAny_builtinsFor (m := X.mg) (by rw [I3.ok.glob]; exact I3.mod.glob.keeps I3.bk) e1 e2 (I3.bk _ _ e5) e6 e7 e8 ?_
    generalize upd H2 P (.tbl (ps ++ more)) = H3 at I3 w0 f3 hW
    generalize hs3 : ({ s2 with heap := h3, toks := tk } : Shared) = s3 at I3 ⊢
    have e3h : s3.heap = h3 := by rw [← hs3]
    rw [← e3h] at st3 sz3
    intro h' hn' hb'
    have hsz' : h'.objs.size = s3.heap.objs.size + 1 := by rw [hb'.1, Heap.size_push]
    have kp' : ∀ b o, s3.heap.get? b = some o → h'.get? b = some o := fun b o e => hb'.extBut b o (Nat.ne_of_lt (Heap.lt_size e)) (Heap.get?_push_of_some _ e)
    refine ⟨_, m, rfl, ?_⟩
    generalize hgo : ({ cls := .type "generator", data := .fields #[.int s3.gens.size 0, .str "<genexpr>" (s3.toks + 1), .str (X.env.qual ++ "<genexpr>") (s3.toks + 1 + 1)] } : Obj) = go
    have isg : ∀ h : Heap, h.get? h'.objs.size = some go → h.IsGen h'.objs.size s3.gens.size := fun h e => ⟨go, _, _, e, by rw [← hgo], by rw [← hgo], by rw [← hgo]⟩
    have gnc : ∀ v, go.data ≠ .cell v := fun v z => by
      rw [← hgo] at z
      cases z
    have nf : go.data ≠ .freed := fun z => by
      rw [← hgo] at z
      cases z
    have hat : (h'.push go).get? h'.objs.size = some go := by
      rw [← hgo]
      exact Heap.get?_push_size _ rfl
    generalize hce : genEnv scope (cloFrom X.env.cells scope.names []) s3.heap.objs.size code builtinsNs X.env = ce
    have ce1 : ce.scope = scope := by rw [← hce]; rfl
    have ce2 : ce.locals = s3.heap.objs.size := by rw [← hce]; rfl
    have ce3 : ce.globals = mainGlobals := by rw [← hce]; exact I3.ok.glob
    have ce4 : ce.builtins = builtinsNs := by rw [← hce]; rfl
    have ce5 : ce.cells = cloFrom X.env.cells scope.names [] := by rw [← hce]; rfl
    have ce6 : ce.frame = some ce.locals := by rw [← hce]; rfl
    generalize hs5 : ({ s3 with gens := s3.gens.push (.fresh (.compStart (gxE elt tg iter ifs scope gpos) 0 (.ref it) .none ce)), toks := s3.toks + 1 + 1 + 1, heap := h'.push go } : Shared) = s5
    have h5 : s5.heap = h'.push go := by rw [← hs5]
    have g5 : s5.gens = s3.gens.push (.fresh (.compStart (gxE elt tg iter ifs scope gpos) 0 (.ref it) .none ce)) := by rw [← hs5]
    have o5 : s5.os = s3.os := by rw [← hs5]
    have kp5 : ∀ b o, s3.heap.get? b = some o → s5.heap.get? b = some o := fun b o e => by rw [h5]; exact Heap.get?_push_of_some _ (kp' b o e)
    have b5 : AllBare s5.gens := by rw [g5]; exact I3.bare.push rfl
    have M : GMk X pins σ s3 H3 fp h'.objs.size s3.gens.size go := ⟨I3, f3, isg⟩
    have lim5 : s5.heap.NoLimit := I3.nolimit.keeps kp5
    have I5 : Inv X pins σ H3 s5 := I3.call' (ch := []) o5 (Un.kept kp5) (I3.hok.kept kp5) b5 fun b z => by simp at z
    have at5 : s5.heap.get? h'.objs.size = some go := by rw [h5]; exact hat
    have sz5 : s5.heap.objs.size = s3.heap.objs.size + 2 := by rw [h5, Heap.size_push, hsz']
    refine ⟨⟨s3.gens.size, go, s3, H3, fp, ce, M, I5, at5, lim5, fun cw Lk A s6 hLk hh hfr hdp hun hcw kp6 tc os6 gs6 lk => ?_⟩⟩
    have kp36 : ∀ b o, s3.heap.get? b = some o → s6.heap.get? b = some o := fun b o e => kp6 b o (kp5 b o e)
    have hrA : Room k (A.deeper ce) := by
      refine ⟨hh, ?_, ?_⟩
      · have := hr.dp
        show A.depth + 1 + 3 * k + 5 < _
        omega
      · have := hr.un
        show A.units + 3 + 16 * k + 200 < _
        omega
    have nsC : s6.heap.Ns ce.locals (fun y => if y = ".0" then some (.ref it) else none) := by
      rw [ce2]
      exact (hn'.push go).keeps fun b o e => kp6 b o (by rw [h5]; exact e)
    have b6 : AllBare s6.gens := by rw [gs6]; exact b5
    have I6 : Inv (gcx X (A.deeper ce) s3 H3 ce fp) [] (wipe σ (own.map (·.2))) H3 s6 :=
      gcx_start I3 ok hN nocell (fun b hb => ⟨f3 b hb, sz3 b hb⟩) ce1 ce2 ce3 ce4 ce5 ce6 (Around.frames_deeper hfr) hh kp36 nsC (os6.trans o5) b6
    have young : ∀ b, s3.heap.objs.size < b → H3 b = none ∧ b ≠ ce.locals ∧ b ∉ frs X.stack ∧ (∀ x c, ce.cells.lookup x = some c → c ≠ b) := fun b hb => by
      refine ⟨I3.hok.fresh (Nat.le_of_lt hb), by rw [ce2]; exact Nat.ne_of_gt hb, fun z => ?_, fun x d e z => ?_⟩
      · rcases List.mem_cons.mp (I3.stkSub b z) with z | z
        · exact absurd (Nat.lt_trans (by rw [z]; exact I3.lt) hb) (Nat.lt_irrefl _)
        · exact I3.nofs (Nat.le_of_lt hb) z
      · obtain ⟨v, zc⟩ := I6.cell x d e
        rw [ce5] at e
        obtain ⟨u, zd⟩ := I3.cell x d (clo_look hfree e).1
        have := zd.lt
        rw [z] at this
        exact absurd (Nat.lt_trans this hb) (Nat.lt_irrefl _)
    have ga : s3.heap.objs.size < h'.objs.size := by rw [hsz']; exact Nat.lt_succ_self _
    have I6' : Inv (gcx X (A.deeper ce) s3 H3 ce fp) [(h'.objs.size, go)] (wipe σ (own.map (·.2))) H3 s6 := I6.pins_of fun p hp => by
      rw [List.mem_singleton.mp hp]
      obtain ⟨y1, y2, y3, _⟩ := young _ ga
      exact ⟨kp6 _ _ at5, y1, y2, y3, gnc⟩
    have cwlt : ∀ b ∈ cw, s3.heap.objs.size < b ∧ b ≠ h'.objs.size := fun b hb => by
      have h1 : s3.heap.objs.size + 2 ≤ b := by rw [← sz5]; exact hcw b hb
      refine ⟨Nat.lt_of_lt_of_le (Nat.lt_succ_of_lt (Nat.lt_succ_self _)) h1, fun z => ?_⟩
      rw [z, hsz'] at h1
      exact absurd (Nat.lt_of_succ_le h1) (Nat.lt_irrefl _)
    have G : GPlace (gcx X (A.deeper ce) s3 H3 ce fp) [(h'.objs.size, go)] fp cw := by
      refine ⟨fun b hb => ⟨hb, (I6.ok.exf b hb).1, I6.ok.exfs b hb, fun x d e => (I6.ok.exf b hb).2 x d e, fun p hp => ?_, fun z => ?_⟩, fun b hb => ?_⟩
      · rw [List.mem_singleton.mp (show p ∈ [(h'.objs.size, go)] from hp)]
        exact fun z => absurd (Nat.lt_trans (sz3 b hb) (by rw [← z]; exact ga)) (Nat.lt_irrefl _)
      · exact absurd (Nat.lt_trans (sz3 b hb) (cwlt b z).1) (Nat.lt_irrefl _)
      · obtain ⟨y1, y2, y3, y4⟩ := young b (cwlt b hb).1
        refine ⟨Nat.le_of_lt (cwlt b hb).1, y2, y3, y4, fun p hp => ?_⟩
        rw [List.mem_singleton.mp (show p ∈ [(h'.objs.size, go)] from hp)]
        exact (cwlt b hb).2.symm
    have nc : ∀ b ∈ cw, H3 b = none := fun b hb => (young b (cwlt b hb).1).1
    refine ⟨kp6 _ _ at5, lim5.keeps kp6, .fresh (.compStart (gxE elt tg iter ifs scope gpos) 0 (.ref it) .none ce), by rw [gs6, g5]; exact Array.getElem?_push_size .., fun s7 z lk7 => ⟨rfl, ?_⟩⟩
    have I7 := G.doz I6' nc z
    have st7 : tn 0 s7.heap := T.keep _ _ _ st3 fun b hb o e => z.keep b o (fun hc => absurd (Nat.lt_trans (sz3 b hb) (cwlt b hc).1) (Nat.lt_irrefl _)) (kp36 b o e)
    have pg' := pg (A.deeper ce) s3 H3 s3.heap.objs.size (cloFrom X.env.cells scope.names []) code builtinsNs fp hrA
    have pt' := pt (A.deeper ce) s3 H3 s3.heap.objs.size (cloFrom X.env.cells scope.names []) code builtinsNs fp hrA
    have pe' := pe (A.deeper ce) s3 H3 s3.heap.objs.size (cloFrom X.env.cells scope.names []) code builtinsNs fp hrA
    rw [hce] at pg' pt' pe'
    exact gx_first (Y := gcx X (A.deeper ce) s3 H3 ce fp) over_gx rfl (by show ce.scope.isCoroutine = false; rw [ce1]; exact hco) rfl T pg' pt' pe' G hLk hW I7 nc z.there lk7 st7 (fun b hb => (f3 b hb).1) w0
  cases hf : codeAmong gpos ps.toList with
  | none =>
    refine wpAny_genexprCodeX hcode (cd.code hPs ht) (cd.tab hPs) hf fun c' h' tk hx hge hlt hco' _ htab' _ => ?_
    obtain ⟨o1, vs, f1, tf, fl, tg, inF, tx, tt, op, _, _, _, _, _, _, _, _, _, htr, _⟩ := hco'
    exact cont _ h' tk _ hx (Nat.le_trans hge (Nat.le_of_lt hlt)) htab'.2 htr
  | some cv =>
    refine wpAny_genexprCode_hit hcode (cd.code hPs ht) hf ?_
    exact cont cv s2.heap s2.toks #[] (Heap.ExtBut.refl _ _) (Nat.le_refl _) (by rw [Array.append_empty]; exact hPs) (by rw [Array.append_empty]; exact ht)
end
end GXP
namespace GXP
open PySem PySem.Spec PyProof.Rows L2
/-! the consumers -/
/-- the list that the consumer fills -/
abbrev tmpL (acc : Array Value) (c : Nat) : Obj := { cls := .type "list", dict := none, data := .seq acc c, slots := #[] }
def LkT (S : Addr) (ys : List V) (h : Heap) : Prop := ∃ acc c, h.get? S = some (tmpL acc c) ∧ Vals ys acc.toList ∧ ys.length ≤ sizeLine
theorem lnkT (S : Addr) : Lnk [S] (LkT S) := ⟨fun _ _ _ ⟨acc, c, e, r⟩ k => ⟨acc, c, k S (List.mem_singleton.mpr rfl) _ e, r⟩⟩
def cyT : Cy := fun ys y H Nx => ys.length < sizeLine ∧ Nx (ys ++ [y]) H
theorem lnkN : Lnk [] (fun _ _ => True) := ⟨fun _ _ _ _ _ => trivial⟩
/-- all, any: b0 ends it -/
def cyB (b0 : Bool) (Qf : Hp → Prop) : Cy := fun ys y H Nx => ∃ b, y = .bl b ∧ if b = b0 then Qf H else Nx (ys ++ [y]) H
def sumV : List V → Int
  | [] => 0
  | .int z :: r => z + sumV r
  | _ :: r => sumV r
theorem sumV_snoc : ∀ (ys : List V) (z : Int), sumV (ys ++ [.int z]) = sumV ys + z
  | [], z => by simp [sumV]
  | y :: r, z => by
    have ih := sumV_snoc r z
    cases y <;> simp only [List.cons_append, sumV, ih] <;> omega
def LkS (S : Addr) (ys : List V) (h : Heap) : Prop := ∃ t c, h.get? S = some (tmpL #[.int (sumV ys) t] c)
theorem lnkS (S : Addr) : Lnk [S] (LkS S) := ⟨fun _ _ _ ⟨t, c, e⟩ k => ⟨t, c, k S (List.mem_singleton.mpr rfl) _ e⟩⟩
def cyS : Cy := fun ys y H Nx => ∃ z, y = .int z ∧ InLong z ∧ InLong (sumV ys + z) ∧ Nx (ys ++ [y]) H
section
variable {X : Cx} {pins : List (Addr × Obj)} {σ : L2.St} {sg : Shared} {Hg : Hp} {fp : List Addr} {a g S : Addr} {go : Obj} {A A1 : Around} {ce : Env} {Qe : List V → Hp → Prop} {R : Result → Shared → Prop}
theorem gx_drain (M : GMk X pins σ sg Hg fp a g go) (hh : A.handled = none) (hd : A.depth < recursionLimit) (hSa : a ∉ [S]) (hSc : cStatics ∉ [S]) {res : Value}
    (fin : ∀ (s' : Shared) (ys : List V) (H : Hp) (acc : Array Value) (c : Nat), Inv X pins σ H s' → H S = none → s'.heap.get? S = some (tmpL acc c) → Vals ys acc.toList → ys.length ≤ sizeLine → Qe ys H → R (.ok (.ret res)) s') :
    ∀ (n : Nat) (ys : List V) (s : Shared), GRun (gcx X A1 sg Hg ce fp) [S] (LkT S) cyT Qe a g go A.in1.in1 n ys s → LkT S ys s.heap → AllBare s.gens → codeAny (model X.prog X.w) A (.builtin "list.extend.loop" ⟨[.ref S, .ref a, res], []⟩) R s := by
  have E0 := F.entry_extend_loop
  intro n
  induction n with
  | zero =>
    intro ys s G lk hb
    obtain ⟨acc, c, eS, r, hz⟩ := id lk
    refine codeAny_builtin E0 ?_
    rw [Around.under_plainId F.plain_extend_loop]
    refine wpAny_bind (thnF (gx_next M (lnkT S) hSa hSc (A := A.in1) hh hd G hb (fun b hb => ?_) lk) fun r s1 hN => ?_)
    · rw [List.mem_singleton.mp hb]
      exact ⟨_, eS, fun v z => by cases z⟩
    · obtain ⟨kc, hN⟩ := hN
      cases r with
      | none =>
        obtain ⟨ys1, H1, I1, n1, ⟨acc1, c1, e1, r1, z1⟩, q1⟩ := hN
        exact wpAny_pure (fin s1 ys1 H1 acc1 c1 I1 (n1 S (List.mem_singleton.mpr rfl)) e1 r1 z1 q1)
      | some v =>
        obtain ⟨ys1, y, H1, Nx, I1, ry, n1, ⟨acc1, c1, e1, r1, z1⟩, ⟨hlt, hN1⟩, wake⟩ := hN
        have hs : acc1.size < sizeLine := by
          have := r1.length
          simp only [Array.length_toList] at this
          omega
        show wpAny _ A.in1 (updateSeq S (·.push v) >>= _) _ _ _
        refine wpAny_bind (wpAny_updateSeq e1 rfl ?_ (Nat.le_of_lt hs) (by show (acc1.push v).size ≤ sizeLine + 1; rw [Array.size_push]; omega))
        have o1 := Heap.get?_update_self (Obj.mapSeq (·.push v)) e1 rfl
        refine (wake (ys1 ++ [y]) hN1 { s1 with heap := s1.heap.update S (Obj.mapSeq (·.push v)) } ⟨rfl, I1.bare, fun b o hb e => ?_, fun b hb => ?_⟩ ⟨_, _, o1, ?_, ?_⟩ rfl).elim (fun n' h => (Nat.succ_ne_zero n' h.1.symm).elim)
        · exact (Heap.get?_update_other _ _ (fun z => hb (List.mem_singleton.mpr z.symm))).trans e
        · rw [List.mem_singleton.mp hb]
          exact ⟨_, o1, fun v z => by cases z⟩
        · rw [Array.toList_push]
          exact r1.append (.cons ry .nil)
        · rw [List.length_append]
          exact hlt
  | succ n ih =>
    intro ys s G lk hb
    obtain ⟨acc, c, eS, r, hz⟩ := id lk
    refine codeAny_builtin E0 ?_
    rw [Around.under_plainId F.plain_extend_loop]
    refine wpAny_bind (thnF (gx_next M (lnkT S) hSa hSc (A := A.in1) hh hd G hb (fun b hb => ?_) lk) fun r s1 hN => ?_)
    · rw [List.mem_singleton.mp hb]
      exact ⟨_, eS, fun v z => by cases z⟩
    · obtain ⟨kc, hN⟩ := hN
      cases r with
      | none =>
        obtain ⟨ys1, H1, I1, n1, ⟨acc1, c1, e1, r1, z1⟩, q1⟩ := hN
        exact wpAny_pure (fin s1 ys1 H1 acc1 c1 I1 (n1 S (List.mem_singleton.mpr rfl)) e1 r1 z1 q1)
      | some v =>
        obtain ⟨ys1, y, H1, Nx, I1, ry, n1, ⟨acc1, c1, e1, r1, z1⟩, ⟨hlt, hN1⟩, wake⟩ := hN
        have hs : acc1.size < sizeLine := by
          have := r1.length
          simp only [Array.length_toList] at this
          omega
        show wpAny _ A.in1 (updateSeq S (·.push v) >>= _) _ _ _
        refine wpAny_bind (wpAny_updateSeq e1 rfl (wpAny_pure ⟨plainId_quiet F.plain_extend_loop _, ?_⟩) (Nat.le_of_lt hs) (by show (acc1.push v).size ≤ sizeLine + 1; rw [Array.size_push]; omega))
        have o1 := Heap.get?_update_self (Obj.mapSeq (·.push v)) e1 rfl
        have lk2 : LkT S (ys1 ++ [y]) (s1.heap.update S (Obj.mapSeq (·.push v))) := ⟨_, _, o1, by rw [Array.toList_push]; exact r1.append (.cons ry .nil), by rw [List.length_append]; exact hlt⟩
        obtain ⟨n', hn, G'⟩ := wake (ys1 ++ [y]) hN1 { s1 with heap := s1.heap.update S (Obj.mapSeq (·.push v)) } ⟨rfl, I1.bare, fun b o hb e => (Heap.get?_update_other _ _ (fun z => hb (List.mem_singleton.mpr z.symm))).trans e, fun b hb => by
          rw [List.mem_singleton.mp hb]
          exact ⟨_, o1, fun v z => by cases z⟩⟩ lk2 rfl
        cases hn
        exact ih (ys1 ++ [y]) _ G' lk2 I1.bare
end
end GXP
namespace GXP
open PySem PySem.Spec PyProof.Rows L2
section
variable {X : Cx} {pins : List (Addr × Obj)} {σ : L2.St} {sg : Shared} {Hg : Hp} {fp : List Addr} {a g S : Addr} {go : Obj} {A A1 : Around} {ce : Env} {Qe : List V → Hp → Prop} {Qf : Hp → Prop} {R : Result → Shared → Prop}
theorem gx_all (M : GMk X pins σ sg Hg fp a g go) (hh : A.handled = none) (hd : A.depth < recursionLimit)
    (fin : ∀ (s' : Shared) (H : Hp) (b : Bool), Inv X pins σ H s' → (b = true → ∃ ys, Qe ys H) → (b = false → Qf H) → R (.ok (.ret (.bool b))) s') :
    ∀ (n : Nat) (ys : List V) (s : Shared), GRun (gcx X A1 sg Hg ce fp) [] (fun _ _ => True) (cyB false Qf) Qe a g go A.in1.in1 n ys s → AllBare s.gens → codeAny (model X.prog X.w) A (.builtin "all.loop" ⟨[.ref a], []⟩) R s := by
  have E0 := F.entry_all_loop
  intro n
  induction n with
  | zero =>
    intro ys s G hb
    refine codeAny_builtin E0 ?_
    rw [Around.under_plainId F.plain_all_loop]
    refine wpAny_bind (thnF (gx_next M lnkN (by simp) (by simp) (A := A.in1) hh hd G hb (fun b hb => by cases hb) trivial) fun r s1 ⟨_, hN⟩ => ?_)
    cases r with
    | none =>
      obtain ⟨ys1, H1, I1, _, _, q1⟩ := hN
      exact wpAny_bind (wpAny_rule (wpAny_pure (fin s1 H1 true I1 (fun _ => ⟨ys1, q1⟩) (fun z => by cases z))))
    | some v =>
      obtain ⟨ys1, y, H1, Nx, I1, ry, _, _, ⟨b, rfl, q⟩, wake⟩ := hN
      cases ry
      refine wpAny_bind (wpAny_holding (wpAny_truthy_bool (wpAny_bind (wpAny_letGo ?_))))
      cases b with
      | true =>
        rw [if_neg (by decide)] at q
        obtain ⟨n', h, _⟩ := wake _ q s1 ⟨rfl, I1.bare, fun _ _ _ e => e, fun b hb => by cases hb⟩ trivial rfl
        cases h
      | false =>
        rw [if_pos rfl] at q
        exact wpAny_bind (wpAny_rule (wpAny_pure (fin s1 H1 false I1 (fun z => by cases z) (fun _ => q))))
  | succ n ih =>
    intro ys s G hb
    refine codeAny_builtin E0 ?_
    rw [Around.under_plainId F.plain_all_loop]
    refine wpAny_bind (thnF (gx_next M lnkN (by simp) (by simp) (A := A.in1) hh hd G hb (fun b hb => by cases hb) trivial) fun r s1 ⟨_, hN⟩ => ?_)
    cases r with
    | none =>
      obtain ⟨ys1, H1, I1, _, _, q1⟩ := hN
      exact wpAny_bind (wpAny_rule (wpAny_pure (fin s1 H1 true I1 (fun _ => ⟨ys1, q1⟩) (fun z => by cases z))))
    | some v =>
      obtain ⟨ys1, y, H1, Nx, I1, ry, _, _, ⟨b, rfl, q⟩, wake⟩ := hN
      cases ry
      refine wpAny_bind (wpAny_holding (wpAny_truthy_bool (wpAny_bind (wpAny_letGo ?_))))
      cases b with
      | true =>
        rw [if_neg (by decide)] at q
        obtain ⟨n', h, G'⟩ := wake _ q s1 ⟨rfl, I1.bare, fun _ _ _ e => e, fun b hb => by cases hb⟩ trivial rfl
        cases h
        exact wpAny_pure ⟨plainId_quiet F.plain_all_loop _, ih _ s1 G' I1.bare⟩
      | false =>
        rw [if_pos rfl] at q
        exact wpAny_bind (wpAny_rule (wpAny_pure (fin s1 H1 false I1 (fun z => by cases z) (fun _ => q))))
theorem gx_any (M : GMk X pins σ sg Hg fp a g go) (hh : A.handled = none) (hd : A.depth < recursionLimit)
    (fin : ∀ (s' : Shared) (H : Hp) (b : Bool), Inv X pins σ H s' → (b = false → ∃ ys, Qe ys H) → (b = true → Qf H) → R (.ok (.ret (.bool b))) s') :
    ∀ (n : Nat) (ys : List V) (s : Shared), GRun (gcx X A1 sg Hg ce fp) [] (fun _ _ => True) (cyB true Qf) Qe a g go A.in1.in1 n ys s → AllBare s.gens → codeAny (model X.prog X.w) A (.builtin "any.loop" ⟨[.ref a], []⟩) R s := by
  have E0 := F.entry_any_loop
  intro n
  induction n with
  | zero =>
    intro ys s G hb
    refine codeAny_builtin E0 ?_
    rw [Around.under_plainId F.plain_any_loop]
    refine wpAny_bind (thnF (gx_next M lnkN (by simp) (by simp) (A := A.in1) hh hd G hb (fun b hb => by cases hb) trivial) fun r s1 ⟨_, hN⟩ => ?_)
    cases r with
    | none =>
      obtain ⟨ys1, H1, I1, _, _, q1⟩ := hN
      exact wpAny_bind (wpAny_rule (wpAny_pure (fin s1 H1 false I1 (fun _ => ⟨ys1, q1⟩) (fun z => by cases z))))
    | some v =>
      obtain ⟨ys1, y, H1, Nx, I1, ry, _, _, ⟨b, rfl, q⟩, wake⟩ := hN
      cases ry
      refine wpAny_bind (wpAny_holding (wpAny_truthy_bool (wpAny_bind (wpAny_letGo ?_))))
      cases b with
      | false =>
        rw [if_neg (by decide)] at q
        obtain ⟨n', h, _⟩ := wake _ q s1 ⟨rfl, I1.bare, fun _ _ _ e => e, fun b hb => by cases hb⟩ trivial rfl
        cases h
      | true =>
        rw [if_pos rfl] at q
        exact wpAny_bind (wpAny_rule (wpAny_pure (fin s1 H1 true I1 (fun z => by cases z) (fun _ => q))))
  | succ n ih =>
    intro ys s G hb
    refine codeAny_builtin E0 ?_
    rw [Around.under_plainId F.plain_any_loop]
    refine wpAny_bind (thnF (gx_next M lnkN (by simp) (by simp) (A := A.in1) hh hd G hb (fun b hb => by cases hb) trivial) fun r s1 ⟨_, hN⟩ => ?_)
    cases r with
    | none =>
      obtain ⟨ys1, H1, I1, _, _, q1⟩ := hN
      exact wpAny_bind (wpAny_rule (wpAny_pure (fin s1 H1 false I1 (fun _ => ⟨ys1, q1⟩) (fun z => by cases z))))
    | some v =>
      obtain ⟨ys1, y, H1, Nx, I1, ry, _, _, ⟨b, rfl, q⟩, wake⟩ := hN
      cases ry
      refine wpAny_bind (wpAny_holding (wpAny_truthy_bool (wpAny_bind (wpAny_letGo ?_))))
      cases b with
      | false =>
        rw [if_neg (by decide)] at q
        obtain ⟨n', h, G'⟩ := wake _ q s1 ⟨rfl, I1.bare, fun _ _ _ e => e, fun b hb => by cases hb⟩ trivial rfl
        cases h
        exact wpAny_pure ⟨plainId_quiet F.plain_any_loop _, ih _ s1 G' I1.bare⟩
      | true =>
        rw [if_pos rfl] at q
        exact wpAny_bind (wpAny_rule (wpAny_pure (fin s1 H1 true I1 (fun z => by cases z) (fun _ => q))))
theorem gx_sum (M : GMk X pins σ sg Hg fp a g go) (hh : A.handled = none) (hd : A.depth < recursionLimit) (hSa : a ∉ [S]) (hSc : cStatics ∉ [S])
    (fin : ∀ (s' : Shared) (ys : List V) (H : Hp) (t : Tok), Inv X pins σ H s' → H S = none → Qe ys H → R (.ok (.ret (.int (sumV ys) t))) s') :
    ∀ (n : Nat) (ys : List V) (s : Shared), GRun (gcx X A1 sg Hg ce fp) [S] (LkS S) cyS Qe a g go A.in1.in1 n ys s → LkS S ys s.heap → AllBare s.gens → codeAny (model X.prog X.w) A (.builtin "sum.loop" ⟨[.ref a, .ref S, rawInt 0, rawInt 0], []⟩) R s := by
  have E0 := F.entry_sum_loop
  have cwt : ∀ {ys : List V} {s : Shared}, LkS S ys s.heap → ∀ b ∈ [S], ∃ o, s.heap.get? b = some o ∧ ∀ v, o.data ≠ .cell v := fun {ys s} lk b hb => by
    obtain ⟨t, c, e⟩ := lk
    rw [List.mem_singleton.mp hb]
    exact ⟨_, e, fun v z => by cases z⟩
  have turn : ∀ (n : Nat) (ys : List V) (s : Shared), GRun (gcx X A1 sg Hg ce fp) [S] (LkS S) cyS Qe a g go A.in1.in1 n ys s → LkS S ys s.heap → AllBare s.gens →
      (∀ ys2 s2, (∃ n', n = n' + 1 ∧ GRun (gcx X A1 sg Hg ce fp) [S] (LkS S) cyS Qe a g go A.in1.in1 n' ys2 s2) → LkS S ys2 s2.heap → AllBare s2.gens → codeAny (model X.prog X.w) A (.builtin "sum.loop" ⟨[.ref a, .ref S, rawInt 0, rawInt 0], []⟩) R s2) →
      codeAny (model X.prog X.w) A (.builtin "sum.loop" ⟨[.ref a, .ref S, rawInt 0, rawInt 0], []⟩) R s := by
    intro n ys s G lk hb next
    obtain ⟨t, c, eS⟩ := id lk
    refine codeAny_builtin E0 ?_
    rw [Around.under_plainId F.plain_sum_loop]
    show wpAny _ A.in1 (seqItems? (.ref S) >>= _) _ _ s
    refine wpAny_bind (wpAny_seqItems eS rfl ?_)
    show wpAny _ A.in1 (tryCatch (pyNext (.ref a)) _ >>= _) _ _ s
    refine wpAny_bind (wpAny_tryCatch (thnF (gx_next M (lnkS S) hSa hSc (A := A.in1) hh hd G hb (cwt lk) lk) fun r s1 ⟨kc, hN⟩ => ?_))
    have eS1 := kc S (List.mem_singleton.mpr rfl) _ eS
    cases r with
    | none =>
      obtain ⟨ys1, H1, I1, n1, ⟨t1, c1, e1⟩, q1⟩ := hN
      have hd1 := congrArg Obj.data (Option.some.inj (eS1.symm.trans e1))
      simp only [Data.seq.injEq, Array.mk.injEq, List.cons.injEq, Value.int.injEq, and_true] at hd1
      rw [hd1.1.1]
      exact wpAny_pure (fin s1 ys1 H1 _ I1 (n1 S (List.mem_singleton.mpr rfl)) q1)
    | some v =>
      obtain ⟨ys1, y, H1, Nx, I1, ry, n1, ⟨t1, c1, e1⟩, ⟨z, rfl, ⟨f1, f2⟩, ⟨f3, f4⟩, hN1⟩, wake⟩ := hN
      obtain ⟨tz, rfl⟩ := ry
      have hd1 := congrArg Obj.data (Option.some.inj (eS1.symm.trans e1))
      simp only [Data.seq.injEq, Array.mk.injEq, List.cons.injEq, Value.int.injEq, and_true] at hd1
      rw [hd1.1.1]
      have hc : ((decide (-(2 ^ 63) ≤ z) && decide (z < 2 ^ 63)) && (decide (-(2 ^ 63) ≤ sumV ys1 + z) && decide (sumV ys1 + z < 2 ^ 63))) = true := by
        simp only [Bool.and_eq_true, decide_eq_true_eq]
        exact ⟨⟨f1, f2⟩, f3, f4⟩
      show wpAny _ A.in1 (if (_ : Bool) = true then (mkInt (sumV ys1 + z) >>= _) else _) _ _ _
      split
      · refine wpAny_bind (wpAny_mkInt ?_)
        show wpAny _ A.in1 (updateSeq S (fun _ => #[.int (sumV ys1 + z) s1.toks]) >>= _) _ _ _
        have o1 := Heap.get?_update_self (Obj.mapSeq (fun _ => #[Value.int (sumV ys1 + z) s1.toks])) e1 rfl
        have lk2 : LkS S (ys1 ++ [.int z]) (s1.heap.update S (Obj.mapSeq (fun _ => #[Value.int (sumV ys1 + z) s1.toks]))) := ⟨s1.toks, _, by rw [sumV_snoc]; exact o1⟩
        refine wpAny_bind (wpAny_updateSeq e1 rfl (wpAny_pure ⟨plainId_quiet F.plain_sum_loop _, ?_⟩))
        refine next (ys1 ++ [.int z]) _ (wake _ hN1 { s1 with heap := s1.heap.update S (Obj.mapSeq (fun _ => #[Value.int (sumV ys1 + z) s1.toks])), toks := s1.toks + 1 } ⟨rfl, I1.bare, fun b o hb e => (Heap.get?_update_other _ _ (fun q => hb (List.mem_singleton.mpr q.symm))).trans e, cwt lk2⟩ lk2 rfl) lk2 I1.bare
      · rename_i hneg
        exact absurd hc hneg
  intro n
  induction n with
  | zero =>
    intro ys s G lk hb
    exact turn 0 ys s G lk hb fun ys2 s2 ⟨n', h, _⟩ => by cases h
  | succ n ih =>
    intro ys s G lk hb
    refine turn (n + 1) ys s G lk hb fun ys2 s2 ⟨n', h, G'⟩ lk2 hb2 => ?_
    cases h
    exact ih ys2 s2 G' lk2 hb2
end
end GXP
namespace GXP
open PySem PySem.Spec PyProof.Rows L2
section
variable {X : Cx} {pins : List (Addr × Obj)} {σ : L2.St} {a : Addr} {A : Around} {Qe : List V → Hp → Prop} {s : Shared} {m : Nat} {E : Value → Shared → Prop}
theorem gx_collect (hG : GReady X pins σ m cyT Qe a s) (hh : A.handled = none) (hf : A.frames = some X.stack) (hd : A.depth ≤ X.A.depth + 1) (hu : A.units + 2 ≤ X.A.units + 8) (hl : A.depth < recursionLimit) {Q : List Value → Shared → Prop}
    (hQ : ∀ (items : List Value) (s' : Shared) (ys : List V) (H : Hp), Inv X pins σ H s' → Vals ys items → ys.length ≤ sizeLine → Qe ys H → Q items s') : wpAny (model X.prog X.w) A (collect (.ref a)) Q E s := by
  obtain ⟨g, go, sg, Hg, fp, ce, M, I0, ha, lim, ready⟩ := hG.ex
  have hgen := fun (h : Heap) (e : h.get? a = some go) => M.isGen h e
  have hSa : s.heap.objs.size ≠ a := fun z => by
    have := Heap.lt_size ha
    rw [← z] at this
    exact Nat.lt_irrefl _ this
  have hSc : s.heap.objs.size ≠ cStatics := fun z => by
    obtain ⟨_, hn, _⟩ := lim
    have := hn.lt
    rw [← z] at this
    exact Nat.lt_irrefl _ this
  unfold collect
  refine wpAny_bind (wpAny_runValue (codeAny_builtin F.entry_proto_collect ?_))
  rw [Around.under_plainId F.plain_proto_collect]
  show wpAny _ A.in1 (newList [] >>= fun l => again (.builtin "list.__iadd__" ⟨[l, .ref a], []⟩)) _ _ s
  refine wpAny_bind (wpAny_newObj_type (wpAny_pure ⟨plainId_quiet F.plain_list_iadd _, codeAny_builtin F.entry_list_iadd ?_⟩))
  rw [Around.under_plainId F.plain_list_iadd]
  show wpAny _ A.in1 (Builtin.List.listExtendWith (.ref s.heap.objs.size) (.ref a) (.ref s.heap.objs.size)) _ _ _
  unfold Builtin.List.listExtendWith
  have k1 : ∀ b o, s.heap.get? b = some o → (s.heap.push { cls := .type "list", data := .seq ([] : List Value).toArray }).get? b = some o := fun b o e => Heap.get?_push_of_some _ e
  refine wpAny_bind (wpAny_typeOf (Heap.IsGen.typeIs (s := { s with heap := _ }) (hgen _ (k1 _ _ ha))) ?_)
  have q1 : Builtin.List.listSameRef (.ref s.heap.objs.size) (.ref a) = false := by simp [Builtin.List.listSameRef, hSa]
  have q2 : (Value.type "generator" == Value.type "list") = false := by decide
  have q3 : (Value.type "generator" == Value.type "tuple") = false := by decide
  simp only [q1, q2, q3, Bool.or_false, Bool.false_eq_true, if_false]
  refine wpAny_bind (wpAny_pyIter_gen (s := { s with heap := _ }) (hgen _ (k1 _ _ ha)) (wpAny_bind (wpAny_holding ?_)))
  unfold Builtin.List.listLengthHint
  refine wpAny_bind (wpAny_specialOf (Heap.IsGen.typeIs (s := { s with heap := _ }) (hgen _ (k1 _ _ ha))) F.gen_no_len ?_)
  show wpAny _ A.in1 (specialOf (Value.ref a) (Str.ofString "__length_hint__") >>= _) _ _ _
  refine wpAny_bind (wpAny_specialOf (Heap.IsGen.typeIs (s := { s with heap := _ }) (hgen _ (k1 _ _ ha))) F.gen_no_hint (wpAny_pure ?_))
  show wpAny _ A.in1 (rule "list.extend.makes-room" >>= fun _ => Builtin.List.listTouch (.ref s.heap.objs.size) >>= fun _ =>
    again (.builtin "list.extend.loop" ⟨[.ref s.heap.objs.size, .ref a, .ref s.heap.objs.size], []⟩)) _ _ _
  refine wpAny_bind (wpAny_rule (wpAny_bind ?_))
  have o1 : (s.heap.push { cls := .type "list", data := .seq ([] : List Value).toArray }).get? s.heap.objs.size = some { cls := .type "list", data := .seq ([] : List Value).toArray } := Heap.get?_push_size _ rfl
  show wpAny _ A.in1 (updateSeq s.heap.objs.size (·.push .none) >>= fun _ => updateSeq s.heap.objs.size (·.pop)) _ _ _
  refine wpAny_bind (wpAny_updateSeq o1 rfl ?_)
  have o2 := Heap.get?_update_self (Obj.mapSeq (·.push Value.none)) o1 rfl
  refine wpAny_updateSeq o2 rfl (wpAny_pure ⟨plainId_quiet F.plain_extend_loop _, ?_⟩)
  have o3 := Heap.get?_update_self (Obj.mapSeq (·.pop)) o2 rfl
  have k3 : ∀ b o, s.heap.get? b = some o → (((s.heap.push { cls := .type "list", data := .seq ([] : List Value).toArray }).update s.heap.objs.size (Obj.mapSeq (·.push Value.none))).update s.heap.objs.size (Obj.mapSeq (·.pop))).get? b = some o := fun b o e =>
    have hb : s.heap.objs.size ≠ b := fun z => Nat.lt_irrefl b (by have := Heap.lt_size e; rw [z] at this; exact this)
    (Heap.get?_update_other _ _ hb).trans ((Heap.get?_update_other _ _ hb).trans (k1 b o e))
  have lk0 : LkT s.heap.objs.size [] (((s.heap.push { cls := .type "list", data := .seq ([] : List Value).toArray }).update s.heap.objs.size (Obj.mapSeq (·.push Value.none))).update s.heap.objs.size (Obj.mapSeq (·.pop))) := ⟨_, _, o3, .nil, Nat.zero_le _⟩
  have G := ready [s.heap.objs.size] (LkT s.heap.objs.size) A.in1.in1 { s with heap := ((s.heap.push { cls := .type "list", data := .seq ([] : List Value).toArray }).update s.heap.objs.size (Obj.mapSeq (·.push Value.none))).update s.heap.objs.size (Obj.mapSeq (·.pop)) } (lnkT _) hh hf hd hu
    (fun b hb => by rw [List.mem_singleton.mp hb]; exact Nat.le_refl _) k3 (fun b hb => by rw [List.mem_singleton.mp hb]; exact ⟨_, o3, fun v z => by cases z⟩) rfl rfl lk0
  refine gx_drain M hh hl (fun hm => hSa (List.mem_singleton.mp hm).symm) (fun hm => hSc (List.mem_singleton.mp hm).symm) (fun s' ys H acc c I' n' e' r' z' q' => ?_) m [] _ G lk0 I0.bare
  show wpAny _ A (load s.heap.objs.size >>= _) _ _ s'
  exact wpAny_bind (wpAny_load e' (wpAny_pure (hQ acc.toList s' ys H I' r' z' q')))
theorem call_tuple_gx (hr : Room 1 X.A) (hf : X.A.frames = some X.stack) {Q : VK} (hG : GReady X pins σ m cyT (fun ys H => ∀ p, H p = none → Q (.ref p) (upd H p (.tup ys))) a s) :
    wpAny (model X.prog X.w) X.A (call (.type "tuple") [.ref a]) (EP X pins σ Q) E s := by
  obtain ⟨g, go, sg, Hg, fp, ce, M, I0, ha, lim, ready⟩ := id hG.ex
  have hTI : s.TypeIs (.ref a) "generator" := (M.isGen _ ha).typeIs
  refine callType_codes (Q₁ := fun obj s1 => s1.TypeIs obj "tuple" ∧ EP X pins σ Q obj s1) F.called_tuple (F.typeCall_tuple_1 _) F.entry_object_init (codeAny_of_tree ?_) fun obj s1 h1 =>
    ⟨h1.1, F.args_object_init_2 obj _, object_init_meets F.called_tuple.init.lookup F.called_tuple.made (by decide) X.prog X.w X.A.in1 _ s1 ⟨h1.1, rfl, h1.2⟩⟩
  show wpAny _ X.A.in1.in1 (do checkBuiltinCall "tuple.__new__" ⟨[.type "tuple", .ref a], []⟩; again (.builtin "tuple.__new__" ⟨[.type "tuple", .ref a], []⟩)) _ _ s
  refine wpAny_bind (wpAny_of_eq (F.newCall_tuple_1 _) (wpAny_pure ⟨plainId_quiet F.plain_tuple_new _, codeAny_builtin F.entry_tuple_new ?_⟩))
  rw [Around.under_plainId F.plain_tuple_new]
  have hsub := sub_tuple_self
  have hinit := init_tuple_lookup
  have hmh := madeHere_tuple
  have hr1 := hr.dp
  have hr2 := hr.hd
  have col := fun (Q : List Value → Shared → Prop) (E : Value → Shared → Prop) hQ => gx_collect (A := X.A.in1.in1) (E := E) (Q := Q) hG hr2 hf (Nat.le_succ _) (by show X.A.units + 1 + 1 + 2 ≤ _; omega) (by show X.A.depth < _; omega) hQ
  wp_walk using wpAny_typeOf hTI, col
  intro items s' ys H I' r' z' q'
  show wpAny _ _ (Builtin.Tuple.tupleExact items.toArray >>= fun v => ret v) _ _ _
  unfold Builtin.Tuple.tupleExact
  refine wpAny_bind (wpAny_newObj_type (wpAny_pure ?_) ?_)
  · have hn : H s'.heap.objs.size = none := I'.hok.fresh (Nat.le_refl _)
    refine ⟨⟨_, Heap.get?_push_size _ rfl, rfl⟩, .ref s'.heap.objs.size, _, I'.laid (t' := s'.toks) (o := .tup ys) (fun b o e => Heap.get?_push_of_some _ e) (Nat.le_refl _) ⟨z', items, r', ?_⟩, rfl, q' _ hn⟩
    exact ⟨_, Heap.get?_push_size _ rfl, rfl, 0, rfl⟩
  · show items.toArray.size ≤ sizeLine
    rw [List.size_toArray, ← r'.length]
    exact z'
theorem call_all_gx (hr : Room 1 X.A) (hf : X.A.frames = some X.stack) {Q : VK} (hG : GReady X pins σ m (cyB false (Q (.bl false))) (fun _ H => Q (.bl true) H) a s) :
    wpAny (model X.prog X.w) X.A (call (.builtin "all") [.ref a]) (EP X pins σ Q) E s := by
  obtain ⟨g, go, sg, Hg, fp, ce, M, I0, ha, lim, ready⟩ := id hG.ex
  have hr1 := hr.dp
  refine call_function_tree F.kind_all F.plain_all F.entry_all (F.args_all1 _) ?_
  unfold Builtin.«all»
  refine wpAny_bind (m := oneArg "all" _) (wpAny_pure (wpAny_bind (wpAny_pyIter_gen (M.isGen _ ha) (wpAny_pure ⟨plainId_quiet F.plain_all_loop _, ?_⟩))))
  have G := ready [] (fun _ _ => True) X.A.in1.in1 s lnkN hr.hd hf (Nat.le_succ _) (by show X.A.units + 1 + 1 ≤ _; omega) (fun b hb => by cases hb) (fun _ _ e => e) (fun b hb => by cases hb) rfl rfl trivial
  refine gx_all M hr.hd (by omega) (fun s' H b I' h1 h2 => ?_) m [] s G I0.bare
  cases b with
  | true =>
    obtain ⟨_, q⟩ := h1 rfl
    exact ⟨.bl true, H, I', rfl, q⟩
  | false => exact ⟨.bl false, H, I', rfl, h2 rfl⟩
theorem call_any_gx (hr : Room 1 X.A) (hf : X.A.frames = some X.stack) {Q : VK} (hG : GReady X pins σ m (cyB true (Q (.bl true))) (fun _ H => Q (.bl false) H) a s) :
    wpAny (model X.prog X.w) X.A (call (.builtin "any") [.ref a]) (EP X pins σ Q) E s := by
  obtain ⟨g, go, sg, Hg, fp, ce, M, I0, ha, lim, ready⟩ := id hG.ex
  have hr1 := hr.dp
  refine call_function_tree F.kind_any F.plain_any F.entry_any (F.args_any1 _) ?_
  unfold Builtin.«any»
  refine wpAny_bind (m := oneArg "any" _) (wpAny_pure (wpAny_bind (wpAny_pyIter_gen (M.isGen _ ha) (wpAny_pure ⟨plainId_quiet F.plain_any_loop _, ?_⟩))))
  have G := ready [] (fun _ _ => True) X.A.in1.in1 s lnkN hr.hd hf (Nat.le_succ _) (by show X.A.units + 1 + 1 ≤ _; omega) (fun b hb => by cases hb) (fun _ _ e => e) (fun b hb => by cases hb) rfl rfl trivial
  refine gx_any M hr.hd (by omega) (fun s' H b I' h1 h2 => ?_) m [] s G I0.bare
  cases b with
  | false =>
    obtain ⟨_, q⟩ := h1 rfl
    exact ⟨.bl false, H, I', rfl, q⟩
  | true => exact ⟨.bl true, H, I', rfl, h2 rfl⟩
theorem call_sum_gx (hr : Room 1 X.A) (hf : X.A.frames = some X.stack) {Q : VK} (hG : GReady X pins σ m cyS (fun ys H => Q (.int (sumV ys)) H) a s) :
    wpAny (model X.prog X.w) X.A (call (.builtin "sum") [.ref a]) (EP X pins σ Q) E s := by
  obtain ⟨g, go, sg, Hg, fp, ce, M, I0, ha, lim, ready⟩ := id hG.ex
  have hr1 := hr.dp
  have hSa : s.heap.objs.size ≠ a := fun z => by
    have := Heap.lt_size ha
    rw [← z] at this
    exact Nat.lt_irrefl _ this
  have hSc : s.heap.objs.size ≠ cStatics := fun z => by
    obtain ⟨_, hn, _⟩ := lim
    have := hn.lt
    rw [← z] at this
    exact Nat.lt_irrefl _ this
  refine call_function_tree F.kind_sum F.plain_sum F.entry_sum (F.args_sum1 _) ?_
  unfold Builtin.«sum»
  simp only [List.length_cons, List.length_nil]; rw [if_neg (by decide)]
  refine wpAny_bind (wpAny_of_eq (show Builtin.Builtins.bindParams "sum" ["start"] 0 { } = pure [none] from rfl) (wpAny_bind (wpAny_pyIter_gen (M.isGen _ ha) (wpAny_bind (wpAny_mkInt (wpAny_bind (wpAny_pure ?_)))))))
  simp only [List.forIn_cons, List.forIn_nil]; refine wpAny_bind (wpAny_bind (wpAny_bind (wpAny_isInstance (T := "int") (b := false) (typeIs_int _ _ _) PySem.sub_int_str ?_)))
  simp only [Bool.false_eq_true, if_false]; refine wpAny_pure (wpAny_bind (wpAny_bind (wpAny_isInstance (T := "int") (b := false) (typeIs_int _ _ _) sub_int_bytes ?_)))
  simp only [Bool.false_eq_true, if_false]; refine wpAny_pure (wpAny_bind (wpAny_bind (wpAny_isInstance (T := "int") (b := false) (typeIs_int _ _ _) sub_int_bytearray ?_)))
  simp only [Bool.false_eq_true, if_false]; refine wpAny_pure (wpAny_pure (wpAny_bind (wpAny_newObj_type (wpAny_pure ⟨plainId_quiet F.plain_sum_loop _, ?_⟩))))
  have o1 : (s.heap.push { cls := .type "list", data := .seq ([.int 0 s.toks] : List Value).toArray }).get? s.heap.objs.size = some { cls := .type "list", data := .seq ([.int 0 s.toks] : List Value).toArray } := Heap.get?_push_size _ rfl
  have lk0 : LkS s.heap.objs.size [] (s.heap.push { cls := .type "list", data := .seq ([.int 0 s.toks] : List Value).toArray }) := ⟨s.toks, 0, o1⟩
  have G := ready [s.heap.objs.size] (LkS s.heap.objs.size) X.A.in1.in1 { s with heap := s.heap.push { cls := .type "list", data := .seq ([.int 0 s.toks] : List Value).toArray }, toks := s.toks + 1 } (lnkS _) hr.hd hf (Nat.le_succ _) (by show X.A.units + 1 + 1 ≤ _; omega)
    (fun b hb => by rw [List.mem_singleton.mp hb]; exact Nat.le_refl _) (fun b o e => Heap.get?_push_of_some _ e) (fun b hb => by rw [List.mem_singleton.mp hb]; exact ⟨_, o1, fun v z => by cases z⟩) rfl rfl lk0
  refine gx_sum M hr.hd (by omega) (fun hm => hSa (List.mem_singleton.mp hm).symm) (fun hm => hSc (List.mem_singleton.mp hm).symm) (fun s' ys H t I' n' q' => ?_) m [] _ G lk0 I0.bare
  exact ⟨.int (sumV ys), H, I', ⟨t, rfl⟩, q'⟩
end
end GXP
namespace GXP
open PySem PySem.Spec PyProof.Rows L2
/-- F(elt for target in iter if ..): what its reading asks; P the table of the def's code object -/
def tGx (P : Addr) (wi : TI) (g : TG) (tt : TT) (te : TE) (vs : List Nat) (cy : VK → Cy) (Qe : VK → List V → Hp → Prop) : TE := fun σ H Q =>
  wi σ H fun J H1 => GxR.TabG H1 P ∧ ∀ H2, GxR.Tabbed P H1 H2 → ∃ W m, W 0 m [] H2 ∧ Turns J g tt te vs σ (cy Q) (Qe Q) W
section
variable {X : Cx} {c P : Addr} {elt iter tg : Expr} {ifs : List Expr} {scope : Scope} {p pos gpos : Pos} {own : List (Str × Nat)} {wi : TI} {g : TG} {tt : TT} {te : TE} {k : Nat}
/-- what is asked of the expression itself -/
structure GxOk (X : Cx) (k : Nat) (c P : Addr) (elt tg iter : Expr) (ifs : List Expr) (scope : Scope) (own : List (Str × Nat)) (wi : TI) (g : TG) (tt : TT) (te : TE) : Prop where
  hr : Room (k + 1) X.A
  hc : X.calm = true
  tb : LamX.TabB X.base X.mg c P
  code : X.env.code = .ref c
  co : scope.isCoroutine = false
  ok : BlkOk X.N X.env.scope scope own
  nd : X.N.Nodup
  nocell : ∀ y ∈ scope.names, y.2 ≠ .cell
  dot : scope.names.lookup (".0" : Str) = some NameKind.local
  pi : PI X tg iter wi
  pg : ∀ (A : Around) (s : Shared) (H : Hp) (C : Addr) (cl : List (Str × Addr)) (code : Value) (bi : Addr) (fp : List Addr), Room k A → PG (gcx X A s H (genEnv scope cl C code bi X.env) fp) tg g
  pt : ∀ (A : Around) (s : Shared) (H : Hp) (C : Addr) (cl : List (Str × Addr)) (code : Value) (bi : Addr) (fp : List Addr), Room k A → PTs (gcx X A s H (genEnv scope cl C code bi X.env) fp) ifs tt
  pe : ∀ (A : Around) (s : Shared) (H : Hp) (C : Addr) (cl : List (Str × Addr)) (code : Value) (bi : Addr) (fp : List Addr), Room k A → PE (gcx X A s H (genEnv scope cl C code bi X.env) fp) elt te
  fold : ∀ v, genFold iter X.env v = pure v
theorem GxOk.make (G : GxOk X k c P elt tg iter ifs scope own wi g tt te) {cy : Cy} {Qe : List V → Hp → Prop} {pins : List (Addr × Obj)} {s : Shared} {σ : L2.St} {H : Hp} (I : Inv X pins σ H s)
    (h : wi σ H fun J H1 => GxR.TabG H1 P ∧ ∀ H2, GxR.Tabbed P H1 H2 → ∃ W m, W 0 m [] H2 ∧ Turns J g tt te (own.map (·.2)) σ cy Qe W) :
    wpAny (model X.prog X.w) X.A (eval (gxE elt tg iter ifs scope gpos) X.env) (fun u s' => ∃ a m, u = .ref a ∧ GReady X pins σ m cy Qe a s') X.xe s :=
  gx_make G.hr G.tb G.code G.co G.ok G.nd G.nocell G.dot G.pi G.pg G.pt G.pe G.fold I h
theorem pe_tupleGx (hg : Gl X "tuple") (hm : X.mg "tuple" = none) (G : GxOk X k c P elt tg iter ifs scope own wi g tt te)
    (he : starEach [gxE elt tg iter ifs scope gpos] X.env = (false, eval (gxE elt tg iter ifs scope gpos) X.env) :: starEach [] X.env := by rfl) :
    PE X (.Call (.Name "tuple" p) [gxE elt tg iter ifs scope gpos] [] pos) (tGx P wi g tt te (own.map (·.2)) (fun _ => cyT) fun Q ys H => ∀ p, H p = none → Q (.ref p) (upd H p (.tup ys))) := by
  refine ⟨fun pins s σ H Q I h => ?_⟩
  refine wpAny_Call_Name_kw (ld_blt I hg hm (by decide +kernel : bootBuiltins "tuple" = some (.type "tuple")) (PyProof.Rows.callWith_type1 ?_ he (by rfl)))
  rw [he]
  show wpAny _ _ (spliced ((false, eval (gxE elt tg iter ifs scope gpos) X.env) :: backTo pos (starEach [] X.env))) _ _ s
  exact Calls.spliced_cons (thn (G.make I h) fun u s1 ⟨a, m, e, hG⟩ => e ▸ Calls.spliced_nil (call_tuple_gx (G.hr.mono (by omega)) I.ok.frames hG))
theorem pe_allGx (hg : Gl X "all") (hm : X.mg "all" = none) (G : GxOk X k c P elt tg iter ifs scope own wi g tt te)
    (he : starEach [gxE elt tg iter ifs scope gpos] X.env = (false, eval (gxE elt tg iter ifs scope gpos) X.env) :: starEach [] X.env := by rfl) :
    PE X (.Call (.Name "all" p) [gxE elt tg iter ifs scope gpos] [] pos) (tGx P wi g tt te (own.map (·.2)) (fun Q => cyB false (Q (.bl false))) fun Q _ H => Q (.bl true) H) := by
  refine ⟨fun pins s σ H Q I h => ?_⟩
  refine wpAny_Call_Name_kw (ld_blt I hg hm (by decide +kernel : bootBuiltins "all" = some (.builtin "all")) (PyProof.Rows.callWith_builtin1 ?_ he (by rfl)))
  rw [he]
  show wpAny _ _ (spliced ((false, eval (gxE elt tg iter ifs scope gpos) X.env) :: backTo pos (starEach [] X.env))) _ _ s
  exact Calls.spliced_cons (thn (G.make I h) fun u s1 ⟨a, m, e, hG⟩ => e ▸ Calls.spliced_nil (call_all_gx (G.hr.mono (by omega)) I.ok.frames hG))
theorem pe_anyGx (hg : Gl X "any") (hm : X.mg "any" = none) (G : GxOk X k c P elt tg iter ifs scope own wi g tt te)
    (he : starEach [gxE elt tg iter ifs scope gpos] X.env = (false, eval (gxE elt tg iter ifs scope gpos) X.env) :: starEach [] X.env := by rfl) :
    PE X (.Call (.Name "any" p) [gxE elt tg iter ifs scope gpos] [] pos) (tGx P wi g tt te (own.map (·.2)) (fun Q => cyB true (Q (.bl true))) fun Q _ H => Q (.bl false) H) := by
  refine ⟨fun pins s σ H Q I h => ?_⟩
  refine wpAny_Call_Name_kw (ld_blt I hg hm (by decide +kernel : bootBuiltins "any" = some (.builtin "any")) (PyProof.Rows.callWith_builtin1 ?_ he (by rfl)))
  rw [he]
  show wpAny _ _ (spliced ((false, eval (gxE elt tg iter ifs scope gpos) X.env) :: backTo pos (starEach [] X.env))) _ _ s
  exact Calls.spliced_cons (thn (G.make I h) fun u s1 ⟨a, m, e, hG⟩ => e ▸ Calls.spliced_nil (call_any_gx (G.hr.mono (by omega)) I.ok.frames hG))
theorem pe_sumGx (hg : Gl X "sum") (hm : X.mg "sum" = none) (G : GxOk X k c P elt tg iter ifs scope own wi g tt te)
    (he : starEach [gxE elt tg iter ifs scope gpos] X.env = (false, eval (gxE elt tg iter ifs scope gpos) X.env) :: starEach [] X.env := by rfl) :
    PE X (.Call (.Name "sum" p) [gxE elt tg iter ifs scope gpos] [] pos) (tGx P wi g tt te (own.map (·.2)) (fun _ => cyS) fun Q ys H => Q (.int (sumV ys)) H) := by
  refine ⟨fun pins s σ H Q I h => ?_⟩
  refine wpAny_Call_Name_kw (ld_blt I hg hm (by decide +kernel : bootBuiltins "sum" = some (.builtin "sum")) (PyProof.Rows.callWith_builtin1 ?_ he (by rfl)))
  rw [he]
  show wpAny _ _ (spliced ((false, eval (gxE elt tg iter ifs scope gpos) X.env) :: backTo pos (starEach [] X.env))) _ _ s
  exact Calls.spliced_cons (thn (G.make I h) fun u s1 ⟨a, m, e, hG⟩ => e ▸ Calls.spliced_nil (call_sum_gx (G.hr.mono (by omega)) I.ok.frames hG))
end
/-! readings over a list, a tuple, a range: an invariant by the turn, the items so far, the heap -/
section
variable {K : PySem.W.Frag} {a : Addr} {xs : List V} {g : TG} {tt : TT} {te : TE} {vs : List Nat} {σ : L2.St} {cy : Cy} {Qe : List V → Hp → Prop} {H0 : Hp}
theorem gx_tup (Pv : Nat → List V → Hp → Prop) (h0 : Pv 0 [] H0) (hl : ∀ i ys H, i ≤ xs.length → Pv i ys H → SqT K H a xs)
    (hs : ∀ i x ys H, xs[i]? = some x → Pv i ys H → g x (wipe σ vs) H fun σ2 H2 => wipe σ2 vs = wipe σ vs ∧ tt σ2 H2 fun b H3 => if b = true then te σ2 H3 fun y H4 => cy ys y H4 (Pv (i + 1)) else Pv (i + 1) ys H3)
    (hd : ∀ ys H, Pv xs.length ys H → Qe ys H) : ∃ W m, W 0 m [] H0 ∧ Turns (Itt K a) g tt te vs σ cy Qe W := by
  refine ⟨fun i m ys H => m = xs.length - i ∧ i ≤ xs.length ∧ Pv i ys H, xs.length, ⟨rfl, Nat.zero_le _, h0⟩, ?_⟩
  rintro i m ys H ⟨rfl, hi, p⟩
  have q := hl i ys H hi p
  by_cases hlt : i < xs.length
  · refine .inr ⟨⟨xs, _, q, List.getElem?_eq_getElem hlt⟩, by omega, Pv (i + 1), fun ys' H' p' => ⟨_, by omega, rfl, hlt, p'⟩, fun x H' y => ?_⟩
    obtain ⟨rfl, y⟩ := y
    exact hs i x ys _ (y xs q) p
  · have e : i = xs.length := by omega
    subst e
    exact .inl ⟨⟨xs, q, Nat.le_refl _⟩, hd ys H p⟩
theorem gx_list (Pv : Nat → List V → Hp → Prop) (h0 : Pv 0 [] H0) (hl : ∀ i ys H, i ≤ xs.length → Pv i ys H → SqL K H a xs)
    (hs : ∀ i x ys H, xs[i]? = some x → Pv i ys H → g x (wipe σ vs) H fun σ2 H2 => wipe σ2 vs = wipe σ vs ∧ tt σ2 H2 fun b H3 => if b = true then te σ2 H3 fun y H4 => cy ys y H4 (Pv (i + 1)) else Pv (i + 1) ys H3)
    (hd : ∀ ys H, Pv xs.length ys H → Qe ys H) : ∃ W m, W 0 m [] H0 ∧ Turns (Itl K a) g tt te vs σ cy Qe W := by
  refine ⟨fun i m ys H => m = xs.length - i ∧ i ≤ xs.length ∧ Pv i ys H, xs.length, ⟨rfl, Nat.zero_le _, h0⟩, ?_⟩
  rintro i m ys H ⟨rfl, hi, p⟩
  have q := hl i ys H hi p
  by_cases hlt : i < xs.length
  · refine .inr ⟨⟨xs, _, q, List.getElem?_eq_getElem hlt⟩, by omega, Pv (i + 1), fun ys' H' p' => ⟨_, by omega, rfl, hlt, p'⟩, fun x H' y => ?_⟩
    obtain ⟨rfl, y⟩ := y
    exact hs i x ys _ (y xs q) p
  · have e : i = xs.length := by omega
    subst e
    exact .inl ⟨⟨xs, q, Nat.le_refl _⟩, hd ys H p⟩
theorem gx_range {lo : Int} {n : Nat} (Pv : Nat → List V → Hp → Prop) (h0 : Pv 0 [] H0)
    (hs : ∀ i ys H, i < n → Pv i ys H → g (.int (lo + i)) (wipe σ vs) H fun σ2 H2 => wipe σ2 vs = wipe σ vs ∧ tt σ2 H2 fun b H3 => if b = true then te σ2 H3 fun y H4 => cy ys y H4 (Pv (i + 1)) else Pv (i + 1) ys H3)
    (hd : ∀ ys H, Pv n ys H → Qe ys H) : ∃ W m, W 0 m [] H0 ∧ Turns (Itr lo n) g tt te vs σ cy Qe W := by
  refine ⟨fun i m ys H => m = n - i ∧ i ≤ n ∧ Pv i ys H, n, ⟨rfl, Nat.zero_le _, h0⟩, ?_⟩
  rintro i m ys H ⟨rfl, hi, p⟩
  by_cases hlt : i < n
  · refine .inr ⟨hlt, by omega, Pv (i + 1), fun ys' H' p' => ⟨_, by omega, rfl, hlt, p'⟩, fun x H' y => ?_⟩
    obtain ⟨rfl, rfl⟩ := y
    exact hs i ys _ hlt p
  · have e : i = n := by omega
    subst e
    exact .inl ⟨Nat.le_refl _, hd ys H p⟩
end
end GXP
/-! ### sorted(d) of a dict whose keys are pairs of ints, any number of them -/
namespace SDT
open PySem PySem.Spec PyProof.Rows L2
def keyAt (H : Hp) (b : Addr) : Int × Int := match H b with
  | some (.tup [.int i, .int j]) => (i, j)
  | _ => (0, 0)
def keyOf (H : Hp) (v : Value) : Int × Int := match v with
  | .ref b => keyAt H b
  | _ => (0, 0)
theorem keyAt_of {H : Hp} {b : Addr} {i j : Int} (e : H b = some (.tup [.int i, .int j])) : keyAt H b = (i, j) := by
  unfold keyAt
  rw [e]
def pairKey (k : Int × Int) : List Key := [Sum.inl k.1, Sum.inl k.2]
/-- b holds the pair k -/
abbrev PairAt (H : Hp) (k : Int × Int) (b : Addr) : Prop := H b = some (.tup [.int k.1, .int k.2])
def rSortedDT : List V → Hp → VK → Prop := fun vs H Q => ∃ (d : Addr) (kvs : List (List Key × V)) (ks : List (Int × Int)), vs = [V.ref d] ∧ Rd H d (.dT kvs) ∧ kvs.map (·.1) = ks.map pairKey ∧
  ∀ (ys : List (Int × Int)) (bs : List Addr) (p : Addr), ys.Perm ks → ys.Pairwise (fun x y => SrtO.lexB y x = false) → Paired (PairAt H) ys bs → H p = none → Q (.ref p) (upd H p (.lst (bs.map V.ref)))
theorem paired_keys {H : Hp} : ∀ {kvs : List (List Key × V)} {xs : List (List Key × Addr × Value)} {ks : List (Int × Int)}, KT H kvs xs → kvs.map (·.1) = ks.map pairKey → (∀ x ∈ xs, ∃ k : Int × Int, PairAt H k x.2.1) ∧ xs.map (fun x => keyAt H x.2.1) = ks
  | _, _, [], .nil, _ => ⟨fun x m => absurd m List.not_mem_nil, rfl⟩
  | _, _, _ :: _, .nil, e => by cases e
  | _, _, [], .cons _ _, e => by cases e
  | _, _, k :: ks, .cons h t, e => by
    obtain ⟨e1, e2⟩ := List.cons.inj e
    obtain ⟨h1, h2, _⟩ := h
    dsimp only at e1
    rw [e1] at h2
    have q : PairAt H k _ := h2
    obtain ⟨r1, r2⟩ := paired_keys t e2
    refine ⟨fun x m => ?_, ?_⟩
    · rcases List.mem_cons.mp m with rfl | m
      · exact ⟨k, q⟩
      · exact r1 x m
    · rw [List.map_cons, keyAt_of q, r2]
theorem paired_of {H : Hp} : ∀ {bs : List Addr}, (∀ b ∈ bs, ∃ k : Int × Int, PairAt H k b) → Paired (PairAt H) (bs.map (keyAt H)) bs
  | [], _ => .nil
  | b :: bs, h => by
    refine .cons ?_ (paired_of fun x m => h x (List.mem_cons_of_mem _ m))
    obtain ⟨k, e⟩ := h b List.mem_cons_self
    rw [keyAt_of e]
    exact e
theorem refs_of : ∀ {us : List Value}, (∀ u ∈ us, ∃ a, u = Value.ref a) → ∃ bs : List Addr, us = bs.map Value.ref
  | [], _ => ⟨[], rfl⟩
  | u :: us, h => by
    obtain ⟨bs, e⟩ := refs_of (us := us) fun x m => h x (List.mem_cons_of_mem _ m)
    obtain ⟨a, e2⟩ := h u List.mem_cons_self
    exact ⟨a :: bs, by rw [e, e2]; rfl⟩
section
variable {X : Cx}
theorem cr_sortedDT (hc : X.calm = true) : CallR X (.builtin "sorted") rSortedDT := by
  intro pins s σ H xs us Q I r h
  obtain ⟨d, kvs, ks, rfl, hd, hks, q⟩ := h
  obtain ⟨u, rfl, rx⟩ := vals1 r
  cases rx
  obtain ⟨z, hs, ps, pr, o, es, ep, ho, hx, hdt, he, hn⟩ := (show ObjOk X.prog X.w H s.heap d (.dT kvs) from hd.ok I.hok)
  have l1 : es.size = ps.length := size_of_entries he
  have l2 : kvs.length = ps.length := Paired.length pr
  obtain ⟨pk, ek⟩ := paired_keys pr hks
  refine Calls.call_function_entry PyProof.Rows.kind_sorted PyProof.Rows.plain_sorted PyProof.Rows.entry_sorted (PyProof.Rows.args_sorted1 _) ?_
  unfold Builtin.«sorted»
  refine wpAny_bind (m := checkCount "sorted" 1 1 _) (wpAny_pure ?_)
  refine wpAny_bind (PySem.W.kdu_collect (A := X.A.in1) (kdl_raw hs hx hdt) (I.ok.hd hc) ho (by omega) fun h' tk acc hk it => ?_)
  have ea : acc.toList = ps.map fun x => Value.ref x.2.1 := by
    have hl : acc.toList.length = ps.length := by rw [Array.length_toList, it.1]; exact l1
    apply List.ext_getElem?
    intro j
    rw [List.getElem?_map]
    cases hj : acc.toList[j]? with
    | none =>
      have h1 := List.getElem?_eq_none_iff.mp hj
      rw [List.getElem?_eq_none (by omega)]
      all_goals rfl
    | some v =>
      obtain ⟨en, hen, hv⟩ := it.2 j v (by rw [← Array.getElem?_toList]; exact hj)
      have qe := entry_at he j
      rw [hen] at qe
      cases hb : ps[j]? with
      | none =>
        rw [hb] at qe
        exact nomatch (show some en = none from qe)
      | some b =>
        rw [hb] at qe
        have e2 : en = entryOfKey (tupleKind (mixKind X.prog X.w)) b := Option.some.inj qe
        rw [hv, e2]
        all_goals rfl
  have hal : acc.toList.length = ps.length := by rw [ea, List.length_map]
  have I1 : Inv X pins σ H { s with heap := h', toks := tk } := I.kept hk
  refine wpAny_bind (wpAny_newList ?_ (by rw [hal]; omega))
  have hoL : (h'.push (seqObj "list" acc.toList.toArray 0)).get? h'.objs.size = some (seqObj "list" acc.toList.toArray 0) := Heap.get?_push_size _ rfl
  show wpAny _ _ _ _ _ { s with heap := h'.push (seqObj "list" acc.toList.toArray 0), toks := tk }
  have pair : ∀ v ∈ acc.toList, Srt.IsPair (h'.push (seqObj "list" acc.toList.toArray 0)) v (keyOf H v).1 (keyOf H v).2 := fun v m => by
    rw [ea] at m
    obtain ⟨x, hm, rfl⟩ := List.mem_map.mp m
    obtain ⟨k, hk2⟩ := pk x hm
    obtain ⟨_, its2, r2, o2, ho2, hc2, n2, hd2⟩ := I1.hok _ _ hk2
    obtain ⟨u1, u2, rfl, ri, rj⟩ := vals2 r2
    obtain ⟨t1, rfl⟩ := ri
    obtain ⟨t2, rfl⟩ := rj
    have e : keyOf H (Value.ref x.2.1) = k := keyAt_of hk2
    rw [e]
    exact ⟨x.2.1, o2, t1, t2, n2, rfl, Heap.get?_push_of_some _ ho2, hc2, hd2⟩
  refine wpAny_bind (wpAny_holding (wpAny_call_entry PyProof.Rows.slot_list_sort ⟨_, hoL, rfl⟩ PyProof.Rows.entry_list_sort
    (SrtO.list_sort_ord (s := { s with heap := h'.push (seqObj "list" acc.toList.toArray 0), toks := tk }) (SrtO.swo_lex (keyOf H)) hoL (by rw [hal]; omega)
      (fun h2 => SrtO.pairs_sortableO (by omega) pair fun o1 e c => ?_) fun out h1 h2 => ⟨_, rfl, ?_⟩)
    (PyProof.Rows.args_list_sort _)))
  · have e' : some o1 = some (seqObj "list" acc.toList.toArray 0) := e.symm.trans hoL
    cases e'
    exact absurd (Value.type.inj c) (by decide)
  obtain ⟨e', he'⟩ := PyProof.Rows.sortedHeap_at (vs := acc.toList) (out := out.toArray) hoL
  have hm : ∀ u ∈ out, ∃ x ∈ ps, u = Value.ref x.2.1 := fun u hu => by
    have := h2.perm.mem_iff.mp hu
    rw [ea] at this
    obtain ⟨x, hx, e⟩ := List.mem_map.mp this
    exact ⟨x, hx, e.symm⟩
  obtain ⟨bs, rfl⟩ := refs_of (us := out) fun u hu => by
    obtain ⟨x, _, e⟩ := hm u hu
    exact ⟨_, e⟩
  have hb : ∀ b ∈ bs, ∃ k : Int × Int, PairAt H k b := fun b hb => by
    obtain ⟨x, hx, e⟩ := hm _ (List.mem_map.mpr ⟨b, hb, rfl⟩)
    cases e
    exact pk x hx
  have ev : (bs.map Value.ref).map (keyOf H) = bs.map (keyAt H) := by
    rw [List.map_map]
    rfl
  have hp : (bs.map (keyAt H)).Perm ks := by
    have := h2.perm.map (keyOf H)
    rw [ev, ea, List.map_map] at this
    rw [← ek]
    exact this
  have hsr : (bs.map (keyAt H)).Pairwise fun x y => SrtO.lexB y x = false := by
    rw [← ev]
    exact SrtO.srtd_map (f := keyOf H) (lt := SrtO.lexB) h1
  have hlen : (bs.map V.ref).length ≤ sizeLine := by
    have := h2.perm.length_eq
    rw [List.length_map] at this
    rw [List.length_map]
    omega
  refine wpAny_pure ⟨_, rfl, .ref h'.objs.size, upd H h'.objs.size (.lst (bs.map V.ref)), I1.laid (t' := tk) (fun b u e => ?_) (Nat.le_refl _)
    (show ObjOk X.prog X.w _ _ _ (.lst (bs.map V.ref)) from ⟨hlen, bs.map Value.ref, e', vals_refs bs, he'⟩), rfl, q _ bs _ hp hsr (paired_of hb) (I1.hok.fresh (Nat.le_refl _))⟩
  have hb : b < h'.objs.size := Heap.lt_size e
  rw [PyProof.Rows.sortedHeap_old (Nat.ne_of_lt hb) (by rw [size_push']; exact Nat.lt_succ_of_lt hb)]
  exact Heap.get?_push_of_some _ e
end
end SDT
namespace PM
/-- terms: the pair of exponents and the coefficient -/
abbrev Ex := Int × Int
abbrev Trm := Ex × Int
def ltE (p q : Ex) : Prop := p.1 < q.1 ∨ (p.1 = q.1 ∧ p.2 < q.2)
instance (p q : Ex) : Decidable (ltE p q) := by
  unfold ltE
  exact inferInstance
theorem ltE_trans {p q r : Ex} (h : ltE p q) (k : ltE q r) : ltE p r := by
  unfold ltE at *
  omega
theorem ltE_irr {p : Ex} : ¬ ltE p p := by
  unfold ltE
  omega
theorem ltE_ne {p q : Ex} (h : ltE p q) : p ≠ q := fun e => by
  subst e
  exact ltE_irr h
theorem ltE_or {p q : Ex} (h : ¬ ltE p q) (k : p ≠ q) : ltE q p := by
  unfold ltE at *
  have k : ¬ (p.1 = q.1 ∧ p.2 = q.2) := fun z => k (Prod.ext z.1 z.2)
  omega
/-- the value of a list of terms under a weighing of the exponents -/
def lin (f : Ex → Int) : List Trm → Int
  | [] => 0
  | t :: r => t.2 * f t.1 + lin f r
def Eqv (p q : List Trm) : Prop := ∀ f, lin f p = lin f q
theorem Eqv.refl (p : List Trm) : Eqv p p := fun _ => rfl
theorem Eqv.symm {p q : List Trm} (h : Eqv p q) : Eqv q p := fun f => (h f).symm
theorem Eqv.trans {p q r : List Trm} (h : Eqv p q) (k : Eqv q r) : Eqv p r := fun f => (h f).trans (k f)
theorem lin_append (f : Ex → Int) : ∀ p q : List Trm, lin f (p ++ q) = lin f p + lin f q
  | [], q => by simp [lin]
  | t :: r, q => by
    simp only [List.cons_append, lin, lin_append f r q]
    omega
theorem Eqv.append {p p' q q' : List Trm} (h : Eqv p p') (k : Eqv q q') : Eqv (p ++ q) (p' ++ q') := fun f => by
  rw [lin_append, lin_append, h f, k f]
theorem Eqv.perm {p q : List Trm} (h : p.Perm q) : Eqv p q := fun f => by
  induction h with
  | nil => rfl
  | cons x _ ih => simp only [lin, ih]
  | swap x y l =>
    simp only [lin]
    omega
  | trans _ _ a b => exact a.trans b
/-- strictly ascending, no coefficient 0 -/
def Canon (p : List Trm) : Prop := p.Pairwise (fun s t => ltE s.1 t.1) ∧ ∀ t ∈ p, t.2 ≠ 0
theorem lin_zero {f : Ex → Int} : ∀ {p : List Trm}, (∀ t ∈ p, f t.1 = 0) → lin f p = 0
  | [], _ => rfl
  | t :: r, h => by
    rw [lin, h t List.mem_cons_self, lin_zero (p := r) fun s hs => h s (List.mem_cons_of_mem _ hs)]
    simp
theorem canon_uniq : ∀ {p q : List Trm}, Canon p → Canon q → Eqv p q → p = q
  | [], [], _, _, _ => rfl
  | [], t :: r, _, hq, h => by
    exfalso
    have e := h fun x => if x = t.1 then 1 else 0
    have z : lin (fun x => if x = t.1 then (1 : Int) else 0) r = 0 := lin_zero fun s hs => if_neg (ltE_ne ((List.pairwise_cons.mp hq.1).1 s hs)).symm
    simp only [lin, z, if_pos] at e
    exact hq.2 t List.mem_cons_self (by omega)
  | t :: r, [], hp, _, h => by
    exfalso
    have e := h fun x => if x = t.1 then 1 else 0
    have z : lin (fun x => if x = t.1 then (1 : Int) else 0) r = 0 := lin_zero fun s hs => if_neg (ltE_ne ((List.pairwise_cons.mp hp.1).1 s hs)).symm
    simp only [lin, z, if_pos] at e
    exact hp.2 t List.mem_cons_self (by omega)
  | t :: r, u :: w, hp, hq, h => by
    have p1 := List.pairwise_cons.mp hp.1
    have q1 := List.pairwise_cons.mp hq.1
    have key : t.1 = u.1 := by
      by_cases e : t.1 = u.1
      · exact e
      · exfalso
        by_cases l : ltE t.1 u.1
        · have z1 : lin (fun x => if x = t.1 then (1 : Int) else 0) r = 0 := lin_zero fun s hs => if_neg (ltE_ne (p1.1 s hs)).symm
          have z2 : lin (fun x => if x = t.1 then (1 : Int) else 0) (u :: w) = 0 := lin_zero fun s hs => by
            refine if_neg (Ne.symm ?_)
            rcases List.mem_cons.mp hs with rfl | hs
            · exact e
            · exact ltE_ne (ltE_trans l (q1.1 s hs))
          have e2 := h fun x => if x = t.1 then 1 else 0
          rw [z2] at e2
          simp only [lin, z1, if_pos] at e2
          exact hp.2 t List.mem_cons_self (by omega)
        · have l := ltE_or l e
          have z1 : lin (fun x => if x = u.1 then (1 : Int) else 0) w = 0 := lin_zero fun s hs => if_neg (ltE_ne (q1.1 s hs)).symm
          have z2 : lin (fun x => if x = u.1 then (1 : Int) else 0) (t :: r) = 0 := lin_zero fun s hs => by
            refine if_neg (Ne.symm ?_)
            rcases List.mem_cons.mp hs with rfl | hs
            · exact Ne.symm e
            · exact ltE_ne (ltE_trans l (p1.1 s hs))
          have e2 := h fun x => if x = u.1 then 1 else 0
          rw [z2] at e2
          simp only [lin, z1, if_pos] at e2
          exact hq.2 u List.mem_cons_self (by omega)
    have z1 : lin (fun x => if x = t.1 then (1 : Int) else 0) r = 0 := lin_zero fun s hs => if_neg (ltE_ne (p1.1 s hs)).symm
    have z2 : lin (fun x => if x = t.1 then (1 : Int) else 0) w = 0 := lin_zero fun s hs => if_neg (by rw [key]; exact (ltE_ne (q1.1 s hs)).symm)
    have e2 := h fun x => if x = t.1 then 1 else 0
    simp only [lin, z1, z2] at e2
    simp only [if_true, if_pos key.symm] at e2
    have ec : t.2 = u.2 := by omega
    have et : t = u := Prod.ext key ec
    have er : Eqv r w := fun f => by
      have e3 := h f
      simp only [lin, et] at e3
      omega
    rw [et, canon_uniq ⟨p1.2, fun s hs => hp.2 s (List.mem_cons_of_mem _ hs)⟩ ⟨q1.2, fun s hs => hq.2 s (List.mem_cons_of_mem _ hs)⟩ er]
/-- a term put into a list in order -/
def ins (t : Trm) : List Trm → List Trm
  | [] => if t.2 = 0 then [] else [t]
  | u :: r => if ltE t.1 u.1 then (if t.2 = 0 then u :: r else t :: u :: r) else if t.1 = u.1 then (if t.2 + u.2 = 0 then r else (t.1, t.2 + u.2) :: r) else u :: ins t r
def canon (ts : List Trm) : List Trm := ts.foldr ins []
theorem lin_ins (f : Ex → Int) (t : Trm) : ∀ p : List Trm, lin f (ins t p) = t.2 * f t.1 + lin f p
  | [] => by
    unfold ins
    split
    · rename_i h
      rw [h]
      simp [lin]
    · simp [lin]
  | u :: r => by
    unfold ins
    split
    · split
      · rename_i h
        rw [h]
        simp
      · simp [lin]
    · split
      · rename_i e
        split
        · rename_i h
          simp only [lin]
          rw [← e]
          have : t.2 * f t.1 + u.2 * f t.1 = 0 := by
            rw [← Int.add_mul, h, Int.zero_mul]
          omega
        · simp only [lin]
          rw [← e, Int.add_mul]
          omega
      · simp only [lin, lin_ins f t r]
        omega
theorem eqv_canon (ts : List Trm) : Eqv (canon ts) ts := fun f => by
  induction ts with
  | nil => rfl
  | cons t r ih =>
    show lin f (ins t (canon r)) = _
    rw [lin_ins, ih]
    rfl
theorem mem_ins {t s : Trm} : ∀ {p : List Trm}, s ∈ ins t p → s.1 = t.1 ∨ s ∈ p
  | [], h => by
    unfold ins at h
    split at h
    · cases h
    · rw [List.mem_singleton] at h
      exact .inl (by rw [h])
  | u :: r, h => by
    unfold ins at h
    split at h
    · split at h
      · exact .inr h
      · rcases List.mem_cons.mp h with h | h
        · exact .inl (by rw [h])
        · exact .inr h
    · split at h
      · split at h
        · exact .inr (List.mem_cons_of_mem _ h)
        · rcases List.mem_cons.mp h with h | h
          · exact .inl (by rw [h])
          · exact .inr (List.mem_cons_of_mem _ h)
      · rcases List.mem_cons.mp h with h | h
        · exact .inr (h ▸ List.mem_cons_self)
        · rcases mem_ins h with h | h
          · exact .inl h
          · exact .inr (List.mem_cons_of_mem _ h)
theorem canon_ins {t : Trm} : ∀ {p : List Trm}, Canon p → Canon (ins t p)
  | [], _ => by
    unfold ins
    split
    · exact ⟨List.Pairwise.nil, fun s hs => by cases hs⟩
    · rename_i h
      exact ⟨List.pairwise_singleton _ _, fun s hs => by
        rw [List.mem_singleton] at hs
        rw [hs]
        exact h⟩
  | u :: r, hp => by
    have p1 := List.pairwise_cons.mp hp.1
    have tl : Canon r := ⟨p1.2, fun s hs => hp.2 s (List.mem_cons_of_mem _ hs)⟩
    unfold ins
    split
    · rename_i l
      split
      · exact hp
      · rename_i h
        refine ⟨List.pairwise_cons.mpr ⟨fun s hs => ?_, hp.1⟩, fun s hs => ?_⟩
        · rcases List.mem_cons.mp hs with rfl | hs
          · exact l
          · exact ltE_trans l (p1.1 s hs)
        · rcases List.mem_cons.mp hs with rfl | hs
          · exact h
          · exact hp.2 s hs
    · rename_i l
      split
      · rename_i e
        split
        · exact tl
        · rename_i h
          refine ⟨List.pairwise_cons.mpr ⟨fun s hs => ?_, p1.2⟩, fun s hs => ?_⟩
          · show ltE t.1 s.1
            rw [e]
            exact p1.1 s hs
          · rcases List.mem_cons.mp hs with rfl | hs
            · exact h
            · exact hp.2 s (List.mem_cons_of_mem _ hs)
      · rename_i e
        have ih := canon_ins (t := t) tl
        refine ⟨List.pairwise_cons.mpr ⟨fun s hs => ?_, ih.1⟩, fun s hs => ?_⟩
        · rcases mem_ins hs with h | h
          · rw [h]
            exact ltE_or l e
          · exact p1.1 s h
        · rcases List.mem_cons.mp hs with rfl | hs
          · exact hp.2 s List.mem_cons_self
          · exact ih.2 s hs
theorem canon_canon (ts : List Trm) : Canon (canon ts) := by
  induction ts with
  | nil => exact ⟨List.Pairwise.nil, fun s hs => by cases hs⟩
  | cons t r ih => exact canon_ins ih
theorem canon_of {p ts : List Trm} (h : Canon p) (e : Eqv p ts) : p = canon ts := canon_uniq h (canon_canon ts) (e.trans (eqv_canon ts).symm)
theorem canon_congr {p q : List Trm} (h : Eqv p q) : canon p = canon q := canon_uniq (canon_canon p) (canon_canon q) ((eqv_canon p).trans (h.trans (eqv_canon q).symm))
theorem canon_self {p : List Trm} (h : Canon p) : canon p = p := (canon_of h (Eqv.refl p)).symm
/-! products -/
def addE (p q : Ex) : Ex := (p.1 + q.1, p.2 + q.2)
def mulT (p q : List Trm) : List Trm := p.flatMap fun x => q.map fun y => (addE x.1 y.1, x.2 * y.2)
theorem lin_scale (f : Ex → Int) (x : Trm) : ∀ q : List Trm, lin f (q.map fun y => (addE x.1 y.1, x.2 * y.2)) = x.2 * lin (fun y => f (addE x.1 y)) q
  | [] => by simp [lin]
  | y :: r => by
    simp only [List.map_cons, lin, lin_scale f x r]
    rw [Int.mul_add, Int.mul_assoc]
theorem lin_mul (f : Ex → Int) (q : List Trm) : ∀ p : List Trm, lin f (mulT p q) = lin (fun x => lin (fun y => f (addE x y)) q) p
  | [] => rfl
  | x :: r => by
    show lin f ((q.map fun y => (addE x.1 y.1, x.2 * y.2)) ++ mulT r q) = _
    rw [lin_append, lin_scale, lin_mul f q r]
    rfl
theorem lin_congr {f g : Ex → Int} (h : ∀ x, f x = g x) (p : List Trm) : lin f p = lin g p := by
  rw [show f = g from funext h]
theorem lin_add (f g : Ex → Int) : ∀ p : List Trm, lin (fun x => f x + g x) p = lin f p + lin g p
  | [] => by simp [lin]
  | t :: r => by
    simp only [lin, lin_add f g r]
    rw [Int.mul_add]
    omega
theorem lin_smul (c : Int) (f : Ex → Int) : ∀ p : List Trm, lin (fun x => c * f x) p = c * lin f p
  | [] => by simp [lin]
  | t :: r => by
    simp only [lin, lin_smul c f r]
    rw [Int.mul_add, Int.mul_left_comm]
theorem lin_const0 : ∀ p : List Trm, lin (fun _ => 0) p = 0
  | [] => rfl
  | t :: r => by simp [lin, lin_const0 r]
theorem lin_swap (g : Ex → Ex → Int) (q : List Trm) : ∀ p : List Trm, lin (fun x => lin (fun y => g x y) q) p = lin (fun y => lin (fun x => g x y) p) q
  | [] => by simp only [lin, lin_const0]
  | t :: r => by
    simp only [lin]
    rw [lin_swap g q r, lin_add, lin_smul]
theorem Eqv.mul {p p' q q' : List Trm} (h : Eqv p p') (k : Eqv q q') : Eqv (mulT p q) (mulT p' q') := fun f => by
  rw [lin_mul, lin_mul, h, lin_congr fun x => k _]
theorem mul_comm (p q : List Trm) : Eqv (mulT p q) (mulT q p) := fun f => by
  rw [lin_mul, lin_mul, lin_swap]
  refine lin_congr (fun y => lin_congr (fun x => ?_) _) _
  unfold addE
  rw [Int.add_comm, Int.add_comm x.2]
theorem mul_assoc (p q r : List Trm) : Eqv (mulT (mulT p q) r) (mulT p (mulT q r)) := fun f => by
  rw [lin_mul, lin_mul, lin_mul]
  refine lin_congr (fun x => ?_) _
  rw [lin_mul]
  refine lin_congr (fun y => lin_congr (fun z => ?_) _) _
  unfold addE
  simp only [Int.add_assoc]
def one : List Trm := [((0, 0), 1)]
theorem one_mul (p : List Trm) : Eqv (mulT one p) p := fun f => by
  rw [lin_mul]
  show (1 : Int) * lin _ p + 0 = _
  rw [Int.one_mul, Int.add_zero]
  refine lin_congr (fun y => ?_) _
  unfold addE
  simp
/-- powers -/
def pw (p : List Trm) : Nat → List Trm
  | 0 => one
  | n + 1 => mulT (pw p n) p
theorem pw_add (p : List Trm) (i : Nat) : ∀ j, Eqv (mulT (pw p i) (pw p j)) (pw p (i + j))
  | 0 => (mul_comm _ _).trans (one_mul _)
  | j + 1 => (mul_assoc _ _ _).symm.trans (Eqv.mul (pw_add p i j) (Eqv.refl p))
theorem pw_congr {p q : List Trm} (h : Eqv p q) : ∀ n, Eqv (pw p n) (pw q n)
  | 0 => Eqv.refl _
  | n + 1 => Eqv.mul (pw_congr h n) h
/-! the size of coefficients -/
def norm : List Trm → Nat
  | [] => 0
  | t :: r => t.2.natAbs + norm r
theorem norm_append : ∀ p q : List Trm, norm (p ++ q) = norm p + norm q
  | [], q => by simp [norm]
  | t :: r, q => by
    simp only [List.cons_append, norm, norm_append r q]
    omega
theorem norm_ins (t : Trm) : ∀ p : List Trm, norm (ins t p) ≤ t.2.natAbs + norm p
  | [] => by
    unfold ins
    split <;> simp [norm]
  | u :: r => by
    unfold ins
    split
    · split <;> simp [norm]
    · split
      · split
        · simp only [norm]
          omega
        · simp only [norm]
          omega
      · have := norm_ins t r
        simp only [norm]
        omega
theorem norm_canon : ∀ ts : List Trm, norm (canon ts) ≤ norm ts
  | [] => Nat.le_refl _
  | t :: r => by
    show norm (ins t (canon r)) ≤ _
    have h1 := norm_ins t (canon r)
    have h2 := norm_canon r
    simp only [norm]
    omega
theorem norm_scale (x : Trm) : ∀ q : List Trm, norm (q.map fun y => (addE x.1 y.1, x.2 * y.2)) = x.2.natAbs * norm q
  | [] => by simp [norm]
  | y :: r => by
    simp only [List.map_cons, norm, norm_scale x r]
    rw [Nat.mul_add, Int.natAbs_mul]
theorem norm_mul (q : List Trm) : ∀ p : List Trm, norm (mulT p q) = norm p * norm q
  | [] => by simp [norm, mulT]
  | x :: r => by
    show norm ((q.map fun y => (addE x.1 y.1, x.2 * y.2)) ++ mulT r q) = _
    rw [norm_append, norm_scale, norm_mul q r]
    simp only [norm]
    rw [Nat.add_mul]
theorem norm_mem {t : Trm} : ∀ {p : List Trm}, t ∈ p → t.2.natAbs ≤ norm p
  | u :: r, h => by
    rcases List.mem_cons.mp h with rfl | h
    · simp only [norm]
      omega
    · have := norm_mem h
      simp only [norm]
      omega
theorem length_canon_le : ∀ ts : List Trm, (canon ts).length ≤ ts.length
  | [] => Nat.le_refl _
  | t :: r => by
    have h : ∀ p : List Trm, (ins t p).length ≤ p.length + 1 := by
      intro p
      induction p with
      | nil =>
        unfold ins
        split <;> simp
      | cons u w ih =>
        unfold ins
        split
        · split <;> simp
        · split
          · split <;> simp <;> omega
          · simp only [List.length_cons]
            omega
    have h2 := length_canon_le r
    have h3 := h (canon r)
    show (ins t (canon r)).length ≤ _
    simp only [List.length_cons]
    omega
theorem length_mul (p q : List Trm) : (mulT p q).length = p.length * q.length := by
  induction p with
  | nil => simp [mulT]
  | cons x r ih =>
    show ((q.map fun y => (addE x.1 y.1, x.2 * y.2)) ++ mulT r q).length = _
    rw [List.length_append, List.length_map, ih, List.length_cons, Nat.add_mul]
    omega
/-! a dict that gathers: pairs in the order in which they came, no key twice -/
def look (d : List Trm) (k : Ex) : Int := match d.find? (fun p => decide (p.1 = k)) with
  | some p => p.2
  | none => 0
def put (d : List Trm) (k : Ex) (v : Int) : List Trm := if d.any (fun p => decide (p.1 = k)) then d.map (fun p => if p.1 = k then (p.1, v) else p) else d ++ [(k, v)]
def addTo (d : List Trm) (t : Trm) : List Trm := put d t.1 (look d t.1 + t.2)
def gather (ts : List Trm) : List Trm := ts.foldl addTo []
def keys (d : List Trm) : List Ex := d.map (·.1)
theorem keys_put (d : List Trm) (k : Ex) (v : Int) : keys (put d k v) = if k ∈ keys d then keys d else keys d ++ [k] := by
  have h : (d.any fun p => decide (p.1 = k)) = true ↔ k ∈ keys d := by
    rw [List.any_eq_true]
    unfold keys
    constructor
    · rintro ⟨p, hp, e⟩
      exact List.mem_map.mpr ⟨p, hp, of_decide_eq_true e⟩
    · intro h
      obtain ⟨p, hp, e⟩ := List.mem_map.mp h
      exact ⟨p, hp, decide_eq_true e⟩
  unfold put
  by_cases hk : k ∈ keys d
  · rw [if_pos (h.mpr hk), if_pos hk]
    unfold keys
    rw [List.map_map]
    refine List.map_congr_left fun p _ => ?_
    show (if p.1 = k then (p.1, v) else p).1 = p.1
    split <;> rfl
  · rw [if_neg (fun z => hk (h.mp z)), if_neg hk]
    unfold keys
    rw [List.map_append]
    rfl
theorem nodup_put {d : List Trm} (h : (keys d).Nodup) (k : Ex) (v : Int) : (keys (put d k v)).Nodup := by
  rw [keys_put]
  split
  · exact h
  · rename_i hk
    rw [List.nodup_append]
    refine ⟨h, List.pairwise_singleton _ _, fun a ha b hb => ?_⟩
    rw [List.mem_singleton] at hb
    rw [hb]
    exact fun e => hk (e ▸ ha)
theorem look_none {d : List Trm} {k : Ex} (h : k ∉ keys d) : look d k = 0 := by
  unfold look
  rw [List.find?_eq_none.mpr]
  intro p hp e
  exact h (List.mem_map.mpr ⟨p, hp, of_decide_eq_true e⟩)
theorem look_cons (p : Trm) (d : List Trm) (k : Ex) : look (p :: d) k = if p.1 = k then p.2 else look d k := by
  unfold look
  rw [List.find?_cons]
  by_cases h : p.1 = k
  · simp [h]
  · simp [h]
theorem lin_map_put (f : Ex → Int) (k : Ex) (v : Int) : ∀ {d : List Trm}, (keys d).Nodup → k ∈ keys d → lin f (d.map fun p => if p.1 = k then (p.1, v) else p) = lin f d + (v - look d k) * f k
  | [], _, h => by simp [keys] at h
  | p :: r, hn, hk => by
    have n1 : p.1 ∉ keys r ∧ (keys r).Nodup := List.nodup_cons.mp hn
    rw [look_cons]
    simp only [List.map_cons, lin]
    by_cases e : p.1 = k
    · rw [if_pos e, if_pos e]
      have z : r.map (fun p => if p.1 = k then (p.1, v) else p) = r := by
        refine (List.map_congr_left fun q hq => if_neg fun z => n1.1 (List.mem_map.mpr ⟨q, hq, by rw [z, e]⟩)).trans (List.map_id' r)
      rw [z, ← e, Int.sub_mul]
      show v * f p.1 + lin f r = _
      omega
    · have hk2 : k ∈ keys r := by
        rcases List.mem_cons.mp (show k ∈ p.1 :: keys r from hk) with z | z
        · exact absurd z.symm e
        · exact z
      rw [if_neg e, if_neg e, lin_map_put f k v n1.2 hk2]
      omega
theorem lin_put (f : Ex → Int) {d : List Trm} (hn : (keys d).Nodup) (k : Ex) (v : Int) : lin f (put d k v) = lin f d + (v - look d k) * f k := by
  have h : (d.any fun p => decide (p.1 = k)) = true ↔ k ∈ keys d := by
    rw [List.any_eq_true]
    unfold keys
    constructor
    · rintro ⟨p, hp, e⟩
      exact List.mem_map.mpr ⟨p, hp, of_decide_eq_true e⟩
    · intro h
      obtain ⟨p, hp, e⟩ := List.mem_map.mp h
      exact ⟨p, hp, decide_eq_true e⟩
  unfold put
  by_cases hk : k ∈ keys d
  · rw [if_pos (h.mpr hk), lin_map_put f k v hn hk]
  · rw [if_neg (fun z => hk (h.mp z)), lin_append, look_none hk]
    simp [lin]
theorem gather_go (f : Ex → Int) : ∀ (ts d : List Trm), (keys d).Nodup → (keys (ts.foldl addTo d)).Nodup ∧ lin f (ts.foldl addTo d) = lin f d + lin f ts
  | [], d, h => ⟨h, by simp [lin]⟩
  | t :: r, d, h => by
    have n := nodup_put h t.1 (look d t.1 + t.2)
    obtain ⟨h1, h2⟩ := gather_go f r (addTo d t) n
    refine ⟨h1, ?_⟩
    show lin f (r.foldl addTo (addTo d t)) = _
    rw [h2]
    unfold addTo
    rw [lin_put f h]
    simp only [lin]
    rw [show look d t.1 + t.2 - look d t.1 = t.2 by omega]
    omega
theorem gather_nodup (ts : List Trm) : (keys (gather ts)).Nodup := (gather_go (fun _ => 0) ts [] List.nodup_nil).1
theorem gather_eqv (ts : List Trm) : Eqv (gather ts) ts := fun f => by
  have h := (gather_go f ts [] List.nodup_nil).2
  simp only [lin] at h
  unfold gather
  omega
theorem length_put (d : List Trm) (k : Ex) (v : Int) : (put d k v).length ≤ d.length + 1 := by
  unfold put
  split
  · rw [List.length_map]
    omega
  · rw [List.length_append]
    exact Nat.le_refl _
theorem length_gather_go : ∀ (ts d : List Trm), (ts.foldl addTo d).length ≤ d.length + ts.length
  | [], d => Nat.le_refl _
  | t :: r, d => by
    have h1 := length_gather_go r (addTo d t)
    have h2 : (addTo d t).length ≤ d.length + 1 := length_put _ _ _
    show (r.foldl addTo (addTo d t)).length ≤ _
    simp only [List.length_cons]
    omega
theorem look_of_mem : ∀ {d : List Trm} {p : Trm}, (keys d).Nodup → p ∈ d → look d p.1 = p.2
  | q :: r, p, hn, hp => by
    have n1 : q.1 ∉ keys r ∧ (keys r).Nodup := List.nodup_cons.mp hn
    rw [look_cons]
    rcases List.mem_cons.mp hp with rfl | hp
    · rw [if_pos rfl]
    · rw [if_neg (fun e => n1.1 (List.mem_map.mpr ⟨p, hp, e.symm⟩)), look_of_mem n1.2 hp]
/-- what is read off by keys in order -/
def read (d : List Trm) (ks : List Ex) : List Trm := (ks.filter fun k => decide (look d k ≠ 0)).map fun k => (k, look d k)
theorem lin_read (f : Ex → Int) (d : List Trm) : ∀ ks : List Ex, lin f (read d ks) = lin f (ks.map fun k => (k, look d k))
  | [] => rfl
  | k :: r => by
    have ih := lin_read f d r
    unfold read at *
    rw [List.filter_cons]
    by_cases h : look d k = 0
    · simp only [h, ne_eq, not_true_eq_false, decide_false, Bool.false_eq_true, if_false, List.map_cons, lin]
      rw [ih]
      simp
    · rw [if_pos (decide_eq_true h)]
      simp only [List.map_cons, lin, ih]
theorem map_look {d : List Trm} (hn : (keys d).Nodup) : (keys d).map (fun k => (k, look d k)) = d := by
  unfold keys
  rw [List.map_map]
  refine (List.map_congr_left fun p hp => ?_).trans (List.map_id' d)
  show (p.1, look d p.1) = p
  rw [look_of_mem hn hp]
theorem read_canon {ts d : List Trm} {ks : List Ex} (hn : (keys d).Nodup) (he : Eqv d ts) (hp : ks.Perm (keys d)) (hs : ks.Pairwise fun a b => ¬ ltE b a) : read d ks = canon ts := by
  refine canon_of ⟨?_, fun t ht => ?_⟩ fun f => ?_
  · have h2 : ks.Pairwise ltE := by
      exact (List.Pairwise.and hs (hp.nodup_iff.mpr hn)).imp fun h => ltE_or h.1 (Ne.symm h.2)
    unfold read
    rw [List.pairwise_map]
    exact h2.sublist List.filter_sublist
  · obtain ⟨k, hk, rfl⟩ := List.mem_map.mp ht
    exact of_decide_eq_true (List.mem_filter.mp hk).2
  · rw [lin_read]
    have h3 : (ks.map fun k => (k, look d k)).Perm d := by
      have := hp.map fun k => (k, look d k)
      rw [map_look hn] at this
      exact this
    rw [Eqv.perm h3 f]
    exact he f
end PM
/-! ### heaps that grow: what is no table stays, tables stay tables -/
namespace EXT
open PySem PySem.Spec PyProof.Rows L2 SDT PM
structure Ext (H H' : Hp) : Prop where
  keep : ∀ b x, H b = some x → (∀ ps, x ≠ .tbl ps) → H' b = some x
  tabs : ∀ b ps, H b = some (.tbl ps) → ∃ qs, H' b = some (.tbl qs) ∧ (TriplesOk ps.toList → TriplesOk qs.toList)
theorem Ext.tab {H H' : Hp} (s : Ext H H') {b : Addr} (h : GxR.TabG H b) : GxR.TabG H' b := by
  obtain ⟨ps, h1, h2⟩ := h
  obtain ⟨qs, g1, g2⟩ := s.tabs b ps h1
  exact ⟨qs, g1, g2 h2⟩
theorem Ext.refl (H : Hp) : Ext H H := ⟨fun _ _ e _ => e, fun _ ps h => ⟨ps, h, id⟩⟩
theorem Ext.trans {H H1 H2 : Hp} (a : Ext H H1) (b : Ext H1 H2) : Ext H H2 := ⟨fun c x e n => b.keep c x (a.keep c x e n) n, fun c ps h => by
  obtain ⟨qs, g1, g2⟩ := a.tabs c ps h
  obtain ⟨rs, k1, k2⟩ := b.tabs c qs g1
  exact ⟨rs, k1, fun z => k2 (g2 z)⟩⟩
theorem Ext.own {H H1 : Hp} {d : Addr} {o : HO} (s : Ext H H1) (hd : H d = none) : Ext H (upd H1 d o) := by
  refine ⟨fun b x e n => ?_, fun b ps h => ?_⟩
  · rw [upd_ne (ne_of_none e hd)]
    exact s.keep b x e n
  · obtain ⟨qs, g1, g2⟩ := s.tabs b ps h
    exact ⟨qs, by rw [upd_ne (ne_of_none h hd)]; exact g1, g2⟩
theorem ext_upd {H : Hp} {p : Addr} {o : HO} (h : H p = none) : Ext H (upd H p o) := (Ext.refl H).own h
theorem Ext.new {H H1 : Hp} {p : Addr} {o : HO} (s : Ext H H1) (h : H1 p = none) : Ext H (upd H1 p o) := s.trans (ext_upd h)
theorem ext_tabbed {H H' : Hp} {P : Addr} (t : GxR.TabG H P) (h : GxR.Tabbed P H H') : Ext H H' := by
  obtain ⟨ps, e0, _⟩ := t
  refine ⟨fun b x e n => ?_, fun b qs g => ?_⟩
  · rw [h.2 b (fun z => ?_)]
    · exact e
    · rw [z, e0] at e
      exact n ps (Option.some.inj e).symm
  · by_cases z : b = P
    · obtain ⟨rs, g1, g2⟩ := h.1
      rw [z]
      exact ⟨rs, g1, fun _ => g2⟩
    · exact ⟨qs, by rw [h.2 b z]; exact g, id⟩
theorem Ext.tabbed {H H1 H2 : Hp} {P : Addr} (s : Ext H H1) (t : GxR.TabG H1 P) (h : GxR.Tabbed P H1 H2) : Ext H H2 := s.trans (ext_tabbed t h)
theorem Ext.free {H H' : Hp} {p : Addr} (s : Ext H H') (h : H' p = none) : H p = none := by
  cases e : H p with
  | none => rfl
  | some x =>
    cases x with
    | tbl ps =>
      obtain ⟨qs, g, _⟩ := s.tabs p ps e
      rw [h] at g
      cases g
    | _ =>
      have := s.keep p _ e (fun ps z => by cases z)
      rw [h] at this
      cases this
theorem _root_.L2.Same.ext {H H' : Hp} (s : Same H H') : Ext H H' := ⟨fun b x e _ => s b x e, fun b ps e => ⟨ps, s _ _ e, id⟩⟩
section
variable {K : PySem.W.Frag} {H H' : Hp} (s : Ext H H')
include s
theorem Ext.rdL {a : Addr} {xs : List V} (h : Rd H a (.lst xs)) : Rd H' a (.lst xs) := by
  rcases h with h | ⟨o, h⟩
  · exact .inl (s.keep _ _ h (fun _ z => by cases z))
  · exact .inr ⟨o, s.keep _ _ h (fun _ z => by cases z)⟩
theorem Ext.rdT {a : Addr} {xs : List V} (h : Rd H a (.tup xs)) : Rd H' a (.tup xs) := by
  rcases h with h | ⟨o, h⟩
  · exact .inl (s.keep _ _ h (fun _ z => by cases z))
  · exact .inr ⟨o, s.keep _ _ h (fun _ z => by cases z)⟩
theorem Ext.seq {a : Addr} {xs : List V} (h : SqL K H a xs) : SqL K H' a xs := h.imp s.rdL id
theorem Ext.tup {a : Addr} {xs : List V} (h : SqT K H a xs) : SqT K H' a xs := h.imp s.rdT id
theorem Ext.at {a : Addr} {xs : List V} (h : H a = some (.tup xs)) : H' a = some (.tup xs) := s.keep _ _ h (fun _ z => by cases z)
theorem Ext.dt {a : Addr} {xs : List (List Key × V)} (h : H a = some (.dT xs)) : H' a = some (.dT xs) := s.keep _ _ h (fun _ z => by cases z)
theorem Ext.lst {a : Addr} {xs : List V} (h : H a = some (.lst xs)) : H' a = some (.lst xs) := s.keep _ _ h (fun _ z => by cases z)
end
mutual
theorem dp_ext {K : PySem.W.Frag} {H H' : Hp} (s : Ext H H') : ∀ {v : V} {d : PyData}, Dp K H v d → Dp K H' v d
  | _, _, .non => .non
  | _, _, .bl b => .bl b
  | _, _, .int i => .int i
  | _, _, .str x => .str x
  | _, _, .lst h t => .lst (s.seq h) (dpAll_ext s t)
  | _, _, .tup h t => .tup (s.tup h) (dpAll_ext s t)
theorem dpAll_ext {K : PySem.W.Frag} {H H' : Hp} (s : Ext H H') : ∀ {vs : List V} {ds : List PyData}, DpAll K H vs ds → DpAll K H' vs ds
  | _, _, .nil => .nil
  | _, _, .cons h t => .cons (dp_ext s h) (dpAll_ext s t)
end
theorem Ext.pairs {H H' : Hp} (s : Ext H H') : ∀ {ks : List (Int × Int)} {bs : List Addr}, Paired (PairAt H) ks bs → Paired (PairAt H') ks bs
  | _, _, .nil => .nil
  | _, _, .cons h t => .cons (s.at h) (s.pairs t)
/-! ### terms and polynomials in the heap -/
/-- v is the term t -/
def TermAt (K : PySem.W.Frag) (H : Hp) (v : V) (t : Trm) : Prop := ∃ a b, v = .ref a ∧ SqT K H a [.ref b, .int t.2] ∧ SqT K H b [.int t.1.1, .int t.1.2]
/-- the same, the key known to be one -/
def TermT (H : Hp) (v : V) (t : Trm) : Prop := ∃ a b, v = .ref a ∧ H a = some (.tup [.ref b, .int t.2]) ∧ PairAt H t.1 b
theorem TermT.at {K : PySem.W.Frag} {H : Hp} {v : V} {t : Trm} (h : TermT H v t) : TermAt K H v t := by
  obtain ⟨a, b, e, h1, h2⟩ := h
  exact ⟨a, b, e, .inl (.inl h1), .inl (.inl h2)⟩
theorem Ext.termT {H H' : Hp} (s : Ext H H') {v : V} {t : Trm} (h : TermT H v t) : TermT H' v t := by
  obtain ⟨a, b, e, h1, h2⟩ := h
  exact ⟨a, b, e, s.at h1, s.at h2⟩
theorem Ext.term {K : PySem.W.Frag} {H H' : Hp} (s : Ext H H') {v : V} {t : Trm} (h : TermAt K H v t) : TermAt K H' v t := by
  obtain ⟨a, b, e, h1, h2⟩ := h
  exact ⟨a, b, e, s.tup h1, s.tup h2⟩
theorem paired_imp {α β : Type} {R R' : α → β → Prop} (h : ∀ a b, R a b → R' a b) : ∀ {as : List α} {bs : List β}, Paired R as bs → Paired R' as bs
  | _, _, .nil => .nil
  | _, _, .cons x t => .cons (h _ _ x) (paired_imp h t)
/-- the item of a pairing at a place -/
theorem paired_at {α β : Type} {R : α → β → Prop} : ∀ {as : List α} {bs : List β} {i : Nat} {a : α}, Paired R as bs → as[i]? = some a → ∃ b, bs[i]? = some b ∧ R a b
  | _, _, _, _, .nil, h => by simp at h
  | _, _, 0, _, .cons x t, h => by
    simp only [List.getElem?_cons_zero, Option.some.injEq] at h
    subst h
    exact ⟨_, rfl, x⟩
  | _, _, i + 1, _, .cons x t, h => by
    simp only [List.getElem?_cons_succ] at h
    obtain ⟨b, h1, h2⟩ := paired_at t h
    exact ⟨b, by simpa using h1, h2⟩
theorem paired_app {α β : Type} {R : α → β → Prop} : ∀ {as : List α} {bs : List β} {as' : List α} {bs' : List β}, Paired R as bs → Paired R as' bs' → Paired R (as ++ as') (bs ++ bs')
  | _, _, _, _, .nil, k => k
  | _, _, _, _, .cons x t, k => .cons x (paired_app t k)
theorem paired_snoc {α β : Type} {R : α → β → Prop} {as : List α} {bs : List β} {a : α} {b : β} (h : Paired R as bs) (x : R a b) : Paired R (as ++ [a]) (bs ++ [b]) := paired_app h (.cons x .nil)
/-- vs are the terms ts -/
abbrev Terms (K : PySem.W.Frag) (H : Hp) (vs : List V) (ts : List Trm) : Prop := Paired (TermAt K H) vs ts
abbrev TermsT (H : Hp) (vs : List V) (ts : List Trm) : Prop := Paired (TermT H) vs ts
theorem Ext.terms {K : PySem.W.Frag} {H H' : Hp} (s : Ext H H') {vs : List V} {ts : List Trm} (h : Terms K H vs ts) : Terms K H' vs ts := paired_imp (fun _ _ => s.term) h
theorem Ext.termsT {H H' : Hp} (s : Ext H H') {vs : List V} {ts : List Trm} (h : TermsT H vs ts) : TermsT H' vs ts := paired_imp (fun _ _ => s.termT) h
theorem terms_of {K : PySem.W.Frag} {H : Hp} {vs : List V} {ts : List Trm} (h : TermsT H vs ts) : Terms K H vs ts := paired_imp (fun _ _ h => h.at) h
/-- a tuple of terms at p -/
def PolyAt (K : PySem.W.Frag) (H : Hp) (p : Addr) (ts : List Trm) : Prop := ∃ vs, SqT K H p vs ∧ Terms K H vs ts
def PolyT (H : Hp) (p : Addr) (ts : List Trm) : Prop := ∃ vs, H p = some (.tup vs) ∧ TermsT H vs ts
theorem PolyT.at {K : PySem.W.Frag} {H : Hp} {p : Addr} {ts : List Trm} (h : PolyT H p ts) : PolyAt K H p ts := by
  obtain ⟨vs, h1, h2⟩ := h
  exact ⟨vs, .inl (.inl h1), terms_of h2⟩
theorem Ext.poly {K : PySem.W.Frag} {H H' : Hp} (s : Ext H H') {p : Addr} {ts : List Trm} (h : PolyAt K H p ts) : PolyAt K H' p ts := by
  obtain ⟨vs, h1, h2⟩ := h
  exact ⟨vs, s.tup h1, s.terms h2⟩
theorem Ext.polyT {H H' : Hp} (s : Ext H H') {p : Addr} {ts : List Trm} (h : PolyT H p ts) : PolyT H' p ts := by
  obtain ⟨vs, h1, h2⟩ := h
  exact ⟨vs, s.at h1, s.termsT h2⟩
/-- a term, a polynomial as data -/
def termD (t : Trm) : PyData := .tuple [.tuple [.int t.1.1, .int t.1.2], .int t.2]
def polyD (ts : List Trm) : PyData := .tuple (ts.map termD)
theorem TermAt.dp {K : PySem.W.Frag} {H : Hp} {v : V} {t : Trm} (h : TermAt K H v t) : Dp K H v (termD t) := by
  obtain ⟨a, b, rfl, h1, h2⟩ := h
  exact .tup h1 (.cons (.tup h2 (.cons (.int _) (.cons (.int _) .nil))) (.cons (.int _) .nil))
theorem terms_dp {K : PySem.W.Frag} {H : Hp} : ∀ {vs : List V} {ts : List Trm}, Terms K H vs ts → DpAll K H vs (ts.map termD)
  | _, _, .nil => .nil
  | _, _, .cons h t => .cons h.dp (terms_dp t)
theorem PolyAt.dp {K : PySem.W.Frag} {H : Hp} {p : Addr} {ts : List Trm} (h : PolyAt K H p ts) : Dp K H (.ref p) (polyD ts) := by
  obtain ⟨vs, h1, h2⟩ := h
  exact .tup h1 (terms_dp h2)
/-! ### a dict of exponents -/
def kvsOf (d : List Trm) : List (List Key × V) := d.map fun t => (pairKey t.1, .int t.2)
theorem pairKey_inj {k j : Ex} (h : pairKey k = pairKey j) : k = j := by
  obtain ⟨h1, h2⟩ := List.cons.inj h
  obtain ⟨h3, _⟩ := List.cons.inj h2
  exact Prod.ext (Sum.inl.inj h1) (Sum.inl.inj h3)
theorem valV_kvs (k : Ex) : ∀ d : List Trm, valV (kvsOf d) (pairKey k) = if k ∈ keys d then some (.int (look d k)) else none
  | [] => rfl
  | t :: d => by
    by_cases e : t.1 = k
    · rw [show kvsOf (t :: d) = (pairKey t.1, V.int t.2) :: kvsOf d from rfl, valV_pos (by rw [e]), if_pos (by rw [← e]; exact List.mem_map.mpr ⟨t, List.mem_cons_self, rfl⟩), look_cons, if_pos e]
    · rw [show kvsOf (t :: d) = (pairKey t.1, V.int t.2) :: kvsOf d from rfl, valV_neg (fun z => e (pairKey_inj z)), valV_kvs k d, look_cons, if_neg e]
      have : (k ∈ keys (t :: d)) ↔ k ∈ keys d := by
        show k ∈ t.1 :: keys d ↔ _
        rw [List.mem_cons]
        exact ⟨fun z => z.resolve_left fun q => e q.symm, .inr⟩
      by_cases m : k ∈ keys d
      · rw [if_pos m, if_pos (this.mpr m)]
      · rw [if_neg m, if_neg (fun z => m (this.mp z))]
theorem getD_kvs (d : List Trm) (k : Ex) : (valV (kvsOf d) (pairKey k)).getD (.int 0) = .int (look d k) := by
  rw [valV_kvs]
  by_cases m : k ∈ keys d
  · rw [if_pos m]
    rfl
  · rw [if_neg m, look_none m]
    rfl
theorem put_kvs (d : List Trm) (k : Ex) (v : Int) : putK (kvsOf d) (pairKey k) (.int v) = kvsOf (put d k v) := by
  have e : ((kvsOf d).any fun kv => decide (kv.1 = pairKey k)) = d.any fun p => decide (p.1 = k) := by
    unfold kvsOf
    rw [List.any_map]
    congr 1
    funext t
    show decide (pairKey t.1 = pairKey k) = decide (t.1 = k)
    by_cases z : t.1 = k
    · rw [decide_eq_true z, decide_eq_true (by rw [z])]
    · rw [decide_eq_false z, decide_eq_false (fun q => z (pairKey_inj q))]
  unfold putK put
  rw [e]
  by_cases z : (d.any fun p => decide (p.1 = k)) = true
  · rw [if_pos z, if_pos z]
    unfold kvsOf
    rw [List.map_map, List.map_map]
    refine List.map_congr_left fun t _ => ?_
    show (if pairKey t.1 = pairKey k then (pairKey t.1, V.int v) else (pairKey t.1, V.int t.2)) = _
    by_cases q : t.1 = k
    · rw [if_pos (by rw [q])]
      simp only [Function.comp, if_pos q]
    · rw [if_neg (fun w => q (pairKey_inj w))]
      simp only [Function.comp, if_neg q]
  · rw [if_neg z, if_neg z]
    unfold kvsOf
    rw [List.map_append]
    rfl
theorem length_kvs (d : List Trm) : (kvsOf d).length = d.length := by
  unfold kvsOf
  rw [List.length_map]
theorem keys_kvs (d : List Trm) : (kvsOf d).map (·.1) = (keys d).map pairKey := by
  unfold kvsOf keys
  rw [List.map_map, List.map_map]
  rfl
theorem lex_lt {p q : Ex} : SrtO.lexB p q = false ↔ ¬ ltE p q := SrtO.lexB_no
end EXT
/-! ### a def whose code object is known -/
namespace L2
open PySem PySem.Spec PyProof.Rows
structure FunC (K : PySem.W.Frag) (x qual : Str) (st : Stmt) (f : Addr) (fd : FuncData) (c : Addr) : Prop where
  ex : ∃ (oc : Value) (od : Option Addr) (kV doc pm : Value) (an : Option Addr) (ct : Value) (osl : Array (Option Value)),
    fd = PySem.W.fnOf x qual (defArgs st) (defBody st) (defScope st) .none kV doc pm an (.ref c) ct ∧ K.lookup f = some ⟨oc, od, .func fd, osl⟩ ∧ PySem.W.codeIn K (.ref c) qual = true
  kp : PySem.W.keepIn K (.ref f) = true
section
variable {P : Program} {w : World} {K : PySem.W.Frag} {mg : Str → Option Value} {base : Heap}
theorem FunC.ok {x qual : Str} {st : Stmt} {f c : Addr} {fd : FuncData} {N ps : List Str} {k : Nat} {sp : Sp} (F : FunC K x qual st f fd c) (S : FnScope N ps (defScope st)) (len : ∀ vs H Q E, sp vs H Q E → vs.length = ps.length)
    (hbody : ∀ (A : Around) (outer : List Env) (s : Shared) (H : Hp) (vs : List V) (Q : VK) (E : XK), Room k (A.deeper (envOfC qual (defScope st) s.heap.objs.size f (.ref c))) → sp vs H Q E →
      ∃ t, PSs (cxOf CX0 P w K mg base N qual (defScope st) f (.ref c) A outer s H E).nox (defBody st) t ∧ t { nx := fun _ H' => Q .non H', rt := Q } (start N vs) H) :
    FnOk P w K mg base CX0 (k + 1) f fd ps sp := by
  obtain ⟨oc, od, kV, doc, pm, an, ct, osl, e, lk, hcd⟩ := F.ex
  subst e
  refine fn_of lk hcd S len fun A outer s H vs Q E hr hsp => ?_
  obtain ⟨t, h, q⟩ := hbody A outer s H vs Q E hr hsp
  exact ⟨t, h.nox, q⟩
theorem FunC.binds {x qual : Str} {st : Stmt} {f c : Addr} {fd : FuncData} {ps : List Str} (F : FunC K x qual st f fd c)
    (h : ∀ (kV doc pm : Value) (an : Option Addr) (cdv ct : Value) (us : List Value), us.length = ps.length → bindArgs (PySem.W.fnOf x qual (defArgs st) (defBody st) (defScope st) .none kV doc pm an cdv ct) ⟨us, []⟩ = pure (ps.zip us)) : Binds K fd ps [] := by
  obtain ⟨oc, od, kV, doc, pm, an, ct, osl, e, lk, hcd⟩ := F.ex
  subst e
  exact .all (h kV doc pm an (.ref c) ct)
theorem funC_mk {x qual : Str} {st : Stmt} {f c : Addr} {oc : Value} {od an : Option Addr} {osl : Array (Option Value)} {kV doc pm ct : Value} (l : K.lookup f = some ⟨oc, od, .func (PySem.W.fnOf x qual (defArgs st) (defBody st) (defScope st) .none kV doc pm an (.ref c) ct), osl⟩)
    (h : PySem.W.codeIn K (.ref c) qual = true) (k : PySem.W.keepIn K (.ref f) = true) : FunC K x qual st f (PySem.W.fnOf x qual (defArgs st) (defBody st) (defScope st) .none kV doc pm an (.ref c) ct) c := ⟨⟨oc, od, kV, doc, pm, an, ct, osl, rfl, l, h⟩, k⟩
end
end L2
/-! ### the end: the tables of all defs -/
namespace LamX
open PySem PySem.Spec PyProof.Rows L2
/-- the table of each def of the text is empty -/
def AllTab (q : Program) (K : PySem.W.Frag) (h : Heap) : Prop := ∀ (y : Str) (f c P : Addr) (o : Obj) (fd : FuncData) (e : Value) (dd : Option Addr) (vs : Array Value) (sl : Array (Option Value)), ((recsOf q).any fun r => r.name == y) = true →
  PySem.W.nsIn K mainGlobals y = some (some (.ref f)) → K.lookup f = some o → o.data = .func fd → fd.code = .ref c → K.lookup c = some ⟨e, dd, .fields vs, sl⟩ → vs[11]? = some (.ref P) → h.get? P = some { cls := .none, data := .fields #[] }
theorem walk_ofAll {l : PySem.W.OpenLaw} {n k : Nat} {q : Program} {loose : List Str} {XP : (Str → Option Value) → Heap → Prop} {YP : World → Heap → Prop} {d : DefRec} {K : Params → PySem.W.Frag} {CX : World → CXT} {x : Str}
    (hn : l.most = some n) (hn2 : n ≤ sizeLine) (hdf : d.params.defaults = []) (hr : Room k callerA) (hY : ∀ (w : World) (h : Heap), YP w h → (K w.params).In h)
    (F : ∀ (w : World) (mg : Str → Option Value) (fa : Addr) (h : Heap), YP w h → (K w.params).In h → h.Ns mainGlobals mg → mg d.name = some (.ref fa) → AllTab q (K w.params) h → LawAtS l w (K w.params) (CX w) k n x mg fa h)
    (hCX : ∀ (w : World) (H : Hp) (s : Shared) (e : Value) (s' : Shared), CX w [] H s (fun _ _ _ => False) e s' → False) :
    PySem.W.WalkO q loose XP YP l.row.toRowW d [] (fun f vs => PySem.call f vs) := by
  refine Att.attach_callB hn hdf fun w s₀ s₁ mg mb fa o pm cd doc a vs ns G Y ho hd hcd hmg hobj hints hlen hbits hg => ?_
  have KX := hY w _ Y
  have own : AllTab q (K w.params) s₁.heap := fun y f c P o1 fd1 e dd vs1 sl hrec k0 k1 k2 k3 k4 k5 => by
    obtain ⟨dL, hm, hn1⟩ := List.any_eq_true.mp hrec
    have hn2 : dL.name = y := beq_iff_eq.mp hn1
    obtain ⟨a', o', fd', c', P', h1, h2, h3, h4, h5, h6⟩ := G.T.tab dL hm
    rw [hn2, PySem.W.mg_of KX G.T.g k0] at h1
    cases h1
    have g1 := KX _ _ k1
    rw [g1] at h2
    cases h2
    rw [k2] at h3
    cases h3
    rw [k3] at h4
    cases h4
    obtain ⟨⟨oc, vc, e1, _, e3, e4⟩, hP⟩ := h6
    have g2 := KX _ _ k4
    rw [g2] at e1
    cases e1
    cases e3
    rw [k5] at e4
    cases e4
    exact hP
  obtain ⟨fd, cs, sp, hT, nT, C, hb, hsp, hF⟩ := F w mg fa _ Y KX G.T.g hmg own
  exact law_callTs KX G.T.g G.T.b G.T.builtins G.T.nolimit hg hT nT C G.T.bmain hobj hints (Nat.le_trans hlen hn2) hr hF hb (fun H hH hS => hsp H a ns hlen hbits hH hS) fun H e s' => hCX w H s₁ e s'
end LamX
namespace L2
open PySem PySem.Spec PyProof.Rows
/-- a list or a tuple, walked -/
def iSeq (K : PySem.W.Frag) (tl : TE) : TI := fun σ H R => tl σ H fun x H1 => ∃ a, x = .ref a ∧ (((∃ xs, SqL K H1 a xs) ∧ R (Itl K a) H1) ∨ ((∃ xs, SqT K H1 a xs) ∧ R (Itt K a) H1))
theorem pi_seq {X : Cx} {tg l : Expr} {tl : TE} (hl : PE X l tl) : PI X tg l (iSeq X.K tl) := by
  refine ⟨fun pins s σ H R I h => ?_⟩
  refine thn (hl.run pins s σ H _ I h) fun v s1 ⟨x, H1, I1, r1, a, e, q1⟩ => ?_
  subst e
  cases r1
  rcases q1 with ⟨⟨xs, hq⟩, q⟩ | ⟨⟨xs, hq⟩, q⟩
  · obtain ⟨its, rv, p, hz⟩ := I1.list hq
    refine wpAny_pyIter_list p.isList ⟨s1.heap.objs.size, [s1.heap.objs.size], _, _, H1, rfl, I1.kept (t' := s1.toks) fun b o e => Heap.get?_push_of_some _ e, turn_list a _, ⟨_, Heap.get?_push_size _ rfl, rfl, rfl⟩, fun b hb => ?_, q⟩
    obtain rfl : b = s1.heap.objs.size := by simpa using hb
    exact I1.fpOk (Nat.le_refl _) (I1.hok.fresh (Nat.le_refl _))
  · obtain ⟨its, rv, p, hz⟩ := I1.tuple hq
    refine wpAny_pyIter_tuple (show s1.heap.IsTuple a its.toArray from p) ⟨s1.heap.objs.size, [s1.heap.objs.size], _, _, H1, rfl, I1.kept (t' := s1.toks) fun b o e => Heap.get?_push_of_some _ e, turn_tuple a _, ⟨_, Heap.get?_push_size _ rfl, rfl, rfl⟩, fun b hb => ?_, q⟩
    obtain rfl : b = s1.heap.objs.size := by simpa using hb
    exact I1.fpOk (Nat.le_refl _) (I1.hok.fresh (Nat.le_refl _))
/-- walking a list or a tuple: one invariant -/
theorem for_seq {K : PySem.W.Frag} {a : Addr} {xs : List V} {g : TG} {tb : TS} {D : Ends} {σ : St} {H H0 : Hp} (ha : SqL K H0 a xs ∨ SqT K H0 a xs) (Pv : Nat → St → Hp → Prop) (h0 : Pv 0 σ H) (hl : ∀ i σ H1, i ≤ xs.length → Pv i σ H1 → EXT.Ext H0 H1)
    (hs : ∀ i x σ H, xs[i]? = some x → Pv i σ H → g x σ H fun σ2 H2 => tb { D with nx := Pv (i + 1), ct := Pv (i + 1), bk := D.nx } σ2 H2) (hd : ∀ σ H, Pv xs.length σ H → D.nx σ H) :
    let G : It → Prop := fun J => ∃ W : Nat → Nat → St → Hp → Prop, (∃ m, W 0 m σ H) ∧ ∀ i m σ H, W i m σ H →
      ((J.stop i H ∧ D.nx σ H) ∨ (J.go i H ∧ ∃ N : St → Hp → Prop, (∀ σ' H', N σ' H' → ∃ m', m' < m ∧ W (i + 1) m' σ' H') ∧ ∀ x H', J.yld i H x H' → g x σ H' fun σ2 H2 => tb { D with nx := N, ct := N, bk := D.nx } σ2 H2))
    ((∃ xs, SqL K H a xs) ∧ G (Itl K a)) ∨ ((∃ xs, SqT K H a xs) ∧ G (Itt K a)) := by
  rcases ha with h | h
  · exact .inl ⟨⟨xs, (hl _ _ _ (Nat.zero_le _) h0).seq h⟩, for_list Pv h0 (fun i σ H1 hi p => (hl i σ H1 hi p).seq h) hs hd⟩
  · exact .inr ⟨⟨xs, (hl _ _ _ (Nat.zero_le _) h0).tup h⟩, for_tup Pv h0 (fun i σ H1 hi p => (hl i σ H1 hi p).tup h) hs hd⟩
end L2
namespace L2
open PySem PySem.Spec PyProof.Rows
/-- pairs of ints, by their first, then by their second -/
def geP (x y : Int × Int) : Bool := !SrtO.lexB x y
theorem ge_not (i j : Int) : (!decide (i < j)) = decide (j ≤ i) := by
  by_cases z : i < j
  · rw [decide_eq_true z, decide_eq_false (by omega)]
    rfl
  · rw [decide_eq_false z, decide_eq_true (by omega)]
    rfl
/-- t >= u of two pairs of ints -/
def rGeP (K : PySem.W.Frag) : R2 := fun x y H Q => ∃ (a b : Addr) (p q : Int × Int), x = .ref a ∧ y = .ref b ∧ SqT K H a [.int p.1, .int p.2] ∧ SqT K H b [.int q.1, .int q.2] ∧ Q (.bl (geP p q)) H
theorem pair_vals {i j : Int} {its : List Value} (r : Vals [V.int i, .int j] its) : ∃ t u, its = [.int i t, .int j u] := by
  obtain ⟨u1, u2, rfl, ⟨t, rfl⟩, ⟨u, rfl⟩⟩ := vals2 r
  exact ⟨t, u, rfl⟩
theorem op_geP {X : Cx} (hu : X.A.units < cLine) : OpR X (compareOp .GtE) (rGeP X.K) := by
  intro pins s σ H x y v u Q I rx ry h
  obtain ⟨a, b, p, q, rfl, rfl, ha, hb, k⟩ := h
  cases rx
  cases ry
  obtain ⟨its, r1, p1, _⟩ := I.tuple ha
  obtain ⟨its2, r2, p2, _⟩ := I.tuple hb
  obtain ⟨t1, t2, rfl⟩ := pair_vals r1
  obtain ⟨t3, t4, rfl⟩ := pair_vals r2
  have R := Ob.RcOp.tuples_ge (A := X.A) (s := s) (e := fun j => if j = 0 then (p.1 == q.1) else (p.2 == q.2)) (r := fun j => if j = 0 then decide (q.1 ≤ p.1) else decide (q.2 ≤ p.2)) p1 p2 hu (fun j h1 h2 => by
    match j, h1, h2 with
    | 0, _, _ => exact SeqAt.EqAt.int_int _ _ _ _
    | 1, _, _ => exact SeqAt.EqAt.int_int _ _ _ _) (fun j h1 h2 _ => by
    match j, h1, h2 with
    | 0, _, _ => exact Ob.RcOp.ge_int _ _ _ _
    | 1, _, _ => exact Ob.RcOp.ge_int _ _ _ _)
  have e : geP p q = Ob.lexAt (fun j => if j = 0 then (p.1 == q.1) else (p.2 == q.2)) (fun j => if j = 0 then decide (q.1 ≤ p.1) else decide (q.2 ≤ p.2)) (decide (2 ≥ 2)) 0 2 := by
    rw [Ob.lexAt_succ, Ob.lexAt_succ, Ob.lexAt_zero]
    unfold geP SrtO.lexB
    by_cases e1 : p.1 = q.1
    · rw [if_pos e1, ge_not]
      by_cases e2 : p.2 = q.2
      · have b1 : (p.1 == q.1) = true := beq_iff_eq.mpr e1
        have b2 : (p.2 == q.2) = true := beq_iff_eq.mpr e2
        have z : q.2 ≤ p.2 := by omega
        simp [b1, b2, z]
      · have b1 : (p.1 == q.1) = true := beq_iff_eq.mpr e1
        have b2 : (p.2 == q.2) = false := beq_eq_false_iff_ne.mpr e2
        simp [b1, b2]
    · have b1 : (p.1 == q.1) = false := beq_eq_false_iff_ne.mpr e1
      rw [if_neg e1, ge_not]
      simp [b1]
  rw [e] at k
  have z : wpAny (model X.prog X.w) X.A (compareOp .GtE (.ref a) (.ref b)) (EP X pins σ Q) X.xe s := R X.prog X.w X.xe (EP X pins σ Q) ⟨.bl _, H, I, rfl, k⟩
  exact z
/-- a op b op' c op'' d -/
def tChain3 (r r' r'' : R2) (ta tb tc td : TE) : TE := fun σ H Q => ta σ H fun x H1 => tb σ H1 fun y H2 => r x y H2 fun z H3 => ∃ k, z = .bl k ∧
  (if k = true then tc σ H3 fun w' H4 => r' y w' H4 fun z2 H5 => ∃ k2, z2 = .bl k2 ∧ (if k2 = true then td σ H5 fun w2 H6 => r'' w' w2 H6 Q else Q (.bl false) H5) else Q (.bl false) H3)
theorem pe_chain3 {X : Cx} {a b c d : Expr} {pos : Pos} {ta tb tc td : TE} {op op' op'' : CmpOp} {r r' r'' : R2} (ho : OpR X (compareOp op) r) (ho' : OpR X (compareOp op') r') (ho'' : OpR X (compareOp op'') r'') (ha : PE X a ta) (hb : PE X b tb) (hc : PE X c tc) (hd : PE X d td)
    (hm : lastMarks [op, op', op''] [b, c, d] = false := by with_unfolding_all rfl) : PE X (.Compare a [op, op', op''] [b, c, d] pos) (tChain3 r r' r'' ta tb tc td) := by
  refine ⟨fun pins s σ H Q I h => ?_⟩
  refine Compare_chain (thn (ha.run pins s σ H _ I h) fun v s1 ⟨x, H1, I1, r1, q1⟩ => chain_link (thn (hb.run pins s1 σ H1 _ I1 q1) fun u s2 ⟨y, H2, I2, r2, q2⟩ =>
    thn (ho pins s2 σ H2 x y v u _ I2 r1 r2 q2) fun d s3 ⟨z, H3, I3, r3, k, e, q3⟩ => ?_)) hm
  subst e
  cases r3
  refine wpAny_truthy_bool ?_
  cases k with
  | false => exact ite_ff ⟨.bl false, H3, I3, rfl, q3⟩
  | true =>
    refine ite_tt (chain_link (thn (hc.run pins s3 σ H3 _ I3 q3) fun w' s4 ⟨z', H4, I4, r4, q4⟩ => thn (ho' pins s4 σ H4 y z' u w' _ I4 r2 r4 q4) fun d5 s5 ⟨z5, H5, I5, r5, k5, e5, q5⟩ => ?_))
    subst e5
    cases r5
    refine wpAny_truthy_bool ?_
    cases k5 with
    | false => exact ite_ff ⟨.bl false, H5, I5, rfl, q5⟩
    | true => exact ite_tt (chain_last (thn (hd.run pins s5 σ H5 _ I5 q5) fun w2 s6 ⟨z6, H6, I6, r6, q6⟩ => ho'' pins s6 σ H6 z' z6 w' w2 Q I6 r4 r6 q6))
theorem pt_chain3 {X : Cx} {a b c d : Expr} {pos : Pos} {ta tb tc td : TE} {op op' op'' : CmpOp} {r r' r'' : R2} (ho : OpR X (compareOp op) r) (ho' : OpR X (compareOp op') r') (ho'' : OpR X (compareOp op'') r'') (ha : PE X a ta) (hb : PE X b tb) (hc : PE X c tc) (hd : PE X d td)
    (hm : lastMarks [op, op', op''] [b, c, d] = false := by with_unfolding_all rfl) : PT X (.Compare a [op, op', op''] [b, c, d] pos) (tTest (tChain3 r r' r'' ta tb tc td)) := by
  refine ⟨fun pins s σ H Q I h => ?_⟩
  refine isTrue_chain (thn (ha.run pins s σ H _ I h) fun v s1 ⟨x, H1, I1, r1, q1⟩ => test_link (thn (hb.run pins s1 σ H1 _ I1 q1) fun u s2 ⟨y, H2, I2, r2, q2⟩ =>
    thn (ho pins s2 σ H2 x y v u _ I2 r1 r2 q2) fun d s3 ⟨z, H3, I3, r3, k, e, q3⟩ => ?_)) hm
  subst e
  cases r3
  refine wpAny_truthy_bool ?_
  cases k with
  | false =>
    obtain ⟨k', e', q'⟩ := q3
    cases e'
    exact ite_ff ⟨H3, I3, q'⟩
  | true =>
    refine ite_tt (test_link (thn (hc.run pins s3 σ H3 _ I3 q3) fun w' s4 ⟨z', H4, I4, r4, q4⟩ => thn (ho' pins s4 σ H4 y z' u w' _ I4 r2 r4 q4) fun d5 s5 ⟨z5, H5, I5, r5, k5, e5, q5⟩ => ?_))
    subst e5
    cases r5
    refine wpAny_truthy_bool ?_
    cases k5 with
    | false =>
      obtain ⟨k', e', q'⟩ := q5
      cases e'
      exact ite_ff ⟨H5, I5, q'⟩
    | true =>
      refine ite_tt (test_last (thn (hd.run pins s5 σ H5 _ I5 q5) fun w2 s6 ⟨z6, H6, I6, r6, q6⟩ => thn (ho'' pins s6 σ H6 z' z6 w' w2 _ I6 r4 r6 q6) fun d7 s7 ⟨z7, H7, I7, r7, k7, e7, q7⟩ => ?_))
      subst e7
      cases r7
      exact wpAny_truthy_bool ⟨H7, I7, q7⟩
end L2
namespace L2
open PySem PySem.Spec PyProof.Rows RZ
/-- zip of two tuples, the second not longer than the first -/
theorem for_zipM {K : PySem.W.Frag} {a b : Addr} {xs ys : List V} {g : TG} {tb : TS} {D : Ends} {σ : L2.St} {H : Hp} (hl : ys.length ≤ xs.length) (Pv : Nat → L2.St → Hp → Prop) (h0 : Pv 0 σ H) (hq : ∀ i σ H, Pv i σ H → SqT K H a xs ∧ SqT K H b ys)
    (hs : ∀ (i : Nat) (x y : V) (T : Addr) (σ : L2.St) (H : Hp), xs[i]? = some x → ys[i]? = some y → Pv i σ H → H T = none → g (.ref T) σ (upd H T (.tup [x, y])) fun σ2 H2 => tb { D with nx := Pv (i + 1), ct := Pv (i + 1), bk := D.nx } σ2 H2)
    (hd : ∀ σ H, Pv ys.length σ H → D.nx σ H) :
    ∃ W : Nat → Nat → L2.St → Hp → Prop, (∃ m, W 0 m σ H) ∧ ∀ i m σ H, W i m σ H →
      ((ItzT K a b).stop i H ∧ D.nx σ H) ∨ ((ItzT K a b).go i H ∧ ∃ N : L2.St → Hp → Prop, (∀ σ' H', N σ' H' → ∃ m', m' < m ∧ W (i + 1) m' σ' H') ∧ ∀ v H', (ItzT K a b).yld i H v H' → g v σ H' fun σ2 H2 => tb { D with nx := N, ct := N, bk := D.nx } σ2 H2) := by
  refine ⟨fun i m σ H => m = ys.length - i ∧ i ≤ ys.length ∧ Pv i σ H, ⟨ys.length, rfl, Nat.zero_le _, h0⟩, ?_⟩
  rintro i m σ H ⟨rfl, hi, p⟩
  obtain ⟨qx, qy⟩ := hq i σ H p
  by_cases hlt : i < ys.length
  · have hlx : i < xs.length := by omega
    refine .inr ⟨⟨xs, ys, _, _, qx, qy, List.getElem?_eq_getElem hlx, List.getElem?_eq_getElem hlt⟩, Pv (i + 1), fun σ' H' p' => ⟨ys.length - (i + 1), by omega, rfl, hlt, p'⟩, fun v H' y => ?_⟩
    obtain ⟨T, x', y', rfl, hT, rfl, f1, f2⟩ := y
    exact hs i x' y' T σ H (f1 xs qx) (f2 ys qy) p hT
  · obtain rfl : i = ys.length := by omega
    exact .inl ⟨⟨xs, ys, qx, qy, Or.inr (Nat.le_refl _)⟩, hd σ H p⟩
end L2
namespace L2
open PySem PySem.Spec PyProof.Rows
section
variable {X : Cx} {CX : CXT} {k : Nat} {f C : Addr} {fd : FuncData} {ps : List Str} {sp : Sp} {E : St → XK} {x : Str} {p pos : Pos} {e : Expr} {es : List Expr} {t : TA}
/-- C(..) in a try's body: what it lets out may speak of the slots -/
theorem run_makeS {pins : List (Addr × Obj)} {σ : St} {H : Hp} {s : Shared} {Q : VK} {us : List Value} {vs : List V} (M : Mk X.K C f) (F : FnOk X.prog X.w X.K X.mg X.base CX k f fd ps sp) (hr : Room (k + 1) X.A) (hb : Binds X.K fd ps [])
    (hx : PassesAt CX X σ (E σ)) (I : Inv X pins σ H s) (r : Vals vs us)
    (h : ∀ x dx, H x = none → H dx = none → dx ≠ x → sp (.ref x :: vs) (upd (upd H dx (.own x)) x (.ins C dx [])) (fun v H2 => v = .non ∧ Q (.ref x) H2) (E σ)) :
    wpAny (model X.prog X.w) X.A (call (.ref C) us) (EP X pins σ Q) X.xe s := by
  have hq := h (s.heap.objs.size + 1) s.heap.objs.size (I.hok.fresh (Nat.le_succ _)) (I.hok.fresh (Nat.le_refl _)) (Nat.ne_of_lt (Nat.lt_succ_self _))
  have I2 := Inv.made (C := C) I
  have r2 : Vals (V.ref (s.heap.objs.size + 1) :: vs) (Value.ref (s.heap.objs.size + 1) :: us) := .cons rfl r
  have hl : (Value.ref (s.heap.objs.size + 1) :: us).length = ps.length := by
    have l1 := r2.length
    rw [F.len _ _ _ _ hq] at l1
    exact l1.symm
  have bb := hb _ (Value.ref (s.heap.objs.size + 1) :: us) I2.kIn (by rw [List.append_nil]; exact hl)
  rw [List.append_nil] at bb
  refine wpAny_call (make_map (f := f) I.kIn M.makes M.init (beq_iff_eq.mp M.fn) (codeAny_mono (F.run _ X.stack _ _ ⟨Value.ref (s.heap.objs.size + 1) :: us, []⟩ (Value.ref (s.heap.objs.size + 1) :: us) _ _ (E σ) (hr.make C us []) (I2.env0.make C us []) bb r2 hq) fun r s' hq' => ?_))
  cases r with
  | error e => exact hx pins _ _ e s' I2 hq'
  | ok fl =>
    cases fl with
    | ret u =>
      obtain ⟨v, H', I3, rv, ev, q3⟩ := I2.after hq'
      subst ev
      exact ⟨rv, ⟨V.ref (s.heap.objs.size + 1), H', I3, rfl, q3⟩⟩
    | next => exact False.elim hq'
    | brk => exact False.elim hq'
    | cont => exact False.elim hq'
def tMakeS (C : Addr) (sp : Sp) (E : St → XK) (t : TA) : TE := fun σ H Q => t σ H fun vs H1 => ∀ x dx, H1 x = none → H1 dx = none → dx ≠ x →
  sp (.ref x :: vs) (upd (upd H1 dx (.own x)) x (.ins C dx [])) (fun v H2 => v = .non ∧ Q (.ref x) H2) (E σ)
theorem pe_makeS (M : Mk X.K C f) (F : FnOk X.prog X.w X.K X.mg X.base CX k f fd ps sp) (hr : Room (k + 1) X.A) (hg : Gl X x) (hm : X.mg x = some (.ref C)) (hb : Binds X.K fd ps []) (hx : ∀ σ, PassesAt CX X σ (E σ))
    (ha : PA X (e :: es) t) (hdb : (x == ("__debug__" : Str)) = false := by decide) (he : starEach (e :: es) X.env = (false, eval e X.env) :: starEach es X.env := by rfl) (hpl : (backTo pos (starEach es X.env)).any (·.1) = false := by rfl) :
    PE X (.Call (.Name x p) (e :: es) [] pos) (tMakeS C sp E t) := by
  refine ⟨fun pins s σ H Q I h => ?_⟩
  refine wpAny_Call_Name_kw (ld_glob I hg hm ?_ hdb)
  refine PySem.W.callWith_K (h₀ := X.base) I.ok.mod.kin M.kp (thn (ha.run pos pins s σ H _ I h) fun us s1 ⟨vs, H1, I1, r, q⟩ => ⟨I1.kIn, ?_⟩) he hpl
  exact run_makeS M F hr hb (hx σ) I1 r q
end
end L2
/-! ### sum of a tuple of ints -/
namespace L2
open PySem PySem.Spec PyProof.Rows
def rSumT (K : PySem.W.Frag) : List V → Hp → VK → Prop := fun vs H Q => ∃ (a : Addr) (ns : List Int), vs = [V.ref a] ∧ SqT K H a (ns.map V.int) ∧ Q (.int ns.sum) H
theorem preSum_at (ns : List Int) : ∀ k, k ≤ ns.length → preSum (fun i => (ns[i]?).getD 0) k = (ns.take k).sum
  | 0, _ => by simp [preSum]
  | k + 1, h => by
    rw [preSum, preSum_at ns k (by omega), List.take_add_one, List.getElem?_eq_getElem (by omega : k < ns.length), List.sum_append]
    simp
theorem vals_ints_at : ∀ {ns : List Int} {its : List Value} {i : Nat} {v : Value}, Vals (ns.map V.int) its → its[i]? = some v → ∃ t, v = .int ((ns[i]?).getD 0) t
  | [], _, i, v, .nil, h => by simp at h
  | n :: ns, _, 0, v, .cons r t, h => by
    simp only [List.getElem?_cons_zero, Option.some.injEq] at h
    subst h
    obtain ⟨t, e⟩ := r
    exact ⟨t, e⟩
  | n :: ns, _, i + 1, v, .cons r t, h => by
    simp only [List.getElem?_cons_succ] at h
    simpa using vals_ints_at t h
theorem cr_sumT {X : Cx} (hc : X.calm = true) : CallR X (.builtin "sum") (rSumT X.K) := by
  intro pins s σ H xs us Q I hv h
  obtain ⟨a, ns, rfl, hq, q⟩ := h
  cases hv with
  | cons r t =>
    cases t
    cases r
    obtain ⟨its, rv, p, hz⟩ := I.tuple hq
    have p' : s.heap.IsTuple a its.toArray := p
    obtain ⟨o, ho, p2⟩ := id p'
    have hne : a ≠ s.heap.objs.size := Nat.ne_of_lt (Heap.lt_size ho)
    have hl := rv.length
    rw [List.length_map] at hl
    refine call_sum_walkG (wpAny_pyIter_tuple p' ⟨s.heap.objs.size, [s.heap.objs.size, a], [s.heap.objs.size], _, _, _, fun i => (ns[i]?).getD 0, rfl, Walks.tuple (A := X.A.in1) (I.ok.hd hc) _ a hne its.toArray, ⟨⟨_, Heap.get?_push_size _ rfl, rfl, rfl⟩, ⟨o, Heap.get?_push_of_some _ ho, p2⟩⟩, fun b hb => ?_, fun i v hi => ?_, fun h' tk t' hk => ?_⟩)
    · have h1 := Heap.lt_size ho
      simp only [List.mem_cons, List.not_mem_nil, or_false] at hb
      show b < (s.heap.push _).objs.size
      rw [PyProof.Rows.size_push']
      rcases hb with e | e
      · rw [e]
        exact Nat.lt_succ_self _
      · rw [e]
        exact Nat.lt_succ_of_lt h1
    · refine vals_ints_at rv ?_
      simpa using hi
    · refine ⟨.int (preSum (fun i => (ns[i]?).getD 0) its.toArray.size), H, I.kept (t' := tk) fun b o e => hk b o (fun m => ?_) (Heap.get?_push_of_some _ e), ⟨_, rfl⟩, ?_⟩
      · have h1 := Heap.lt_size e
        rw [List.mem_singleton.mp m] at h1
        exact Nat.lt_irrefl _ h1
      · have e : preSum (fun i => (ns[i]?).getD 0) its.toArray.size = ns.sum := by
          rw [List.size_toArray, ← hl, preSum_at ns _ (Nat.le_refl _), List.take_length]
        rw [e]
        exact q
end L2
/-! ### walks with an invariant on the heap alone: the inner for of a comprehension; zip in a generator expression -/
namespace L2
open PySem PySem.Spec PyProof.Rows
theorem passes_no {X : Cx} : Passes (L2.CX X.prog X.w) X (fun _ _ _ => False) := fun pins σ H s e s' I h => by
  obtain ⟨a, B, H', cls, d, _, _, _, _, _, _, _, h⟩ := h
  exact h.elim
section
variable {K : PySem.W.Frag} {a b : Addr} {xs ys : List V} {H0 : Hp} {B : V → Hp → (Hp → Prop) → Prop} {Nx : Hp → Prop}
theorem w_tup (Pv : Nat → Hp → Prop) (h0 : Pv 0 H0) (hl : ∀ i H, i ≤ xs.length → Pv i H → SqT K H a xs) (hs : ∀ i x H, xs[i]? = some x → Pv i H → B x H (Pv (i + 1))) (hd : ∀ H, Pv xs.length H → Nx H) :
    ∃ W : Nat → Nat → Hp → Prop, (∃ m, W 0 m H0) ∧ ∀ i m H, W i m H → ((Itt K a).stop i H ∧ Nx H) ∨ ((Itt K a).go i H ∧ ∃ N : Hp → Prop, (∀ H', N H' → ∃ m', m' < m ∧ W (i + 1) m' H') ∧ ∀ x H', (Itt K a).yld i H x H' → B x H' N) := by
  refine ⟨fun i m H => m = xs.length - i ∧ i ≤ xs.length ∧ Pv i H, ⟨xs.length, rfl, Nat.zero_le _, h0⟩, ?_⟩
  rintro i m H ⟨rfl, hi, p⟩
  have q := hl i H hi p
  by_cases hlt : i < xs.length
  · refine .inr ⟨⟨xs, _, q, List.getElem?_eq_getElem hlt⟩, Pv (i + 1), fun H' p' => ⟨_, by omega, rfl, hlt, p'⟩, fun x H' y => ?_⟩
    obtain ⟨rfl, y⟩ := y
    exact hs i x _ (y xs q) p
  · have e : i = xs.length := by omega
    subst e
    exact .inl ⟨⟨xs, q, Nat.le_refl _⟩, hd H p⟩
theorem w_list (Pv : Nat → Hp → Prop) (h0 : Pv 0 H0) (hl : ∀ i H, i ≤ xs.length → Pv i H → SqL K H a xs) (hs : ∀ i x H, xs[i]? = some x → Pv i H → B x H (Pv (i + 1))) (hd : ∀ H, Pv xs.length H → Nx H) :
    ∃ W : Nat → Nat → Hp → Prop, (∃ m, W 0 m H0) ∧ ∀ i m H, W i m H → ((Itl K a).stop i H ∧ Nx H) ∨ ((Itl K a).go i H ∧ ∃ N : Hp → Prop, (∀ H', N H' → ∃ m', m' < m ∧ W (i + 1) m' H') ∧ ∀ x H', (Itl K a).yld i H x H' → B x H' N) := by
  refine ⟨fun i m H => m = xs.length - i ∧ i ≤ xs.length ∧ Pv i H, ⟨xs.length, rfl, Nat.zero_le _, h0⟩, ?_⟩
  rintro i m H ⟨rfl, hi, p⟩
  have q := hl i H hi p
  by_cases hlt : i < xs.length
  · refine .inr ⟨⟨xs, _, q, List.getElem?_eq_getElem hlt⟩, Pv (i + 1), fun H' p' => ⟨_, by omega, rfl, hlt, p'⟩, fun x H' y => ?_⟩
    obtain ⟨rfl, y⟩ := y
    exact hs i x _ (y xs q) p
  · have e : i = xs.length := by omega
    subst e
    exact .inl ⟨⟨xs, q, Nat.le_refl _⟩, hd H p⟩
theorem w_range {lo : Int} {n : Nat} (Pv : Nat → Hp → Prop) (h0 : Pv 0 H0) (hs : ∀ i H, i < n → Pv i H → B (.int (lo + i)) H (Pv (i + 1))) (hd : ∀ H, Pv n H → Nx H) :
    ∃ W : Nat → Nat → Hp → Prop, (∃ m, W 0 m H0) ∧ ∀ i m H, W i m H → ((Itr lo n).stop i H ∧ Nx H) ∨ ((Itr lo n).go i H ∧ ∃ N : Hp → Prop, (∀ H', N H' → ∃ m', m' < m ∧ W (i + 1) m' H') ∧ ∀ x H', (Itr lo n).yld i H x H' → B x H' N) := by
  refine ⟨fun i m H => m = n - i ∧ i ≤ n ∧ Pv i H, ⟨n, rfl, Nat.zero_le _, h0⟩, ?_⟩
  rintro i m H ⟨rfl, hi, p⟩
  by_cases hlt : i < n
  · refine .inr ⟨hlt, Pv (i + 1), fun H' p' => ⟨_, by omega, rfl, hlt, p'⟩, fun x H' y => ?_⟩
    obtain ⟨rfl, rfl⟩ := y
    exact hs i _ hlt p
  · have e : i = n := by omega
    subst e
    exact .inl ⟨Nat.le_refl _, hd H p⟩
end
end L2
namespace GXP
open PySem PySem.Spec PyProof.Rows L2 RZ
section
variable {K : PySem.W.Frag} {a b : Addr} {xs ys : List V} {g : TG} {tt : TT} {te : TE} {vs : List Nat} {σ : L2.St} {cy : Cy} {Qe : List V → Hp → Prop} {H0 : Hp}
/-- zip of two tuples of one length -/
theorem gx_zipT (hn : xs.length = ys.length) (Pv : Nat → List V → Hp → Prop) (h0 : Pv 0 [] H0) (hl : ∀ i zs H, Pv i zs H → SqT K H a xs ∧ SqT K H b ys)
    (hs : ∀ i x y T zs H, xs[i]? = some x → ys[i]? = some y → Pv i zs H → H T = none → g (.ref T) (wipe σ vs) (upd H T (.tup [x, y])) fun σ2 H2 => wipe σ2 vs = wipe σ vs ∧ tt σ2 H2 fun b H3 => if b = true then te σ2 H3 fun y H4 => cy zs y H4 (Pv (i + 1)) else Pv (i + 1) zs H3)
    (hd : ∀ zs H, Pv ys.length zs H → Qe zs H) : ∃ W m, W 0 m [] H0 ∧ Turns (ItzT K a b) g tt te vs σ cy Qe W := by
  refine ⟨fun i m zs H => m = ys.length - i ∧ i ≤ ys.length ∧ Pv i zs H, ys.length, ⟨rfl, Nat.zero_le _, h0⟩, ?_⟩
  rintro i m zs H ⟨rfl, hi, p⟩
  obtain ⟨qx, qy⟩ := hl i zs H p
  by_cases hlt : i < ys.length
  · have hlx : i < xs.length := by omega
    refine .inr ⟨⟨xs, ys, _, _, qx, qy, List.getElem?_eq_getElem hlx, List.getElem?_eq_getElem hlt⟩, by omega, Pv (i + 1), fun zs' H' p' => ⟨_, by omega, rfl, hlt, p'⟩, fun v H' y => ?_⟩
    obtain ⟨T, x', y', rfl, hT, rfl, f1, f2⟩ := y
    exact hs i x' y' T zs H (f1 xs qx) (f2 ys qy) p hT
  · have e : i = ys.length := by omega
    subst e
    exact .inl ⟨⟨xs, ys, qx, qy, Or.inr (Nat.le_refl _)⟩, hd zs H p⟩
end
end GXP
/-! ### enumerate of a list or a tuple -/
namespace L2
open PySem PySem.Spec PyProof.Rows
theorem wp_if {α : Type} {M : Model} {A : Around} {E : Value → Shared → Prop} {s : Shared} {c : Bool} {x y : Sem α} {Q : α → Shared → Prop} (h1 : wpAny M A x Q E s) (h2 : wpAny M A y Q E s) : wpAny M A (if c = true then x else y) Q E s := by
  cases c
  · exact h2
  · exact h1
theorem call_enumerate_tup {prog : Program} {w : World} {A : Around} {E : Value → Shared → Prop} {s : Shared} {t : Addr} {items : Array Value} {Q : Value → Shared → Prop} (hI : s.heap.IsTuple t items)
    (hQ : ∀ (h' : Heap) (e : Addr), s.heap.objs.size ≤ e → e ≠ s.heap.objs.size → IsEnum h' e s.heap.objs.size 0 Value.none → h'.IsTupleIter s.heap.objs.size t 0 → (∀ (b : Addr) (o : Obj), s.heap.get? b = some o → h'.get? b = some o) → Q (.ref e) { s with heap := h' }) :
    wpAny (model prog w) A (call (.type "enumerate") [.ref t]) Q E s := by
  refine callType_codes (Q₁ := fun obj s1 => s1.TypeIs obj "enumerate" ∧ Q obj s1) F.called_enumerate (F.typeCall_enumerate_1 _) F.entry_object_init (codeAny_of_tree ?_) fun obj s1 h1 =>
    ⟨h1.1, F.args_object_init_2 obj _, object_init_meets F.called_enumerate.init.lookup F.called_enumerate.made (by decide) prog w A.in1 _ s1 ⟨h1.1, rfl, h1.2⟩⟩
  have pl : plainId "enumerate.__new__" = true := by decide +kernel
  show wpAny _ A.in1.in1 (do checkBuiltinCall "enumerate.__new__" ⟨[.type "enumerate", .ref t], []⟩; again (.builtin "enumerate.__new__" ⟨[.type "enumerate", .ref t], []⟩)) _ _ s
  refine wpAny_bind (wpAny_of_eq (F.newCall_enumerate_1 _) (wpAny_pure ⟨plainId_quiet pl _, codeAny_builtin F.entry_enumerate_new ?_⟩))
  rw [Around.under_plainId pl]
  unfold Builtin.«enumerate.__new__»
  have hsub : isSubtype (Value.type "enumerate") (Value.type "enumerate") = pure true := by rfl
  wp_walk using wpAny_pyIter_tuple hI
  refine wpAny_stack_any fun st => wpAny_pure ?_
  refine wp_if ?_ ?_
  all_goals
    refine wpAny_bind (wpAny_of_eq (show _ = pure (Value.ref t, none) from rfl) ?_)
    wp_walk using wpAny_pyIter_tuple hI
  all_goals
    have o1 : ((s.heap.push { cls := .type "tuple_iterator", data := .fields #[.ref t, .int 0 0] }).push { cls := .type "enumerate", data := .fields #[.none, .bool false, .ref s.heap.objs.size, rawInt 0, .none, .none] }).get? (s.heap.push { cls := .type "tuple_iterator", data := .fields #[.ref t, .int 0 0] }).objs.size = some { cls := .type "enumerate", data := .fields #[.none, .bool false, .ref s.heap.objs.size, rawInt 0, .none, .none] } := Heap.get?_push_size _ rfl
    refine ⟨⟨_, o1, rfl⟩, ?_⟩
    have g2 : ((s.heap.push { cls := .type "tuple_iterator", data := .fields #[.ref t, .int 0 0] }).push { cls := .type "enumerate", data := .fields #[.none, .bool false, .ref s.heap.objs.size, rawInt 0, .none, .none] }).get? s.heap.objs.size = some { cls := .type "tuple_iterator", data := .fields #[.ref t, .int 0 0] } := Heap.get?_push_of_some _ (Heap.get?_push_size _ rfl)
    have hz : (s.heap.push { cls := .type "tuple_iterator", data := .fields #[.ref t, .int 0 0] }).objs.size = s.heap.objs.size + 1 := PyProof.Rows.size_push' _ _
    have hq := hQ _ _ (by rw [hz]; exact Nat.le_succ _) (by rw [hz]; exact Nat.succ_ne_self _) o1 ⟨_, g2, rfl, rfl⟩ fun b o e => Heap.get?_push_of_some _ (Heap.get?_push_of_some _ e)
    exact hq
/-- enumerate of a tuple of n things -/
def IteT (K : PySem.W.Frag) (a : Addr) (n : Nat) : It where
  go := fun i H => ∃ xs x, SqT K H a xs ∧ xs[i]? = some x ∧ xs.length = n
  yld := fun i H v H' => ∃ T x, v = V.ref T ∧ H T = none ∧ H' = upd H T (.tup [V.int (i : Int), x]) ∧ ∀ xs : List V, SqT K H a xs → xs[i]? = some x
  stop := fun i H => ∃ xs, SqT K H a xs ∧ xs.length = n ∧ n ≤ i
theorem vals_get : ∀ {xs : List V} {its : List Value} {i : Nat} {u : Value}, Vals xs its → its[i]? = some u → ∃ x, xs[i]? = some x ∧ RelV x u
  | _, _, i, u, .nil, h => by simp at h
  | _, _, 0, u, .cons r t, h => by
    simp only [List.getElem?_cons_zero, Option.some.injEq] at h
    subst h
    exact ⟨_, rfl, r⟩
  | _, _, i + 1, u, .cons r t, h => by
    simp only [List.getElem?_cons_succ] at h
    obtain ⟨x, h1, h2⟩ := vals_get t h
    exact ⟨x, by simpa using h1, h2⟩
theorem turn_enumT {P : Program} {w : World} {K : PySem.W.Frag} {elts : List Expr} {kk : Nat} {tpos : Pos} {a e it : Addr} {n : Nat} :
    Turn P w K (.Tuple elts kk tpos) (IteT K a n) [e, it] e fun i h => (∃ old, IsEnum h e it (i : Int) old) ∧ h.IsTupleIter it a i ∧ e ≠ it ∧ i ≤ n := by
  have ne_of : ∀ {h : Heap} {i : Nat} {old : Value} {items : Array Value}, IsEnum h e it (i : Int) old → h.IsTupleIter it a i → h.IsTuple a items → e ≠ it → a ≠ it ∧ e ∉ [it, a] := fun he hi ha hne => by
    obtain ⟨o, ho, hc, hd⟩ := hi
    obtain ⟨o2, ho2, hc2, _⟩ := ha
    refine ⟨fun z => ?_, fun m => ?_⟩
    · rw [z, ho] at ho2
      cases ho2
      rw [hc] at hc2
      exact absurd (Value.type.inj hc2) (by decide)
    · simp only [List.mem_cons, List.not_mem_nil, or_false] at m
      rcases m with m | m
      · exact hne m
      · have he2 : _ = some _ := he
        rw [m] at he2
        have he3 := he2.symm.trans ho2
        cases he3
        exact absurd (Value.type.inj hc2) (by decide)
  refine ⟨List.mem_cons_self, fun i h tn b hb => ?_, fun i h h' tn hk => ?_, fun X hP hw hK hcalm i pins s σ H E I hfp tn go => ?_, fun X hP hw hK hcalm i pins s σ H E I hfp tn st => ?_, fun A i s Q E tn q => ?_⟩
  · obtain ⟨⟨old, he⟩, ⟨o, ho, hc, hd⟩, hne, hn⟩ := tn
    simp only [List.mem_cons, List.not_mem_nil, or_false] at hb
    rcases hb with rfl | rfl
    · exact ⟨_, he, fun v z => by cases z⟩
    · exact ⟨o, ho, fun v z => by rw [hd] at z; cases z⟩
  · obtain ⟨⟨old, he⟩, ⟨o, ho, hc, hd⟩, hne, hn⟩ := tn
    exact ⟨⟨old, hk e (by simp) _ he⟩, ⟨o, hk it (by simp) _ ho, hc, hd⟩, hne, hn⟩
  · subst hP
    subst hw
    subst hK
    obtain ⟨xs, x, hq, hx, hlen⟩ := go
    obtain ⟨its, rv, p, hz⟩ := I.tuple hq
    have p' : s.heap.IsTuple a its.toArray := p
    obtain ⟨⟨old, he⟩, hi, hne, hn⟩ := tn
    obtain ⟨h1, h2⟩ := ne_of he hi p' hne
    have W := WalksT.enumerateD (prog := X.prog) (w := X.w) (A := X.A) (Draws.tuple (A := X.A.in1) (I.ok.hd hcalm) it a h1 its.toArray) e hne h2 (by simp)
    have hl := rv.length
    have hlt := (List.getElem?_eq_some_iff.mp hx).1
    refine W.item i s _ E (by rw [List.size_toArray]; omega) ⟨⟨old, he⟩, hi, p'⟩ (fun T vals h' tk hv hT hTup hmid hk => ⟨_, rfl, ?_⟩)
    obtain ⟨t, x', hx', rfl⟩ := hv
    have hTw := W.apart _ _ _ hmid
    refine W.go elts kk tpos i T { s with heap := h', toks := tk } _ E hmid (fun h2 hst hk2 => ?_)
    obtain ⟨⟨old2, he2⟩, hi2, _⟩ := hst
    obtain ⟨x2, hx2, hr⟩ := vals_get rv (by simpa using hx')
    have ex : x2 = x := Option.some.inj (hx2.symm.trans hx)
    subst ex
    obtain ⟨oT, hoT, hcT, nT, hdT⟩ := hTup
    have hn0 : ∀ b ∈ [e, it], b ≠ T := fun b hb z => by
      refine absurd hT (Nat.not_le_of_lt ?_)
      rw [← z]
      simp only [List.mem_cons, List.not_mem_nil, or_false] at hb
      rcases hb with rfl | rfl
      · exact Heap.lt_size he
      · obtain ⟨o, ho, _⟩ := hi
        exact Heap.lt_size ho
    refine ⟨.ref T, upd H T (.tup [V.int (i : Int), x2]), I.turnedNew (ch := [e, it]) (fun b o hb eo => hk2 b o hb (hk b o hb eo)) hfp hT
      (show ObjOk X.prog X.w _ _ _ (.tup [V.int (i : Int), x2]) from ⟨by rw [sizeLine_eq]; simp, [.int (i : Int) t, x'], .cons ⟨t, rfl⟩ (.cons hr .nil), oT, hk2 _ _ hTw hoT, hcT, nT, hdT⟩), rfl, ⟨T, x2, rfl, I.hok.fresh hT, rfl, fun ys hys => by rw [I.tuple_inj hys hq]; exact hx⟩, ⟨⟨old2, he2⟩, hi2, hne, by omega⟩, fun b hb => ?_⟩
    rw [upd_ne (hn0 b hb)]
    exact (hfp b hb).1
  · subst hP
    subst hw
    subst hK
    obtain ⟨xs, hq, hlen, hle⟩ := st
    obtain ⟨its, rv, p, hz⟩ := I.tuple hq
    have p' : s.heap.IsTuple a its.toArray := p
    obtain ⟨⟨old, he⟩, hi, hne, hn⟩ := tn
    obtain ⟨h1, h2⟩ := ne_of he hi p' hne
    have W := WalksT.enumerateD (prog := X.prog) (w := X.w) (A := X.A) (Draws.tuple (A := X.A.in1) (I.ok.hd hcalm) it a h1 its.toArray) e hne h2 (by simp)
    have hl := rv.length
    have ei : i = its.toArray.size := by rw [List.size_toArray]; omega
    refine W.done s _ E ⟨⟨old, by rw [← ei]; exact he⟩, by rw [← ei]; exact hi, p'⟩ (fun h' tk hk => ⟨rfl, I.turnedL (ch := [e, it]) hk hfp⟩)
  · obtain ⟨⟨old, he⟩, _⟩ := tn
    exact wpAny_pyIter_enum he q
/-- enumerate(l), l a tuple -/
def iEnumT (K : PySem.W.Frag) (ta : TA) : TI := fun σ H R => ta σ H fun vs H1 => ∃ a xs, vs = [.ref a] ∧ SqT K H1 a xs ∧ R (IteT K a xs.length) H1
theorem pi_enumT {X : Cx} {e : Expr} {ta : TA} {p pos tpos : Pos} {elts : List Expr} {kk : Nat} (hcalm : X.calm = true) (hg : Gl X "enumerate") (hm : X.mg "enumerate" = none) (ha : PA X [e] ta)
    (he : starEach [e] X.env = (false, eval e X.env) :: starEach [] X.env := by rfl) : PI X (.Tuple elts kk tpos) (.Call (.Name "enumerate" p) [e] [] pos) (iEnumT X.K ta) := by
  refine ⟨fun pins s σ H R I h => ?_⟩
  refine wpAny_Call_Name_kw (ld_blt I hg hm (by decide +kernel : bootBuiltins "enumerate" = some (.type "enumerate")) (PyProof.Rows.callWith_type1 (thn (ha.run pos pins s σ H _ I h) fun us s1 ⟨vs, H1, I1, r, a, xs, ev, hq, q⟩ => ?_) he (by rfl)))
  subst ev
  cases r with
  | cons r t =>
    cases t
    cases r
    obtain ⟨its, rv, p', hz⟩ := I1.tuple hq
    refine call_enumerate_tup (show s1.heap.IsTuple a its.toArray from p') fun h' e1 hle hne hE hT hk => ?_
    have I2 : Inv X pins σ H1 { s1 with heap := h' } := I1.kept (t' := s1.toks) hk
    refine wpAny_pyIter_enum hE ⟨e1, [e1, s1.heap.objs.size], _, _, H1, rfl, I2, turn_enumT, ⟨⟨_, hE⟩, hT, hne, Nat.zero_le _⟩, fun b hb => ?_, q⟩
    simp only [List.mem_cons, List.not_mem_nil, or_false] at hb
    rcases hb with rfl | rfl
    · exact I1.fpOk hle (I1.hok.fresh hle)
    · exact I1.fpOk (Nat.le_refl _) (I1.hok.fresh (Nat.le_refl _))
/-- a walk that counts the things of a list or a tuple that stood in H0 -/
structure EnumW (J : It) (H0 : Hp) (xs : List V) : Prop where
  go : ∀ i H, EXT.Ext H0 H → i < xs.length → J.go i H
  stop : ∀ H, EXT.Ext H0 H → J.stop xs.length H
  yld : ∀ i H v H', EXT.Ext H0 H → J.yld i H v H' → ∃ T x, v = V.ref T ∧ H T = none ∧ H' = upd H T (.tup [V.int (i : Int), x]) ∧ xs[i]? = some x
theorem enumW_list {K : PySem.W.Frag} {H0 : Hp} {a : Addr} {xs : List V} (h : SqL K H0 a xs) : EnumW (Ite K a) H0 xs :=
  ⟨fun i H s hi => ⟨xs, _, s.seq h, List.getElem?_eq_getElem hi⟩, fun H s => ⟨xs, s.seq h, Nat.le_refl _⟩, fun i H v H' s ⟨T, x, e1, e2, e3, e4⟩ => ⟨T, x, e1, e2, e3, e4 xs (s.seq h)⟩⟩
theorem enumW_tup {K : PySem.W.Frag} {H0 : Hp} {a : Addr} {xs : List V} (h : SqT K H0 a xs) : EnumW (IteT K a xs.length) H0 xs :=
  ⟨fun i H s hi => ⟨xs, _, s.tup h, List.getElem?_eq_getElem hi, rfl⟩, fun H s => ⟨xs, s.tup h, rfl, Nat.le_refl _⟩, fun i H v H' s ⟨T, x, e1, e2, e3, e4⟩ => ⟨T, x, e1, e2, e3, e4 xs (s.tup h)⟩⟩
/-- enumerate(l), l a list or a tuple -/
def iEnumS (K : PySem.W.Frag) (ta : TA) : TI := fun σ H R => ta σ H fun vs H1 => ∃ a xs H0, vs = [.ref a] ∧ EXT.Ext H0 H1 ∧ (SqL K H0 a xs ∨ SqT K H0 a xs) ∧ ∀ J, EnumW J H0 xs → R J H1
theorem pi_enumS {X : Cx} {e : Expr} {ta : TA} {p pos tpos : Pos} {elts : List Expr} {kk : Nat} (hcalm : X.calm = true) (hg : Gl X "enumerate") (hm : X.mg "enumerate" = none) (ha : PA X [e] ta)
    (he : starEach [e] X.env = (false, eval e X.env) :: starEach [] X.env := by rfl) : PI X (.Tuple elts kk tpos) (.Call (.Name "enumerate" p) [e] [] pos) (iEnumS X.K ta) := by
  refine ⟨fun pins s σ H R I h => ?_⟩
  refine wpAny_Call_Name_kw (ld_blt I hg hm (by decide +kernel : bootBuiltins "enumerate" = some (.type "enumerate")) (PyProof.Rows.callWith_type1 (thn (ha.run pos pins s σ H _ I h) fun us s1 ⟨vs, H1, I1, r, a, xs, H0, ev, hE0, hq, q⟩ => ?_) he (by rfl)))
  subst ev
  cases r with
  | cons r t =>
    cases t
    cases r
    rcases hq with hq | hq
    · obtain ⟨its, rv, p', hz⟩ := I1.list (hE0.seq hq)
      refine call_enumerate_list p'.isList fun h' hE hT hsz hk => ?_
      have I2 : Inv X pins σ H1 { s1 with heap := h' } := I1.kept (t' := s1.toks) hk
      have hle : s1.heap.objs.size ≤ s1.heap.objs.size + 1 := Nat.le_succ _
      refine wpAny_pyIter_enum hE ⟨s1.heap.objs.size + 1, [s1.heap.objs.size + 1, s1.heap.objs.size], _, _, H1, rfl, I2, turn_enum a _ _, ⟨⟨_, hE⟩, hT, Nat.succ_ne_self _⟩, fun b hb => ?_, q _ (enumW_list hq)⟩
      simp only [List.mem_cons, List.not_mem_nil, or_false] at hb
      rcases hb with rfl | rfl
      · exact I1.fpOk hle (I1.hok.fresh hle)
      · exact I1.fpOk (Nat.le_refl _) (I1.hok.fresh (Nat.le_refl _))
    · obtain ⟨its, rv, p', hz⟩ := I1.tuple (hE0.tup hq)
      refine call_enumerate_tup (show s1.heap.IsTuple a its.toArray from p') fun h' e1 hle hne hE hT hk => ?_
      have I2 : Inv X pins σ H1 { s1 with heap := h' } := I1.kept (t' := s1.toks) hk
      refine wpAny_pyIter_enum hE ⟨e1, [e1, s1.heap.objs.size], _, _, H1, rfl, I2, turn_enumT, ⟨⟨_, hE⟩, hT, hne, Nat.zero_le _⟩, fun b hb => ?_, q _ (enumW_tup hq)⟩
      simp only [List.mem_cons, List.not_mem_nil, or_false] at hb
      rcases hb with rfl | rfl
      · exact I1.fpOk hle (I1.hok.fresh hle)
      · exact I1.fpOk (Nat.le_refl _) (I1.hok.fresh (Nat.le_refl _))
section
variable {J : It} {H0 : Hp} {xs : List V}
theorem w_enum {B : V → Hp → (Hp → Prop) → Prop} {Nx : Hp → Prop} {H1 : Hp} (w : EnumW J H0 xs) (Pv : Nat → Hp → Prop) (h0 : Pv 0 H1) (hl : ∀ i H, i ≤ xs.length → Pv i H → EXT.Ext H0 H)
    (hs : ∀ i x T H, xs[i]? = some x → Pv i H → H T = none → B (.ref T) (upd H T (.tup [V.int (i : Int), x])) (Pv (i + 1))) (hd : ∀ H, Pv xs.length H → Nx H) :
    ∃ W : Nat → Nat → Hp → Prop, (∃ m, W 0 m H1) ∧ ∀ i m H, W i m H → (J.stop i H ∧ Nx H) ∨ (J.go i H ∧ ∃ N : Hp → Prop, (∀ H', N H' → ∃ m', m' < m ∧ W (i + 1) m' H') ∧ ∀ x H', J.yld i H x H' → B x H' N) := by
  refine ⟨fun i m H => m = xs.length - i ∧ i ≤ xs.length ∧ Pv i H, ⟨xs.length, rfl, Nat.zero_le _, h0⟩, ?_⟩
  rintro i m H ⟨rfl, hi, p⟩
  have s := hl i H hi p
  by_cases hlt : i < xs.length
  · refine .inr ⟨w.go i H s hlt, Pv (i + 1), fun H' p' => ⟨_, by omega, rfl, hlt, p'⟩, fun v H' y => ?_⟩
    obtain ⟨T, x, rfl, hT, rfl, hx⟩ := w.yld i H v H' s y
    exact hs i x T H hx p hT
  · have e : i = xs.length := by omega
    subst e
    exact .inl ⟨w.stop H s, hd H p⟩
theorem for_enum {g : TG} {tb : TS} {D : Ends} {σ0 : St} {H1 : Hp} (w : EnumW J H0 xs) (Pv : Nat → St → Hp → Prop) (h0 : Pv 0 σ0 H1) (hl : ∀ i σ H, i ≤ xs.length → Pv i σ H → EXT.Ext H0 H)
    (hs : ∀ i x T σ H, xs[i]? = some x → Pv i σ H → H T = none → g (.ref T) σ (upd H T (.tup [V.int (i : Int), x])) fun σ2 H2 => tb { D with nx := Pv (i + 1), ct := Pv (i + 1), bk := D.nx } σ2 H2) (hd : ∀ σ H, Pv xs.length σ H → D.nx σ H) :
    ∃ W : Nat → Nat → St → Hp → Prop, (∃ m, W 0 m σ0 H1) ∧ ∀ i m σ H, W i m σ H →
      (J.stop i H ∧ D.nx σ H) ∨ (J.go i H ∧ ∃ N : St → Hp → Prop, (∀ σ' H', N σ' H' → ∃ m', m' < m ∧ W (i + 1) m' σ' H') ∧ ∀ x H', J.yld i H x H' → g x σ H' fun σ2 H2 => tb { D with nx := N, ct := N, bk := D.nx } σ2 H2) := by
  refine ⟨fun i m σ H => m = xs.length - i ∧ i ≤ xs.length ∧ Pv i σ H, ⟨xs.length, rfl, Nat.zero_le _, h0⟩, ?_⟩
  rintro i m σ H ⟨rfl, hi, p⟩
  have s := hl i σ H hi p
  by_cases hlt : i < xs.length
  · refine .inr ⟨w.go i H s hlt, Pv (i + 1), fun σ' H' p' => ⟨_, by omega, rfl, hlt, p'⟩, fun v H' y => ?_⟩
    obtain ⟨T, x, rfl, hT, rfl, hx⟩ := w.yld i H v H' s y
    exact hs i x T σ H hx p hT
  · have e : i = xs.length := by omega
    subst e
    exact .inl ⟨w.stop H s, hd σ H p⟩
end
/-- a walk over a list or a tuple that stood in H0 -/
structure SeqW (J : It) (H0 : Hp) (xs : List V) : Prop where
  go : ∀ i H, EXT.Ext H0 H → i < xs.length → J.go i H
  stop : ∀ H, EXT.Ext H0 H → J.stop xs.length H
  yld : ∀ i H v H', EXT.Ext H0 H → J.yld i H v H' → H' = H ∧ xs[i]? = some v
theorem seqW_list {K : PySem.W.Frag} {H : Hp} {a : Addr} {xs : List V} (h : SqL K H a xs) : SeqW (Itl K a) H xs := ⟨fun i H s hi => ⟨xs, _, s.seq h, List.getElem?_eq_getElem hi⟩, fun H s => ⟨xs, s.seq h, Nat.le_refl _⟩, fun i H v H' s y => ⟨y.1, y.2 xs (s.seq h)⟩⟩
theorem seqW_tup {K : PySem.W.Frag} {H : Hp} {a : Addr} {xs : List V} (h : SqT K H a xs) : SeqW (Itt K a) H xs := ⟨fun i H s hi => ⟨xs, _, s.tup h, List.getElem?_eq_getElem hi⟩, fun H s => ⟨xs, s.tup h, Nat.le_refl _⟩, fun i H v H' s y => ⟨y.1, y.2 xs (s.tup h)⟩⟩
/-- a list or a tuple, walked alike -/
def iSeqW (K : PySem.W.Frag) (tl : TE) : TI := fun σ H R => tl σ H fun x H1 => ∃ a xs H0, x = .ref a ∧ EXT.Ext H0 H1 ∧ (SqL K H0 a xs ∨ SqT K H0 a xs) ∧ ∀ J, SeqW J H0 xs → R J H1
theorem pi_seqW {X : Cx} {tg l : Expr} {tl : TE} (hl : PE X l tl) : PI X tg l (iSeqW X.K tl) := by
  refine ⟨fun pins s σ H R I h => ?_⟩
  refine thn (hl.run pins s σ H _ I h) fun v s1 ⟨x, H1, I1, r1, a, xs, H0, e, hE0, hq, q⟩ => ?_
  subst e
  cases r1
  rcases hq with hq | hq
  · obtain ⟨its, rv, p, hz⟩ := I1.list (hE0.seq hq)
    refine wpAny_pyIter_list p.isList ⟨s1.heap.objs.size, [s1.heap.objs.size], _, _, H1, rfl, I1.kept (t' := s1.toks) fun b o e => Heap.get?_push_of_some _ e, turn_list a _, ⟨_, Heap.get?_push_size _ rfl, rfl, rfl⟩, fun b hb => ?_, q _ (seqW_list hq)⟩
    obtain rfl : b = s1.heap.objs.size := by simpa using hb
    exact I1.fpOk (Nat.le_refl _) (I1.hok.fresh (Nat.le_refl _))
  · obtain ⟨its, rv, p, hz⟩ := I1.tuple (hE0.tup hq)
    refine wpAny_pyIter_tuple (show s1.heap.IsTuple a its.toArray from p) ⟨s1.heap.objs.size, [s1.heap.objs.size], _, _, H1, rfl, I1.kept (t' := s1.toks) fun b o e => Heap.get?_push_of_some _ e, turn_tuple a _, ⟨_, Heap.get?_push_size _ rfl, rfl, rfl⟩, fun b hb => ?_, q _ (seqW_tup hq)⟩
    obtain rfl : b = s1.heap.objs.size := by simpa using hb
    exact I1.fpOk (Nat.le_refl _) (I1.hok.fresh (Nat.le_refl _))
theorem w_seq {J : It} {H0 : Hp} {xs : List V} {B : V → Hp → (Hp → Prop) → Prop} {Nx : Hp → Prop} {H1 : Hp} (w : SeqW J H0 xs) (Pv : Nat → Hp → Prop) (h0 : Pv 0 H1) (hl : ∀ i H, i ≤ xs.length → Pv i H → EXT.Ext H0 H)
    (hs : ∀ i x H, xs[i]? = some x → Pv i H → B x H (Pv (i + 1))) (hd : ∀ H, Pv xs.length H → Nx H) :
    ∃ W : Nat → Nat → Hp → Prop, (∃ m, W 0 m H1) ∧ ∀ i m H, W i m H → (J.stop i H ∧ Nx H) ∨ (J.go i H ∧ ∃ N : Hp → Prop, (∀ H', N H' → ∃ m', m' < m ∧ W (i + 1) m' H') ∧ ∀ x H', J.yld i H x H' → B x H' N) := by
  refine ⟨fun i m H => m = xs.length - i ∧ i ≤ xs.length ∧ Pv i H, ⟨xs.length, rfl, Nat.zero_le _, h0⟩, ?_⟩
  rintro i m H ⟨rfl, hi, p⟩
  have s := hl i H hi p
  by_cases hlt : i < xs.length
  · refine .inr ⟨w.go i H s hlt, Pv (i + 1), fun H' p' => ⟨_, by omega, rfl, hlt, p'⟩, fun v H' y => ?_⟩
    obtain ⟨rfl, hx⟩ := w.yld i H v H' s y
    exact hs i v _ hx p
  · have e : i = xs.length := by omega
    subst e
    exact .inl ⟨w.stop H s, hd H p⟩
end L2
/-! ### min of a list of pairs of ints -/
namespace MINP
open PySem PySem.Spec PyProof.Rows L2
theorem lex2 {a b c d : Int} : HT.lexLt [a, b] [c, d] = decide (a < c ∨ (a = c ∧ b < d)) := by
  unfold HT.lexLt
  by_cases h : a = c
  · subst h
    simp only [if_true, Int.lt_irrefl, false_or, true_and]
    unfold HT.lexLt
    by_cases h2 : b = d
    · subst h2
      simp [HT.lexLt]
    · rw [if_neg h2]
  · rw [if_neg h]
    simp [h]
/-- the pair k at v -/
def At (h : Heap) (v : Value) (k : Int × Int) : Prop := ∃ a its, v = .ref a ∧ IsTup h a its ∧ IntsAre its.toList [k.1, k.2]
theorem At.keep {h h' : Heap} {v : Value} {k : Int × Int} {N : List Addr} (x : At h v k) (hk : ∀ (b : Addr) (o : Obj), b ∉ N → h.get? b = some o → h'.get? b = some o) (hn : ∀ a, v = .ref a → a ∉ N) : At h' v k := by
  obtain ⟨a, its, e, ⟨o, ho, h1, h2⟩, h3⟩ := x
  exact ⟨a, its, e, ⟨o, hk a o (hn a e) ho, h1, h2⟩, h3⟩
theorem At.lt {prog : Program} {w : World} {A : Around} {E : Value → Shared → Prop} {s : Shared} {u v : Value} {k m : Int × Int} {Q : Value → Shared → Prop} (x : At s.heap u k) (y : At s.heap v m) (hu : A.units < cLine) (q : Q (.bool (HT.lexLt [k.1, k.2] [m.1, m.2])) s) :
    wpAny (model prog w) A (richCompare .Lt u v) Q E s := by
  obtain ⟨a, its, rfl, h1, h2⟩ := x
  obtain ⟨b, jts, rfl, g1, g2⟩ := y
  exact HT.lt_tupInts h1 g1 h2 g2 hu q
abbrev tmp (xs : Array Value) (c : Nat) : Obj := { cls := .type "list", data := .seq xs c }
theorem loop {prog : Program} {w : World} {A : Around} {R : Result → Shared → Prop} {s0 : Shared} {I S l : Addr} {us : List Value} {ks : List (Int × Int)} (hd : A.handled = none) (hu : A.in1.units < cLine) (hl : s0.heap.IsList l us.toArray) (hk : Paired (At s0.heap) us ks) (hlI : l ≠ I) (hlS : l ≠ S) (hIS : I ≠ S)
    (hn : ∀ u ∈ us, ∀ a, u = .ref a → a ∉ [I, S])
    (fin : ∀ (i : Nat) (v : Value) (s : Shared), us[i]? = some v → (∀ (j : Nat) (x y : Int × Int), ks[j]? = some x → ks[i]? = some y → HT.lexLt [x.1, x.2] [y.1, y.2] = false) → (∀ (b : Addr) (o : Obj), b ∉ [I, S] → s0.heap.get? b = some o → s.heap.get? b = some o) → s.gens = s0.gens → s.drawn = s0.drawn → s.os = s0.os → R (.ok (.ret v)) s) :
    ∀ (r j i : Nat) (s : Shared) (v : Value) (c : Nat), us.length - j = r → j ≤ us.length → i < j → us[i]? = some v → (∀ (j' : Nat) (x y : Int × Int), j' < j → ks[j']? = some x → ks[i]? = some y → HT.lexLt [x.1, x.2] [y.1, y.2] = false) →
      s.heap.IsListIter I l j → s.heap.get? S = some (tmp #[v, v] c) → (∀ (b : Addr) (o : Obj), b ∉ [I, S] → s0.heap.get? b = some o → s.heap.get? b = some o) → s.gens = s0.gens → s.drawn = s0.drawn → s.os = s0.os →
      codeAny (model prog w) A (.builtin "min.loop" ⟨[.ref I, .none, .ref S], []⟩) R s := by
  intro r
  induction r with
  | zero =>
    intro j i s v c hr hj hij hv hb hI hS hkp hg hdr hos
    have ej : j = us.length := by omega
    subst ej
    have hl' : s.heap.IsList l us.toArray := by
      obtain ⟨o, ho, h⟩ := hl
      exact ⟨o, hkp l o (by simp [hlI, hlS]) ho, h⟩
    refine codeAny_builtin F.entry_min_loop ?_
    rw [Around.under_plainId F.plain_min_loop]
    unfold Builtin.«min.loop»
    have nx := fun (Q : Option Value → Shared → Prop) (E : Value → Shared → Prop) hQ => wpAny_pyNext_list_end (A := A.in1) (prog := prog) (w := w) (E := E) (Q := Q) hd hI hl' (by simp) hQ
    wp_walk using wpAny_load hS, nx
    refine wpAny_tryCatch (nx _ _ fun h' hx => ?_)
    have hS' : h'.get? S = some (tmp #[v, v] c) := hx S _ (Ne.symm hIS) hS
    show wpAny _ _ (updateSeq S (fun _ => #[]) >>= fun _ => letGo [v] [v] >>= fun _ => ret v) _ _ _
    refine wpAny_bind (wpAny_updateSeq (s := { s with heap := h' }) hS' rfl ?_)
    wp_walk
    refine fin i v _ hv (fun j x y h1 h2 => hb j x y ?_ h1 h2) (fun b o hn' e => ?_) hg hdr hos
    · rw [hk.length]
      exact (List.getElem?_eq_some_iff.mp h1).1
    · simp only [List.mem_cons, List.not_mem_nil, or_false, not_or] at hn'
      exact (Heap.get?_update_other _ _ (Ne.symm hn'.2)).trans (hx b o hn'.1 (hkp b o (by simp [hn'.1, hn'.2]) e))
  | succ r ih =>
    intro j i s v c hr hj hij hv hb hI hS hkp hg hdr hos
    have hlt : j < us.length := by omega
    have hl' : s.heap.IsList l us.toArray := by
      obtain ⟨o, ho, h⟩ := hl
      exact ⟨o, hkp l o (by simp [hlI, hlS]) ho, h⟩
    obtain ⟨u, hu2⟩ : ∃ u, us[j]? = some u := ⟨_, List.getElem?_eq_getElem hlt⟩
    refine codeAny_builtin F.entry_min_loop ?_
    rw [Around.under_plainId F.plain_min_loop]
    unfold Builtin.«min.loop»
    have nx := fun (Q : Option Value → Shared → Prop) (E : Value → Shared → Prop) hQ => wpAny_pyNext_list_item (A := A.in1) (prog := prog) (w := w) (E := E) (Q := Q) (x := u) hI hl' (by simpa using hu2) hQ
    wp_walk using wpAny_load hS, nx
    refine wpAny_tryCatch (nx _ _ fun h' hI' hx => ?_)
    have hS' : h'.get? S = some (tmp #[v, v] c) := (hx.2 S (Ne.symm hIS)).trans hS
    have hkp' : ∀ (b : Addr) (o : Obj), b ∉ [I, S] → s0.heap.get? b = some o → h'.get? b = some o := fun b o hb' e => by
      refine (hx.2 b ?_).trans (hkp b o hb' e)
      simp only [List.mem_cons, List.not_mem_nil, or_false, not_or] at hb'
      exact hb'.1
    have hil := (List.getElem?_eq_some_iff.mp hv).1
    obtain ⟨ku, hku, hau⟩ := EXT.paired_at hk hu2
    obtain ⟨kv, hkv, hav⟩ := EXT.paired_at hk hv
    have hau' := hau.keep hkp' (hn u (List.mem_of_getElem? hu2))
    have hav' := hav.keep hkp' (hn v (List.mem_of_getElem? hv))
    wp_walk
    refine wpAny_tryCatch (wpAny_holding (wpAny_bind (At.lt (s := { s with heap := h' }) hau' hav' hu ?_)))
    wp_walk
    have qm : (Code.builtin "min.loop" ⟨[.ref I, .none, .ref S], []⟩).quiet = true := plainId_quiet F.plain_min_loop _
    have kl := hk.length
    cases hc : HT.lexLt [ku.1, ku.2] [kv.1, kv.2] with
    | true =>
      simp only [if_true]
      refine wpAny_bind (wpAny_updateSeq (s := { s with heap := h' }) hS' rfl ?_)
      wp_walk
      have o1 := Heap.get?_update_self (Obj.mapSeq fun _ => #[u, u]) hS' rfl
      refine ⟨qm, ih (j + 1) j _ u _ (by omega) (by omega) (Nat.lt_succ_self _) hu2 (fun j' x y hj' h1 h2 => ?_) ?_ o1 (fun b o hn' e => ?_) hg hdr hos⟩
      · rw [hku] at h2
        cases h2
        by_cases e : j' = j
        · subst e
          rw [hku] at h1
          cases h1
          rw [lex2]
          refine decide_eq_false ?_
          omega
        · have := hb j' x kv (by omega) h1 hkv
          rw [lex2] at this hc ⊢
          have this := of_decide_eq_false this
          have hc := of_decide_eq_true hc
          refine decide_eq_false ?_
          omega
      · obtain ⟨o, ho, h1, h2⟩ := hI'
        exact ⟨o, (Heap.get?_update_other _ _ (Ne.symm hIS)).trans ho, h1, h2⟩
      · have hb2 := hn'
        simp only [List.mem_cons, List.not_mem_nil, or_false, not_or] at hb2
        exact (Heap.get?_update_other _ _ (Ne.symm hb2.2)).trans (hkp' b o hn' e)
    | false =>
      simp only [Bool.false_eq_true, if_false]
      wp_walk
      refine ⟨qm, ih (j + 1) i _ v c (by omega) (by omega) (by omega) hv (fun j' x y hj' h1 h2 => ?_) hI' hS' hkp' hg hdr hos⟩
      by_cases e : j' = j
      · subst e
        rw [hku] at h1
        cases h1
        rw [hkv] at h2
        cases h2
        exact hc
      · exact hb j' x y (by omega) h1 h2
theorem first {prog : Program} {w : World} {A : Around} {R : Result → Shared → Prop} {s0 : Shared} {I S l : Addr} {us : List Value} {ks : List (Int × Int)} {c : Nat} (hd : A.handled = none) (hu : A.in1.units < cLine) (hl : s0.heap.IsList l us.toArray) (hk : Paired (At s0.heap) us ks) (hlI : l ≠ I) (hlS : l ≠ S) (hIS : I ≠ S)
    (hn : ∀ u ∈ us, ∀ a, u = .ref a → a ∉ [I, S]) (hp : 0 < us.length) (hI : s0.heap.IsListIter I l 0) (hS : s0.heap.get? S = some (tmp #[] c))
    (fin : ∀ (i : Nat) (v : Value) (s : Shared), us[i]? = some v → (∀ (j : Nat) (x y : Int × Int), ks[j]? = some x → ks[i]? = some y → HT.lexLt [x.1, x.2] [y.1, y.2] = false) → (∀ (b : Addr) (o : Obj), b ∉ [I, S] → s0.heap.get? b = some o → s.heap.get? b = some o) → s.gens = s0.gens → s.drawn = s0.drawn → s.os = s0.os → R (.ok (.ret v)) s) :
    codeAny (model prog w) A (.builtin "min.loop" ⟨[.ref I, .none, .ref S], []⟩) R s0 := by
  obtain ⟨u, hu2⟩ : ∃ u, us[0]? = some u := ⟨_, List.getElem?_eq_getElem hp⟩
  refine codeAny_builtin F.entry_min_loop ?_
  rw [Around.under_plainId F.plain_min_loop]
  unfold Builtin.«min.loop»
  have nx := fun (Q : Option Value → Shared → Prop) (E : Value → Shared → Prop) hQ => wpAny_pyNext_list_item (A := A.in1) (prog := prog) (w := w) (E := E) (Q := Q) (x := u) hI hl (by simpa using hu2) hQ
  wp_walk using wpAny_load hS, nx
  refine wpAny_tryCatch (nx _ _ fun h' hI' hx => ?_)
  have hS' : h'.get? S = some (tmp #[] c) := (hx.2 S (Ne.symm hIS)).trans hS
  have hkp' : ∀ (b : Addr) (o : Obj), b ∉ [I, S] → s0.heap.get? b = some o → h'.get? b = some o := fun b o hb' e => by
    refine (hx.2 b ?_).trans e
    simp only [List.mem_cons, List.not_mem_nil, or_false, not_or] at hb'
    exact hb'.1
  have qm : (Code.builtin "min.loop" ⟨[.ref I, .none, .ref S], []⟩).quiet = true := plainId_quiet F.plain_min_loop _
  wp_walk
  have o1 := Heap.get?_update_self (Obj.mapSeq fun _ => #[u, u]) hS' rfl
  refine ⟨qm, loop hd hu hl hk hlI hlS hIS hn fin _ 1 0 _ u _ rfl hp (by decide) hu2 (fun j' x y hj' h1 h2 => ?_) ?_ o1 (fun b o hn' e => ?_) rfl rfl rfl⟩
  · obtain rfl : j' = 0 := by omega
    rw [h1] at h2
    cases h2
    rw [lex2]
    refine decide_eq_false ?_
    omega
  · obtain ⟨o, ho, h1, h2⟩ := hI'
    exact ⟨o, (Heap.get?_update_other _ _ (Ne.symm hIS)).trans ho, h1, h2⟩
  · have hb2 := hn'
    simp only [List.mem_cons, List.not_mem_nil, or_false, not_or] at hb2
    exact (Heap.get?_update_other _ _ (Ne.symm hb2.2)).trans (hkp' b o hn' e)
theorem call_min {prog : Program} {w : World} {A : Around} {E : Value → Shared → Prop} {s : Shared} {l : Addr} {us : List Value} {ks : List (Int × Int)} {Q : Value → Shared → Prop} (hd : A.handled = none) (hu : A.units + 8 < cLine) (hl : s.heap.IsList l us.toArray) (hk : Paired (At s.heap) us ks) (hp : 0 < us.length)
    (q : ∀ (i : Nat) (v : Value) (h' : Heap) (tk : Nat), us[i]? = some v → (∀ (j : Nat) (x y : Int × Int), ks[j]? = some x → ks[i]? = some y → HT.lexLt [x.1, x.2] [y.1, y.2] = false) → (∀ (b : Addr) (o : Obj), s.heap.get? b = some o → h'.get? b = some o) → Q v { s with heap := h', toks := tk }) :
    wpAny (model prog w) A (call (.builtin "min") [.ref l]) Q E s := by
  refine call_function_tree F.kind_min F.plain_min F.entry_min (F.args_min1 _) ?_
  unfold Builtin.min
  have hls := fun (Q : Value → Shared → Prop) (E : Value → Shared → Prop) h => wpAny_pyIter_list (prog := prog) (w := w) (A := A.in1) (s := s) (Q := Q) (E := E) hl h
  wp_walk using hls
  have qm : (Code.builtin "min.loop" ⟨[.ref s.heap.objs.size, .none, .ref (s.heap.push { cls := .type "list_iterator", data := .fields #[.ref l, .int 0 0] }).objs.size], []⟩).quiet = true := plainId_quiet F.plain_min_loop _
  have sz : (s.heap.push { cls := .type "list_iterator", data := .fields #[.ref l, .int 0 0] }).objs.size = s.heap.objs.size + 1 := size_push' _ _
  have old : ∀ {a : Addr} {o : Obj}, s.heap.get? a = some o → a ∉ [s.heap.objs.size, (s.heap.push { cls := .type "list_iterator", data := .fields #[.ref l, .int 0 0] }).objs.size] := fun {a o} e m => by
    have h1 := Heap.lt_size e
    simp only [List.mem_cons, List.not_mem_nil, or_false] at m
    rw [sz] at m
    rcases m with m | m
    · rw [m] at h1
      exact Nat.lt_irrefl _ h1
    · rw [m] at h1
      exact absurd h1 (Nat.not_lt_of_le (Nat.le_succ _))
  have kp : ∀ (b : Addr) (o : Obj), s.heap.get? b = some o → ((s.heap.push { cls := .type "list_iterator", data := .fields #[.ref l, .int 0 0] }).push { cls := .type "list", data := .seq #[] }).get? b = some o := fun b o e => Heap.get?_push_of_some _ (Heap.get?_push_of_some _ e)
  obtain ⟨ol, hol, hcl⟩ := id hl
  have hlo := old hol
  simp only [List.mem_cons, List.not_mem_nil, or_false, not_or] at hlo
  refine ⟨qm, first (c := 0) hd (by show A.units + 1 < cLine; omega) ⟨ol, kp l ol hol, hcl⟩ (EXT.paired_imp (fun v k x => ?_) hk) hlo.1 hlo.2 (by rw [sz]; exact (Nat.succ_ne_self _).symm) (fun u hu2 a e => ?_) hp ⟨_, Heap.get?_push_of_some _ (Heap.get?_push_size _ rfl), rfl, rfl⟩ (Heap.get?_push_size _ rfl) (fun i v s2 h1 h2 h3 h4 h5 h6 => ?_)⟩
  · obtain ⟨a, its, e, ⟨o, ho, g1⟩, g2⟩ := x
    exact ⟨a, its, e, ⟨o, kp a o ho, g1⟩, g2⟩
  · obtain ⟨i, hi⟩ := List.mem_iff_getElem?.mp hu2
    obtain ⟨k, _, a', its, e', ⟨o, ho, _⟩, _⟩ := EXT.paired_at hk hi
    rw [e] at e'
    cases e'
    exact old ho
  · have := q i v s2.heap s2.toks h1 h2 fun b o e => h3 b o (old e) (kp b o e)
    have es : s2 = { s with heap := s2.heap, toks := s2.toks } := by
      cases s2
      cases h4
      cases h5
      cases h6
      rfl
    rw [es]
    exact this
/-- min of a list of pairs of ints -/
def rMinP (K : PySem.W.Frag) : List V → Hp → VK → Prop := fun vs H Q => ∃ (a : Addr) (xs : List V) (ks : List (Int × Int)), vs = [V.ref a] ∧ SqL K H a xs ∧ Paired (fun v k => ∃ p, v = .ref p ∧ SqT K H p [.int k.1, .int k.2]) xs ks ∧ 0 < xs.length ∧
  ∀ (i : Nat) (v : V) (k : Int × Int), xs[i]? = some v → ks[i]? = some k → (∀ (j : Nat) (x : Int × Int), ks[j]? = some x → ¬ (x.1 < k.1 ∨ (x.1 = k.1 ∧ x.2 < k.2))) → Q v H
theorem at_all {X : Cx} {pins : List (Addr × Obj)} {σ : L2.St} {H : Hp} {s : Shared} (I : Inv X pins σ H s) : ∀ {xs : List V} {its : List Value} {ks : List (Int × Int)}, Vals xs its → Paired (fun v k => ∃ p, v = .ref p ∧ SqT X.K H p [.int k.1, .int k.2]) xs ks → Paired (At s.heap) its ks
  | _, _, _, .nil, .nil => .nil
  | _, _, _, .cons r t, .cons ⟨p, e, h⟩ u => by
    subst e
    cases r
    obtain ⟨its, rv, q, _⟩ := I.tuple h
    refine .cons ⟨p, its.toArray, rfl, q, ?_⟩ (at_all I t u)
    cases rv with
    | cons r1 t1 =>
      cases t1 with
      | cons r2 t2 =>
        cases t2
        obtain ⟨k1, e1⟩ := r1
        obtain ⟨k2, e2⟩ := r2
        subst e1
        subst e2
        exact .cons _ _ (.cons _ _ .nil)
theorem cr_minP {X : Cx} (hc : X.calm = true) (hu : X.A.units + 8 < cLine) : CallR X (.builtin "min") (rMinP X.K) := by
  intro pins s σ H xs us Q I hv h
  obtain ⟨a, xs, ks, rfl, hq, hk, hp, q⟩ := h
  cases hv with
  | cons r t =>
    cases t
    cases r
    obtain ⟨its, rv, p, hz⟩ := I.list hq
    have l1 := rv.length
    refine call_min (ks := ks) (I.ok.hd hc) hu p.isList (?_) (by omega) (fun i v h' tk h1 h2 hkp => ?_)
    · exact at_all I rv hk
    · obtain ⟨x, hx, hr⟩ := vals_get rv h1
      obtain ⟨k, hki, _⟩ := EXT.paired_at hk hx
      refine ⟨x, H, I.kept hkp, hr, q i x k hx hki fun j y hj => ?_⟩
      have := h2 j y k hj hki
      rw [lex2] at this
      exact of_decide_eq_false this
end MINP
/-! ### o[i] of a list, by values; sorted of a tuple of ints -/
namespace AUG
open PySem PySem.Spec PyProof.Rows L2
section
variable {X : Cx}
def rGetL (K : PySem.W.Frag) : V → V → Hp → VK → Prop := fun x y H Q => ∃ p xs i v, x = .ref p ∧ y = .int i ∧ 0 ≤ i ∧ SqL K H p xs ∧ xs[i.toNat]? = some v ∧ Q v H
theorem get_list : PGet X (rGetL X.K) := by
  intro pins s σ H x y v u Q I rx ry h
  obtain ⟨p, xs, i, z, rfl, rfl, h0, hq, he, q⟩ := h
  cases rx
  obtain ⟨t, rfl⟩ := ry
  obtain ⟨its, r, pl, hz⟩ := I.list hq
  obtain ⟨w, ew, rw'⟩ := r.get he
  have hl := r.length
  have hn := line63
  have hlt := (List.getElem?_eq_some_iff.mp he).1
  exact wpAny_getItem_list pl.isList h0 (by omega) (by simpa using ew) ⟨z, H, I, rw', q⟩
theorem sorted_tup {prog : Program} {w : World} {A : Around} {E : Value → Shared → Prop} {s : Shared} {t : Addr} {vs : List Value} {ns : List Int} {Q : Value → Shared → Prop} (ht : IsTup s.heap t vs.toArray) (hI : IntsAre vs ns) (h64 : vs.length < 64)
    (h : ∀ (h1 h' : Heap) (e : Nat) (out : Array Value) (ns' : List Int), (∀ b o, s.heap.get? b = some o → h1.get? b = some o) → (∀ b o, h1.get? b = some o → h'.get? b = some o) → h'.get? h1.objs.size = some (seqObj "list" out e) → IntsAre out.toList ns' → ns'.Perm ns → ns'.Pairwise (· ≤ ·) → Q (.ref h1.objs.size) { s with heap := h' }) :
    wpAny (model prog w) A (call (.builtin "sorted") [.ref t]) Q E s := by
  obtain ⟨o, ho, hc, n, hd⟩ := ht
  have hz : vs.length ≤ sizeLine := by rw [sizeLine_eq]; omega
  refine Calls.call_function_entry kind_sorted plain_sorted entry_sorted (args_sorted1 _) ?_
  unfold Builtin.«sorted»
  refine wpAny_bind (m := checkCount "sorted" 1 1 _) (wpAny_pure ?_)
  refine wpAny_bind (wpAny_collect_seq (T := "tuple") t (.inr rfl) ho hc hd (fun h1 k1 => ?_) (by simpa using hz))
  show wpAny _ _ _ _ _ _
  have e0 : vs.toArray.toList = vs := rfl
  rw [e0]
  refine wpAny_bind (wpAny_newList (s := { s with heap := h1 }) ?_ hz)
  have hoL : (h1.push (seqObj "list" vs.toArray 0)).get? h1.objs.size = some (seqObj "list" vs.toArray 0) := Heap.get?_push_size _ rfl
  show wpAny _ _ _ _ _ { s with heap := h1.push (seqObj "list" vs.toArray 0) }
  refine wpAny_bind (wpAny_holding (wpAny_call_entry slot_list_sort ⟨_, hoL, rfl⟩ entry_list_sort (list_sort_tree (s := { s with heap := h1.push (seqObj "list" vs.toArray 0) }) hoL hI h64 fun out ns' a1 a2 a3 => ⟨_, rfl, ?_⟩) (args_list_sort _)))
  obtain ⟨e, he⟩ := sortedHeap_at (out := out) hoL
  refine wpAny_pure ⟨_, rfl, h h1 _ e out ns' k1 (fun b o hb1 => ?_) he a1 a2 a3⟩
  have hlt := Heap.lt_size hb1
  rw [sortedHeap_old (Nat.ne_of_lt hlt) (by rw [size_push']; exact Nat.lt_succ_of_lt hlt)]
  exact Heap.get?_push_of_some _ hb1
/-- sorted(t), ints -/
def rSortedTu (K : PySem.W.Frag) : List V → Hp → VK → Prop := fun vs H Q => ∃ (a : Addr) (ns : List Int), vs = [V.ref a] ∧ SqT K H a (ns.map V.int) ∧ ns.length < 64 ∧
  ∀ (ns' : List Int) (p : Addr), ns'.Perm ns → ns'.Pairwise (· ≤ ·) → H p = none → Q (.ref p) (upd H p (.lst (ns'.map V.int)))
theorem cr_sortedTu : CallR X (.builtin "sorted") (rSortedTu X.K) := by
  intro pins s σ H vs us Q I r h
  obtain ⟨a, ns, rfl, hs, h64, q⟩ := h
  obtain ⟨its, rv, ht, _⟩ := I.tuple hs
  rw [Vals.ref1 r]
  have hi := rv.ints
  refine sorted_tup ht hi (by rw [hi.length]; exact h64) fun g h' e out ns' k1 kp he h1 h2 h3 => ?_
  have hlen : (ns'.map V.int).length ≤ sizeLine := by rw [List.length_map, h2.length_eq]; exact small64 h64
  have I1 : Inv X pins σ H { s with heap := g } := I.kept (t' := s.toks) k1
  exact ⟨.ref _, upd H g.objs.size (.lst (ns'.map V.int)), I1.laid (t' := s.toks) kp (Nat.le_refl _) ⟨hlen, out.toList, e, vals_of_ints h1, he⟩, rfl, q ns' _ h2 h3 (I1.hok.fresh (Nat.le_refl _))⟩
/-- an int's truth -/
theorem tru_int : TruR X (fun x H Q => ∃ i : Int, x = .int i ∧ Q (i != 0) H) := by
  intro pins s σ H x v Q I rx h
  obtain ⟨i, rfl, q⟩ := h
  exact tru_ok pins s σ H (.int i) v Q I rx ⟨_, rfl, q⟩
def tTruI (ta : TE) : TT := fun σ H Q => ta σ H fun x H' => ∃ i : Int, x = .int i ∧ Q (i != 0) H'
theorem pt_truthI {a : Expr} {ta : TE} (ha : PE X a ta) (he : ∀ whole, isTrue a X.env whole = (do let v ← whole; standAt a.pos; holding [v] (truthy v))) : PT X a (tTruI ta) :=
  ⟨fun pins s σ H Q I h => isTrue_plain (thn (ha.run pins s σ H _ I h) fun v s1 ⟨x, H1, I1, r1, q1⟩ => tru_int pins s1 σ H1 x v Q I1 r1 q1) (he _)⟩
end
end AUG
/-! ### sorted of a list of tuples of ints whose first item is () -/
namespace STU
open PySem PySem.Spec PyProof.Rows L2
section
variable {prog : Program} {w : World} {A : Around} {E : Value → Shared → Prop} {s : Shared}
/-- v is a tuple of these ints -/
def At (h : Heap) (v : Value) (ns : List Int) : Prop := ∃ a its, v = .ref a ∧ IsTup h a its ∧ IntsAre its.toList ns
theorem At.keeps {h h' : Heap} {v : Value} {ns : List Int} (x : At h v ns) (k : ∀ b o, v = .ref b → h.get? b = some o → h'.get? b = some o) : At h' v ns := by
  obtain ⟨a, its, e, ⟨o, ho, h1⟩, h2⟩ := x
  exact ⟨a, its, e, ⟨o, k a o e ho, h1⟩, h2⟩
theorem oneLt_tup {v u : Value} {ns ms : List Int} {Q : Bool → Shared → Prop} (hu : A.units < cLine) (hv : At s.heap v ns) (hw : At s.heap u ms) (h : Q (HT.lexLt ns ms) s) : wpAny (model prog w) A (keyLt' oneType' v u) Q E s := by
  obtain ⟨a, items, rfl, ⟨⟨cls, dd, data, sl⟩, ho, hc, n, hd⟩, hi⟩ := hv
  obtain ⟨b, items2, rfl, ⟨⟨cls2, dd2, data2, sl2⟩, ho2, hc2, n2, hd2⟩, hj⟩ := hw
  simp only at hc hd hc2 hd2
  subst hc hd hc2 hd2
  rw [keyLt'_oneType, oneLt'_eq]
  simp only [if_true]
  refine wpAny_bind (wpAny_cRoomFor hu ?_)
  refine wpAny_bind (wpAny_callSpecialIfBound?_slot (T := "tuple") ⟨_, ho, rfl⟩ PySem.F.slot_tuple_lt (call_meets PySem.F.slot_tuple_lt ⟨_, ho, rfl⟩ PySem.F.entry_tuple_lt (PySem.F.args_tuple_lt_2 _ _) (HT.tuple_lt_ints a b items items2 n n2 dd dd2 sl sl2 ns ms hi hj) ⟨ho, ho2, ?_⟩))
  exact wpAny_truthy_bool h
theorem mapM_by {α β : Type} {M : Model} {f : α → Sem β} {r : α → β} : ∀ (l : List α) {Q : List β → Shared → Prop}, (∀ v ∈ l, ∀ (Q' : β → Shared → Prop), Q' (r v) s → wpAny M A (f v) Q' E s) → Q (l.map r) s → wpAny M A (l.mapM f) Q E s
  | [], _, _, h => by
    rw [List.mapM_nil]
    exact wpAny_pure h
  | x :: l, Q, hf, h => by
    rw [List.mapM_cons]
    exact wpAny_bind (hf x (.head _) _ (wpAny_bind (mapM_by l (Q := fun bs s' => wpAny M A (pure (r x :: bs)) Q E s') (fun v hv => hf v (.tail _ hv)) (wpAny_pure h))))
theorem kind_tup {v0 : Value} {rest : List Value} {ks : Value → List Int} {Q : SortKind → Shared → Prop} (hv : ∀ v ∈ v0 :: rest, At s.heap v (ks v)) (h0 : ks v0 = []) (h : Q oneType' s) : wpAny (model prog w) A (keyKind' (v0 :: rest).toArray) Q E s := by
  have hx : ∀ v : Value, ∃ x : Array Value, v ∈ v0 :: rest → ∃ a, v = .ref a ∧ IsTup s.heap a x ∧ IntsAre x.toList (ks v) := fun v => by
    by_cases m : v ∈ v0 :: rest
    · obtain ⟨a, its, h1, h2, h3⟩ := hv v m
      exact ⟨its, fun _ => ⟨a, h1, h2, h3⟩⟩
    · exact ⟨#[], fun c => absurd c m⟩
  obtain ⟨its, hits⟩ := Classical.axiomOfChoice hx
  have e0 : (its v0)[0]? = none := by
    obtain ⟨a, _, _, h3⟩ := hits v0 (List.mem_cons_self ..)
    rw [h0] at h3
    have : (its v0).toList = [] := by
      cases hh : (its v0).toList with
      | nil => rfl
      | cons y ys =>
        rw [hh] at h3
        cases h3
    have l : (its v0).size = 0 := by rw [← Array.length_toList, this]; rfl
    exact Array.getElem?_eq_none (by omega)
  have hty : ∀ v ∈ v0 :: rest, s.TypeIs v "tuple" := fun v m => by
    obtain ⟨a, e, ⟨o, ho, hc, _⟩, _⟩ := hits v m
    rw [e]
    exact ⟨o, ho, hc⟩
  rw [kat_kind_eq, List.mapM_toArray, map_eq_pure_bind]
  refine wpAny_bind (wpAny_bind (mapM_by (r := fun v => (its v)[0]?) _ (fun v m Q' hq => ?_) (wpAny_pure ?_)))
  · obtain ⟨a, e, ⟨o, ho, hc, n, hd⟩, _⟩ := hits v m
    rw [PySem.W.kas_first_eq]
    refine wpAny_bind (wpAny_typeOf (hty v m) ?_)
    rw [if_neg (by first | decide | simp)]
    rw [e]
    refine wpAny_bind (listItems_at ho hd (wpAny_pure ?_))
    exact hq
  · have n1 : ¬ (((v0 :: rest).map fun v => (its v)[0]?).toArray.all fun x => x.isSome) = true := by
      rw [List.map_cons, e0]
      simp
    rw [if_neg n1]
    have n2 : ¬ ((((v0 :: rest).map fun v => (its v)[0]?).toArray[0]?.bind id).isSome) = true := by
      rw [List.map_cons, e0]
      simp
    rw [if_neg n2]
    rw [oneTypeOnly'_eq, List.mapM_toArray, map_eq_pure_bind]
    refine wpAny_bind (wpAny_bind (wpAny_bind (mapM_by (r := fun _ => Value.type "tuple") _ (fun v m Q' hq => wpAny_typeOf (hty v m) hq) (wpAny_pure ?_))))
    have hall : ((List.map (fun _ => Value.type "tuple") (v0 :: rest)).toArray.all fun x => x == Value.type "tuple") = true := by
      simp only [List.all_toArray, List.all_map, List.all_eq_true]
      intro _ _
      rfl
    have h1 : (List.map (fun _ => Value.type "tuple") (v0 :: rest)).toArray[0]? = some (Value.type "tuple") := by simp
    rw [h1]
    simp only [hall, if_true]
    exact wpAny_pure (wpAny_pure h)
theorem sortable {a : Addr} {v0 : Value} {rest : List Value} {ks : Value → List Int} (hu : A.units < cLine) (hv : ∀ v ∈ v0 :: rest, At s.heap v (ks v)) (h0 : ks v0 = []) (ha : ∀ v ∈ v0 :: rest, v ≠ .ref a) : SrtO.SortableO prog w A s a (v0 :: rest) fun v u => HT.lexLt (ks v) (ks u) := by
  intro h' keep
  have hv' : ∀ v ∈ v0 :: rest, At h' v (ks v) := fun v m => (hv v m).keeps fun b o e g => keep b o (fun z => ha v m (by rw [e, z])) g
  refine ⟨oneType', fun Q E hq => kind_tup (s := { s with heap := h' }) hv' h0 hq, fun p q hp hq => ?_⟩
  exact oneLt_tup (Q := fun r s' => s' = { s with heap := h' } ∧ r = HT.lexLt (ks p.1) (ks q.1)) (E := fun _ _ => False) (s := { s with heap := h' }) hu (hv' p.1 hp) (hv' q.1 hq) ⟨rfl, rfl⟩
end
/-- sorted(xs), xs tuples of ints (k says which), the first one empty -/
def rSortV (K : PySem.W.Frag) : List V → Hp → VK → Prop := fun vs H Q => ∃ (a : Addr) (x : V) (xs : List V) (k : V → List Int), vs = [V.ref a] ∧ SqL K H a (x :: xs) ∧ (∀ y ∈ x :: xs, ∃ t, y = V.ref t ∧ SqT K H t ((k y).map V.int)) ∧ k x = [] ∧
  ∀ ys p, ys.Perm (x :: xs) → ys.Pairwise (fun u v => HT.lexLt (k v) (k u) = false) → H p = none → Q (.ref p) (upd H p (.lst ys))
theorem cr_sortedV {X : Cx} (hu : X.A.units + 8 < cLine) : CallR X (.builtin "sorted") (rSortV X.K) := by
  intro pins s σ H vs us Q I r h
  obtain ⟨a, x, xs, k, rfl, hs, hx, h0, q⟩ := h
  obtain ⟨its, rv, hl, hz⟩ := I.list hs
  obtain ⟨u, rfl, ru⟩ := vals1 r
  obtain rfl : u = Value.ref a := ru
  obtain ⟨e1, e2⟩ := refs_back rv fun y m => by
    obtain ⟨t, e, _⟩ := hx y m
    exact ⟨t, e⟩
  have hat : ∀ v ∈ its, At s.heap v (k (backV v)) := fun v hv => by
    obtain ⟨t, rfl⟩ := e2 v hv
    have hm : V.ref t ∈ x :: xs := by
      rw [e1]
      exact List.mem_map.mpr ⟨_, hv, rfl⟩
    obtain ⟨t', e, ht⟩ := hx _ hm
    cases e
    obtain ⟨its2, r2, q2, _⟩ := I.tuple ht
    exact ⟨t, its2.toArray, rfl, q2, r2.ints⟩
  cases its with
  | nil => cases rv
  | cons v0 rest =>
    have h00 : k (backV v0) = [] := by
      rw [List.map_cons] at e1
      rw [← (List.cons.inj e1).1]
      exact h0
    refine SrtO.sorted_ord (NtL.swo_lexL fun v => k (backV v)) hl.isList (by rw [← rv.length]; exact hz) (fun h2 h₁ a' ha kk => ?_) fun out h1 h2 => ?_
    · refine sortable (s := { s with heap := h₁ }) (ks := fun v => k (backV v)) (by show X.A.units + 1 + 1 < cLine; omega) (fun v m => (hat v m).keeps fun b o _ g => (kk b o g).2) h00 fun v m e => ?_
      obtain ⟨b, its2, e', ⟨o, ho, _⟩, _⟩ := hat v m
      rw [e] at e'
      cases e'
      exact (kk _ o ho).1 rfl
    · have h3 : ∀ u ∈ out, ∃ a, u = Value.ref a := fun u hu => e2 u (h2.perm.mem_iff.mp hu)
      obtain ⟨n, hn⟩ := sortedAll_at s.heap (v0 :: rest) out.toArray
      have hp : (out.map backV).Perm (x :: xs) := by
        rw [e1]
        exact h2.perm.map backV
      refine ⟨.ref _, upd H (s.heap.objs.size + 1) (.lst (out.map backV)), I.laid (t' := s.toks) (fun _ _ => sortedAll_old) (Nat.le_succ _) ⟨by rw [hp.length_eq]; exact hz, out, n, vals_back h3, hn⟩, rfl, q _ _ hp (List.pairwise_map.mpr h1) (I.hok.fresh (Nat.le_succ _))⟩
end STU
/-! ### a tuple times a number from 0 on; enumerate in a generator expression -/
namespace L2
open PySem PySem.Spec PyProof.Rows
theorem tuple_mul1 (l : Addr) (items : Array Value) (n : Nat) (dd : Option Addr) (sl : Array (Option Value)) (u : Tok) :
    Meets (Builtin.«tuple.__mul__» ⟨[.ref l, .int 1 u], []⟩) (fun _ R s => s.heap.get? l = some { cls := .type "tuple", dict := dd, data := .seq items n, slots := sl } ∧ R (.ok (.ret (Value.ref l))) s) :=
  .of_wp fun prog w A R s h => by
    obtain ⟨hp, g, d, tk, os⟩ := s
    obtain ⟨hl, h⟩ := h
    have f1 := AutoSeq1.idx_int
    wp_walk using wpAny_loadPart' hl
    exact ⟨_, rfl, h⟩
theorem tuple_mul0 (l : Addr) (items : Array Value) (n : Nat) (dd : Option Addr) (sl : Array (Option Value)) (u : Tok) (hne : items.isEmpty = false) :
    Meets (Builtin.«tuple.__mul__» ⟨[.ref l, .int 0 u], []⟩) (fun _ R s => s.heap.get? l = some { cls := .type "tuple", dict := dd, data := .seq items n, slots := sl } ∧
      R (.ok (.ret (Value.ref s.heap.objs.size))) { s with heap := s.heap.push { cls := Value.type "tuple", data := Data.seq #[] }, toks := s.toks }) :=
  .of_wp fun prog w A R s h => by
    obtain ⟨hp, g, d, tk, os⟩ := s
    obtain ⟨hl, h⟩ := h
    have f1 := AutoSeq1.idx_int
    wp_walk using wpAny_loadPart' hl
    exact ⟨_, rfl, h⟩
/-- t * k, t a tuple that is not (): t itself for 1 -/
def rRepA (K : PySem.W.Frag) : R2 := fun x y H Q => ∃ l k xs, x = .ref l ∧ y = .int k ∧ SqT K H l xs ∧ xs ≠ [] ∧ 0 ≤ k ∧ k ≤ 1000 ∧ xs.length ≤ 1000 ∧ (k = 1 → Q (.ref l) H) ∧ (k ≠ 1 → ∀ p, H p = none → Q (.ref p) (upd H p (.tup (List.replicate k.toNat xs).flatten)))
theorem op_repA {X : Cx} : OpR X (binaryOp .Mult) (rRepA X.K) := by
  intro pins s σ H x y v u Q I rx ry h
  obtain ⟨l, k, xs, rfl, rfl, hT, hne, h0, h2, hz, q1, q2⟩ := h
  by_cases k2 : 2 ≤ k
  · exact op_repT pins s σ H _ _ v u Q I rx ry ⟨l, k, xs, rfl, rfl, hT, hne, k2, h2, hz, q2 (by omega)⟩
  cases rx
  obtain ⟨t, rfl⟩ := ry
  obtain ⟨its, r, ⟨⟨cls, dd, data, sl⟩, ho, hc, n, hd⟩, hs⟩ := I.tuple hT
  simp only at hc hd
  subst hc hd
  have hle : its.length = xs.length := r.length.symm
  have hn : its ≠ [] := fun e => hne (by
    rw [e] at hle
    exact List.eq_nil_of_length_eq_zero hle.symm)
  have hi : its.toArray.isEmpty = false := by
    cases its with
    | nil => exact absurd rfl hn
    | cons a b => rfl
  by_cases k1 : k = 1
  · subst k1
    exact wpAny_binaryOp_repeat_ref (T := "tuple") (U := "int") (by decide) ⟨_, ho, rfl⟩ (fun s' => typeIs_int s' 1 t) noFill_tuple_mul F.fills_int_mul F.slot_int_rmul repeat_tuple F.slot_int_index.lookup
      (call_meets F.slot_int_rmul (typeIs_int s 1 t) F.entry_int_rmul (F.args_int_rmul_2 _ _) (int_rmul_tuple 1 t l its.toArray n dd sl)
        ⟨ho, rfl, ⟨_, ho, rfl⟩, call_meets F.slot_tuple_mul ⟨_, ho, rfl⟩ F.entry_tuple_mul (F.args_tuple_mul_2 _ _) (tuple_mul1 l its.toArray n dd sl t) ⟨ho, ⟨.ref l, H, I, rfl, q1 rfl⟩⟩⟩)
  · obtain rfl : k = 0 := by omega
    refine wpAny_binaryOp_repeat_ref (T := "tuple") (U := "int") (by decide) ⟨_, ho, rfl⟩ (fun s' => typeIs_int s' 0 t) noFill_tuple_mul F.fills_int_mul F.slot_int_rmul repeat_tuple F.slot_int_index.lookup
      (call_meets F.slot_int_rmul (typeIs_int s 0 t) F.entry_int_rmul (F.args_int_rmul_2 _ _) (int_rmul_tuple 0 t l its.toArray n dd sl)
        ⟨ho, rfl, ⟨_, ho, rfl⟩, call_meets F.slot_tuple_mul ⟨_, ho, rfl⟩ F.entry_tuple_mul (F.args_tuple_mul_2 _ _) (tuple_mul0 l its.toArray n dd sl t hi) ⟨ho, ?_⟩⟩)
    refine ⟨.ref s.heap.objs.size, _, I.laid (t' := s.toks) (o := .tup []) (fun b ob q => Heap.get?_push_of_some _ q) (Nat.le_refl _) ?_, rfl, q2 (by decide) _ (I.hok.fresh (Nat.le_refl _))⟩
    exact ⟨Nat.zero_le _, [], .nil, IsTup.new _ _⟩
end L2
namespace GXP
open PySem PySem.Spec PyProof.Rows L2
section
variable {J : It} {H0 : Hp} {xs : List V} {g : TG} {tt : TT} {te : TE} {vs : List Nat} {σ : L2.St} {cy : Cy} {Qe : List V → Hp → Prop} {H1 : Hp}
theorem gx_enum (w : EnumW J H0 xs) (Pv : Nat → List V → Hp → Prop) (h0 : Pv 0 [] H1) (hl : ∀ i ys H, i ≤ xs.length → Pv i ys H → EXT.Ext H0 H)
    (hs : ∀ i x T ys H, xs[i]? = some x → Pv i ys H → H T = none → g (.ref T) (wipe σ vs) (upd H T (.tup [V.int (i : Int), x])) fun σ2 H2 => wipe σ2 vs = wipe σ vs ∧ tt σ2 H2 fun b H3 => if b = true then te σ2 H3 fun y H4 => cy ys y H4 (Pv (i + 1)) else Pv (i + 1) ys H3)
    (hd : ∀ ys H, Pv xs.length ys H → Qe ys H) : ∃ W m, W 0 m [] H1 ∧ Turns J g tt te vs σ cy Qe W := by
  refine ⟨fun i m ys H => m = xs.length - i ∧ i ≤ xs.length ∧ Pv i ys H, xs.length, ⟨rfl, Nat.zero_le _, h0⟩, ?_⟩
  rintro i m ys H ⟨rfl, hi, p⟩
  have s := hl i ys H hi p
  by_cases hlt : i < xs.length
  · refine .inr ⟨w.go i H s hlt, by omega, Pv (i + 1), fun ys' H' p' => ⟨_, by omega, rfl, hlt, p'⟩, fun v H' y => ?_⟩
    obtain ⟨T, x, rfl, hT, rfl, hx⟩ := w.yld i H v H' s y
    exact hs i x T ys H hx p hT
  · have e : i = xs.length := by omega
    subst e
    exact .inl ⟨w.stop H s, hd ys H p⟩
end
end GXP
/-! ### a locked dict walked by its keys -/
namespace L2
open PySem PySem.Spec PyProof.Rows
section
variable {d : Addr} {o : Obj} {H0 : Hp}
theorem for_keysK {kvs : List (Key × V)} {g : TG} {tb : TS} {D : Ends} {σ0 : St} (Pv : Nat → St → Hp → Prop) (h0 : Pv 0 σ0 H0) (hl : ∀ i σ H, i ≤ kvs.length → Pv i σ H → H d = some (.frz o (.dK kvs)))
    (hs : ∀ i k v σ H, kvs[i]? = some (k, v) → Pv i σ H → g (kV k) σ H fun σ2 H2 => tb { D with nx := Pv (i + 1), ct := Pv (i + 1), bk := D.nx } σ2 H2) (hd : ∀ σ H, Pv kvs.length σ H → D.nx σ H) :
    ∃ W : Nat → Nat → St → Hp → Prop, (∃ m, W 0 m σ0 H0) ∧ ∀ i m σ H, W i m σ H →
      ((Itk d o kvs).stop i H ∧ D.nx σ H) ∨ ((Itk d o kvs).go i H ∧ ∃ N : St → Hp → Prop, (∀ σ' H', N σ' H' → ∃ m', m' < m ∧ W (i + 1) m' σ' H') ∧ ∀ x H', (Itk d o kvs).yld i H x H' → g x σ H' fun σ2 H2 => tb { D with nx := N, ct := N, bk := D.nx } σ2 H2) := by
  refine ⟨fun i m σ H => m = kvs.length - i ∧ i ≤ kvs.length ∧ Pv i σ H, ⟨_, rfl, Nat.zero_le _, h0⟩, ?_⟩
  rintro i m σ H ⟨rfl, hi, p⟩
  have q := hl i σ H hi p
  by_cases hlt : i < kvs.length
  · refine .inr ⟨⟨q, hlt⟩, Pv (i + 1), fun σ' H' p' => ⟨_, by omega, rfl, hlt, p'⟩, fun x H' y => ?_⟩
    obtain ⟨rfl, k, v, e, rfl⟩ := y
    exact hs i k v σ _ e p
  · have e : i = kvs.length := by omega
    subst e
    exact .inl ⟨⟨q, Nat.le_refl _⟩, hd σ H p⟩
theorem for_keysT {kvs : List (List Key × V)} {g : TG} {tb : TS} {D : Ends} {σ0 : St} (Pv : Nat → St → Hp → Prop) (h0 : Pv 0 σ0 H0) (hl : ∀ i σ H, i ≤ kvs.length → Pv i σ H → H d = some (.frz o (.dT kvs)))
    (hs : ∀ i k v q σ H, kvs[i]? = some (k, v) → H q = some (.tup (k.map kV)) → Pv i σ H → g (.ref q) σ H fun σ2 H2 => tb { D with nx := Pv (i + 1), ct := Pv (i + 1), bk := D.nx } σ2 H2) (hd : ∀ σ H, Pv kvs.length σ H → D.nx σ H) :
    ∃ W : Nat → Nat → St → Hp → Prop, (∃ m, W 0 m σ0 H0) ∧ ∀ i m σ H, W i m σ H →
      ((Itkt d o kvs).stop i H ∧ D.nx σ H) ∨ ((Itkt d o kvs).go i H ∧ ∃ N : St → Hp → Prop, (∀ σ' H', N σ' H' → ∃ m', m' < m ∧ W (i + 1) m' σ' H') ∧ ∀ x H', (Itkt d o kvs).yld i H x H' → g x σ H' fun σ2 H2 => tb { D with nx := N, ct := N, bk := D.nx } σ2 H2) := by
  refine ⟨fun i m σ H => m = kvs.length - i ∧ i ≤ kvs.length ∧ Pv i σ H, ⟨_, rfl, Nat.zero_le _, h0⟩, ?_⟩
  rintro i m σ H ⟨rfl, hi, p⟩
  have q := hl i σ H hi p
  by_cases hlt : i < kvs.length
  · refine .inr ⟨⟨q, hlt⟩, Pv (i + 1), fun σ' H' p' => ⟨_, by omega, rfl, hlt, p'⟩, fun x H' y => ?_⟩
    obtain ⟨rfl, k, v, q2, e, rfl, ht⟩ := y
    exact hs i k v q2 σ _ e ht p
  · have e : i = kvs.length := by omega
    subst e
    exact .inl ⟨⟨q, Nat.le_refl _⟩, hd σ H p⟩
theorem w_keysK {kvs : List (Key × V)} {B : V → Hp → (Hp → Prop) → Prop} {Nx : Hp → Prop} (Pv : Nat → Hp → Prop) (h0 : Pv 0 H0) (hl : ∀ i H, i ≤ kvs.length → Pv i H → H d = some (.frz o (.dK kvs)))
    (hs : ∀ i k v H, kvs[i]? = some (k, v) → Pv i H → B (kV k) H (Pv (i + 1))) (hd : ∀ H, Pv kvs.length H → Nx H) :
    ∃ W : Nat → Nat → Hp → Prop, (∃ m, W 0 m H0) ∧ ∀ i m H, W i m H → ((Itk d o kvs).stop i H ∧ Nx H) ∨ ((Itk d o kvs).go i H ∧ ∃ N : Hp → Prop, (∀ H', N H' → ∃ m', m' < m ∧ W (i + 1) m' H') ∧ ∀ x H', (Itk d o kvs).yld i H x H' → B x H' N) := by
  refine ⟨fun i m H => m = kvs.length - i ∧ i ≤ kvs.length ∧ Pv i H, ⟨_, rfl, Nat.zero_le _, h0⟩, ?_⟩
  rintro i m H ⟨rfl, hi, p⟩
  have q := hl i H hi p
  by_cases hlt : i < kvs.length
  · refine .inr ⟨⟨q, hlt⟩, Pv (i + 1), fun H' p' => ⟨_, by omega, rfl, hlt, p'⟩, fun x H' y => ?_⟩
    obtain ⟨rfl, k, v, e, rfl⟩ := y
    exact hs i k v _ e p
  · have e : i = kvs.length := by omega
    subst e
    exact .inl ⟨⟨q, Nat.le_refl _⟩, hd H p⟩
end
end L2
/-! ### a dict display with one tuple for its key -/
namespace L2
open PySem PySem.Spec PyProof.Rows
/-- {k: v}, k a tuple of ints and texts; the new dict stands empty while both are made -/
def tDispT (tk tv : TE) : TE := fun σ H Q => ∀ p, H p = none → tk σ (upd H p (.dT [])) fun x H1 => tv σ H1 fun y H2 => H2 p = some (.dT []) ∧ ∃ (b : Addr) (ks : List Key), x = .ref b ∧ H2 b = some (.tup (ks.map kV)) ∧ Q (.ref p) (upd H2 p (.dT [(ks, y)]))
theorem pe_dispT {X : Cx} {pos : Pos} {k v : Expr} {tk tv : TE} (hu : X.A.units + 1 < cLine) (hk : PE X k tk) (hv : PE X v tv) : PE X (.Dict [some k] [v] pos) (tDispT tk tv) := by
  refine ⟨fun pins s σ H Q I q => ?_⟩
  have hn := I.hok.fresh (Nat.le_refl s.heap.objs.size)
  have I1 := I.laid (a := s.heap.objs.size) (o := .dT []) (h' := s.heap.push { cls := .type "dict", data := .dict #[] }) (t' := s.toks) (fun _ _ q => Heap.get?_push_of_some _ q) (Nat.le_refl _) (dt_empty s.heap I.big)
  rw [arm_eval_Dict, zip_pairTrees [some k] [v] X.env pos rfl rfl, dictDisplay_pairs _ (by simp [pairTrees]) (by simp [pairTrees])]
  refine wpAny_bind (wpAny_standAt (wpAny_bind (wpAny_subDictH (knd := tupleKind (mixKind X.prog X.w)) (Q := fun d s' => wpAny (model X.prog X.w) X.A (pure (Value.ref d)) (EP X pins σ Q) X.xe s') (show X.A.units < cLine from Nat.lt_of_succ_lt hu) (by simp [pairTrees]) ?_)))
  refine pairTrees_cons_walk (thn (hk.run pins _ σ _ _ I1 (q _ hn)) fun u s1 ⟨x, H1, J1, rx, q1⟩ => thn (hv.run pins s1 σ H1 _ J1 q1) fun w2 s2 ⟨y, H2, I2, ry, e, b, ks, ex, eb, q2⟩ => pairTrees_nil_walk ?_)
  subst ex
  cases rx
  obtain ⟨z, hd, xs0, r0, dd⟩ := dt_of I2.hok e
  cases r0
  refine ⟨[(ks, b, w2)], ⟨rfl, rfl, key_of I2.hok eb, trivial⟩, dd, fun h' tk dd' hs => wpAny_pure ⟨.ref s.heap.objs.size, _, ?_, rfl, q2⟩⟩
  have dd' : h'.DictOfH (tupleKind (mixKind X.prog X.w)) s.heap.objs.size (storedH [] ks b w2) := dd'
  obtain ⟨q3, es, ep, hq, h2, h3, h4, _, h5⟩ := dd'
  have rel : KT H2 (putK [] ks y) (storedH [] ks b w2) := KT.put (.nil) ks eb ry
  refine d_write I2 (by rw [e]; exact True.intro) hs ⟨q3, hq⟩ ⟨by rw [sizeLine_eq]; simp, hd, _, rel.keeps fun c ys ec => ?_, q3, es, ep, hq, h2, h3, h4, h5⟩
  rw [upd_ne (ne_of ec e (fun z => nomatch z))]
  exact ec
end L2
/-! ### for k, v in d.items(), d a dict with tuples for its keys, made on the way (nobody else holds it) -/
namespace ITT
open PySem PySem.Spec PyProof.Rows L2 GXP L2.DX
/-- the pairs (key's own tuple, value), each a new tuple; the dict is locked -/
def ItiT (d : Addr) (o : Obj) (kvs : List (List Key × V)) : It :=
  ⟨fun i H => H d = some (.frz o (.dT kvs)) ∧ i < kvs.length,
   fun i H x H' => ∃ (T q : Addr) (k : List Key) (v : V), kvs[i]? = some (k, v) ∧ x = .ref T ∧ H T = none ∧ H q = some (.tup (k.map kV)) ∧ H' = upd H T (.tup [.ref q, v]),
   fun i H => H d = some (.frz o (.dT kvs)) ∧ kvs.length ≤ i⟩
theorem frzT_all {X : Cx} {pins : List (Addr × Obj)} {σ : L2.St} {H : Hp} {s : Shared} {d : Addr} {o : Obj} {kvs : List (List Key × V)} (I : Inv X pins σ H s) (h : H d = some (.frz o (.dT kvs))) :
    ∃ (es : Array DictEntry) (ep : Nat), o.data = .dict es ep ∧ s.heap.DictRaw d es ep ∧ es.size = kvs.length ∧
      ∀ (i : Nat) (k : List Key) (v : V), kvs[i]? = some (k, v) → ∃ (hi : i < es.size) (q : Addr), es[i].key = .ref q ∧ H q = some (.tup (k.map kV)) ∧ RelV v es[i].val := by
  obtain ⟨hd, z, hs, xs, pr, o', es, ep, ho, hx, hdt, he, _⟩ := I.hok d _ h
  have ho2 := hd.symm.trans ho
  obtain rfl : o = o' := Option.some.inj ho2
  have l1 : es.size = xs.length := size_of_entries he
  have l2 : kvs.length = xs.length := Paired.length pr
  refine ⟨es, ep, hdt, ⟨o, hd, hx, hdt⟩, l1.trans l2.symm, fun i k v e => ?_⟩
  obtain ⟨b, hb, e1, e2, e3⟩ := paired_get pr e
  have hi : i < es.size := by
    have := (List.getElem?_eq_some_iff.mp hb).1
    omega
  have q := entry_at he i
  rw [hb, Array.getElem?_eq_getElem hi, Option.map_some] at q
  have q := Option.some.inj q
  refine ⟨hi, b.2.1, by rw [q]; rfl, e2, ?_⟩
  rw [q]
  exact e3
theorem turn_itemsT {P : Program} {w : World} {K : PySem.W.Frag} {d : Addr} {o : Obj} {es : Array DictEntry} {ep : Nat} {kvs : List (List Key × V)} {elts : List Expr} {kk : Nat} {tpos : Pos} (it : Addr) (hod : o.data = .dict es ep) :
    Turn P w K (.Tuple elts kk tpos) (ItiT d o kvs) [it] it (fun i h => ∃ ok ov, IsItemIter h it d i kvs.length ep ok ov) := by
  refine ⟨List.mem_singleton.mpr rfl, fun i h st b hb => ?_, fun i h h' st k => ?_, fun X hP hw hK hc i pins s σ H E I hf st hg => ?_, fun X hP hw hK hc i pins s σ H E I hf st hg => ?_, fun A i s Q E st h => ?_⟩
  · obtain ⟨ok, ov, e⟩ := st
    rw [List.mem_singleton.mp hb]
    exact ⟨_, e, fun v z => nomatch z⟩
  · obtain ⟨ok, ov, e⟩ := st
    exact ⟨ok, ov, k it (List.mem_singleton.mpr rfl) _ e⟩
  · subst hP
    subst hw
    subst hK
    obtain ⟨hd, hi⟩ := hg
    obtain ⟨es', ep', hdt, hraw, hsz, ent⟩ := frzT_all I hd
    obtain ⟨rfl, rfl⟩ := dict_ep hod hdt
    obtain ⟨⟨k, v⟩, hkv⟩ : ∃ p, kvs[i]? = some p := ⟨_, List.getElem?_eq_getElem hi⟩
    obtain ⟨hi2, q, ekey, hq, ru⟩ := ent i k v hkv
    obtain ⟨ok, ov, he⟩ := st
    rw [← hsz] at he
    have hlt : it < s.heap.objs.size := Heap.lt_size he
    refine wpAny_pyNext_items_item_raw he hraw hi2 fun h' ho hT hz hk => ?_
    refine ⟨_, rfl, wpAny_letOwnedTupleGo_items (s := { s with heap := h' }) ho fun h'' he' sb => ?_⟩
    have hT2 : h''.get? s.heap.objs.size = some { cls := .type "tuple", data := .seq #[es'[i].key, es'[i].val] } := (sb.2 _ (Nat.ne_of_gt hlt)).trans hT
    have okT : ObjOk X.prog X.w (upd H s.heap.objs.size (.tup [.ref q, v])) h'' s.heap.objs.size (.tup [.ref q, v]) :=
      ⟨by rw [sizeLine_eq]; simp, [es'[i].key, es'[i].val], .cons ekey (.cons ru .nil), ⟨_, hT2, rfl, _, rfl⟩⟩
    have I1 : Inv X pins σ (upd H s.heap.objs.size (.tup [.ref q, v])) { s with heap := h'' } :=
      I.turnedNew (t' := s.toks) (ch := [it]) (fun b ob hb e => (sb.2 b (fun z => hb (List.mem_singleton.mpr z))).trans (hk b ob (fun z => hb (List.mem_singleton.mpr z)) e)) hf (Nat.le_refl _) okT
    refine ⟨.ref s.heap.objs.size, _, I1, rfl, ⟨_, q, k, v, hkv, rfl, I.hok.fresh (Nat.le_refl _), hq, rfl⟩, ⟨es'[i].key, es'[i].val, ?_⟩, fun b hb => ?_⟩
    · rw [← hsz]
      exact he'
    · rw [List.mem_singleton.mp hb, upd_ne (Nat.ne_of_lt hlt)]
      exact (hf it (List.mem_singleton.mpr rfl)).1
  · subst hP
    subst hw
    subst hK
    obtain ⟨hd, hi⟩ := hg
    obtain ⟨f0, f1, f2, f3, f4, f5⟩ := hf it (List.mem_singleton.mpr rfl)
    obtain ⟨es', ep', hdt, hraw, hsz, ent⟩ := frzT_all I hd
    obtain ⟨rfl, rfl⟩ := dict_ep hod hdt
    obtain ⟨ok, ov, he⟩ := st
    rw [← hsz] at he
    exact wpAny_pyNext_items_end_raw (I.ok.hd hc) he hraw (by omega) fun h' eb => ⟨rfl, I.turned (t' := s.toks) (fun b ob hb e => eb b ob hb e) f0 f1 f3 f4 f5⟩
  · obtain ⟨_, _, e⟩ := st
    exact PySem.W.kcp_self e h
/-- what a view shows, walked -/
def iView (tv : TE) : TI := fun σ H R => tv σ H fun x H1 => ∃ (p d : Addr) (kvs : List (List Key × V)), x = .ref p ∧ H1 p = some (itemsO p d) ∧ H1 d = some (.dT kvs) ∧ ∀ o, R (ItiT d o kvs) (upd H1 d (.frz o (.dT kvs)))
theorem pi_view {X : Cx} {e : Expr} {tv : TE} {elts : List Expr} {kk : Nat} {tpos : Pos} (he : PE X e tv) : PI X (.Tuple elts kk tpos) e (iView tv) := by
  refine ⟨fun pins s σ H R I h => ?_⟩
  refine thn (he.run pins s σ H _ I h) fun u s1 ⟨x, H1, I1, rx, p, d, kvs, ex, hp, hd, q⟩ => ?_
  subst ex
  obtain rfl : u = Value.ref p := rx
  have view : s1.heap.IsItemsView p d := (show ObjOk X.prog X.w H1 s1.heap p (itemsO p d) from I1.hok p _ hp).1
  obtain ⟨o, I2⟩ := I1.lock hd trivial
  have hd2 : upd H1 d (.frz o (.dT kvs)) d = some (.frz o (.dT kvs)) := upd_same
  obtain ⟨es, ep, hdt, hraw, hsz, ent⟩ := frzT_all I2 hd2
  refine wpAny_pyIter_items_raw view hraw (pi_one (tk := s1.toks) I2 _ (turn_itemsT _ hdt) ⟨.none, .none, ?_⟩ (q o))
  rw [← hsz]
  exact Heap.get?_push_size _ rfl
section
variable {d : Addr} {o : Obj} {H0 : Hp}
theorem for_itemsT {kvs : List (List Key × V)} {g : TG} {tb : TS} {D : Ends} {σ0 : L2.St} (Pv : Nat → L2.St → Hp → Prop) (h0 : Pv 0 σ0 H0) (hl : ∀ i σ H, i ≤ kvs.length → Pv i σ H → H d = some (.frz o (.dT kvs)))
    (hs : ∀ i k v q T σ H, kvs[i]? = some (k, v) → H q = some (.tup (k.map kV)) → H T = none → Pv i σ H → g (.ref T) σ (upd H T (.tup [.ref q, v])) fun σ2 H2 => tb { D with nx := Pv (i + 1), ct := Pv (i + 1), bk := D.nx } σ2 H2) (hd : ∀ σ H, Pv kvs.length σ H → D.nx σ H) :
    ∃ W : Nat → Nat → L2.St → Hp → Prop, (∃ m, W 0 m σ0 H0) ∧ ∀ i m σ H, W i m σ H →
      ((ItiT d o kvs).stop i H ∧ D.nx σ H) ∨ ((ItiT d o kvs).go i H ∧ ∃ N : L2.St → Hp → Prop, (∀ σ' H', N σ' H' → ∃ m', m' < m ∧ W (i + 1) m' σ' H') ∧ ∀ x H', (ItiT d o kvs).yld i H x H' → g x σ H' fun σ2 H2 => tb { D with nx := N, ct := N, bk := D.nx } σ2 H2) := by
  refine ⟨fun i m σ H => m = kvs.length - i ∧ i ≤ kvs.length ∧ Pv i σ H, ⟨_, rfl, Nat.zero_le _, h0⟩, ?_⟩
  rintro i m σ H ⟨rfl, hi, p⟩
  have q := hl i σ H hi p
  by_cases hlt : i < kvs.length
  · refine .inr ⟨⟨q, hlt⟩, Pv (i + 1), fun σ' H' p' => ⟨_, by omega, rfl, hlt, p'⟩, fun x H' y => ?_⟩
    obtain ⟨T, qa, k, v, h1, rfl, h2, h3, rfl⟩ := y
    exact hs i k v qa T σ H h1 h3 h2 p
  · obtain rfl : i = kvs.length := by omega
    exact .inl ⟨⟨q, Nat.le_refl _⟩, hd σ H p⟩
end
end ITT
/-! ### any of a tuple of ints -/
namespace L2
open PySem PySem.Spec PyProof.Rows
def rAnyI (K : PySem.W.Frag) : List V → Hp → VK → Prop := fun vs H Q => ∃ (a : Addr) (ns : List Int), vs = [V.ref a] ∧ SqT K H a (ns.map V.int) ∧ Q (.bl (ns.any fun n => decide (n ≠ 0))) H
theorem any_at (ns : List Int) : (List.range ns.length).any (fun i => decide ((ns[i]?).getD 0 ≠ 0)) = ns.any fun n => decide (n ≠ 0) := by
  have key : ∀ l : List Int, (List.range l.length).any (fun i => decide ((l[i]?).getD 0 ≠ 0)) = l.any fun n => decide (n ≠ 0) := fun l => by
    induction l with
    | nil => rfl
    | cons n l ih =>
      rw [List.length_cons, List.range_succ_eq_map, List.any_cons, List.any_map, List.any_cons, ← ih]
      congr 1
  exact key ns
theorem cr_anyI {X : Cx} (hc : X.calm = true) : CallR X (.builtin "any") (rAnyI X.K) := by
  intro pins s σ H xs us Q I hv h
  obtain ⟨a, ns, rfl, hq, q⟩ := h
  cases hv with
  | cons r t =>
    cases t
    cases r
    obtain ⟨its, rv, p, hz⟩ := I.tuple hq
    have p' : s.heap.IsTuple a its.toArray := p
    obtain ⟨o, ho, p2⟩ := id p'
    have hne : a ≠ s.heap.objs.size := Nat.ne_of_lt (Heap.lt_size ho)
    have hl := rv.length
    rw [List.length_map] at hl
    refine call_any_walk (wpAny_pyIter_tuple p' ⟨s.heap.objs.size, [s.heap.objs.size, a], [s.heap.objs.size], _, _, _, fun i => decide ((ns[i]?).getD 0 ≠ 0), rfl, Walks.tuple (A := X.A.in1) (I.ok.hd hc) _ a hne its.toArray, ⟨⟨_, Heap.get?_push_size _ rfl, rfl, rfl⟩, ⟨o, Heap.get?_push_of_some _ ho, p2⟩⟩, fun i v s' Q' E' hi hq' => ?_, fun h' tk hk => ?_⟩)
    · obtain ⟨t, rfl⟩ := vals_ints_at rv (by simpa using hi)
      have e : ∀ z : Int, (z != 0) = decide (z ≠ 0) := fun z => by by_cases h : z = 0 <;> simp [h]
      refine PySem.P.truthy_int ?_
      rw [e]
      exact hq'
    · refine ⟨.bl _, H, I.kept fun b o eo => hk b o (fun hmem => ?_) (Heap.get?_push_of_some _ eo), ?_, q⟩
      · rw [List.mem_singleton.mp hmem] at eo
        exact absurd (Heap.lt_size eo) (Nat.lt_irrefl _)
      · show Value.bool _ = Value.bool _
        rw [← any_at, List.size_toArray, ← hl]
end L2
/-! ### defs that raise with no context, and a def called within an except suite -/
namespace HTN
open PySem PySem.Spec PyProof.Rows L2 EXT
theorem takes0N {X : Cx} : L2N.Takes X (fun _ _ _ _ => False) := fun _ _ x => by
  obtain ⟨_, _, _, _, _, _, _, _, _, _, _, _, _, _, _, _, z⟩ := x
  exact z.elim
theorem passes_noN {X : Cx} : Passes (L2N.CX X.prog X.w) X (fun _ _ _ => False) := fun pins σ H s e s' I h => by
  obtain ⟨a, B, H', cls, d, _, _, _, _, _, _, _, h⟩ := h
  exact h.elim
section
variable {P : Program} {w : World} {K : PySem.W.Frag} {mg : Str → Option Value} {base : Heap}
theorem _root_.L2.Fun.okN {x qual : Str} {st : Stmt} {f : Addr} {fd : FuncData} {N ps : List Str} {k : Nat} {sp : Sp} (F : Fun K x qual st f fd) (S : FnScope N ps (defScope st)) (len : ∀ vs H Q E, sp vs H Q E → vs.length = ps.length)
    (hbody : ∀ (cdv : Value) (A : Around) (outer : List Env) (s : Shared) (H : Hp) (vs : List V) (Q : VK) (E : XK), Room k (A.deeper (envOfC qual (defScope st) s.heap.objs.size f cdv)) → sp vs H Q E →
      ∃ t, PSs (cxOf (L2N.CX P w) P w K mg base N qual (defScope st) f cdv A outer s H E) (defBody st) t ∧ t { nx := fun _ H' => Q .non H', rt := Q } (L2.start N vs) H) : FnOk P w K mg base (L2N.CX P w) (k + 1) f fd ps sp := by
  obtain ⟨oc, od, kV, doc, pm, an, cdv, ct, osl, e, lk, hcd⟩ := F.ex
  subst e
  exact fn_of lk hcd S len fun A outer s H vs Q E hr hsp => hbody cdv A outer s H vs Q E hr hsp
/-- a def of this kind where an exception is being handled -/
theorem _root_.L2.Fun.okH {x qual : Str} {st : Stmt} {f : Addr} {fd : FuncData} {N ps : List Str} {k : Nat} {sp : Sp} (F : Fun K x qual st f fd) (S : FnScope N ps (defScope st)) (len : ∀ vs H Q E, sp vs H Q E → vs.length = ps.length)
    (hbody : ∀ (cdv : Value) (A : Around) (outer : List Env) (s : Shared) (H : Hp) (vs : List V) (Q : VK) (E : XK) (p : Addr × Obj), sp vs H Q E →
      ∃ t, PSs (L2H.cxH (L2N.CX P w) P w K mg base N qual (defScope st) f cdv A outer s H E p) (defBody st) t ∧ t { nx := fun _ H' => Q .non H', rt := Q } (L2.start N vs) H) : L2H.FnH P w K mg base (L2N.CX P w) (k + 1) f fd ps sp := by
  obtain ⟨oc, od, kV, doc, pm, an, cdv, ct, osl, e, lk, hcd⟩ := F.ex
  subst e
  exact L2H.fn_ofH lk hcd S len fun A outer s H vs Q E p _ _ hsp => hbody cdv A outer s H vs Q E p hsp
end
theorem passesAt0 {X : Cx} {σ : L2.St} : PassesAt (L2N.CX X.prog X.w) X σ (fun _ _ _ => False) := fun pins H s e s' I h => by
  obtain ⟨a, B, H', cls, d, _, _, _, _, _, _, _, h⟩ := h
  exact h.elim
theorem roomS {k : Nat} {X : Cx} {a : Addr} {pn : List (Addr × Obj)} (h : Room k X.A) : L2H.RoomH k (X.suite a pn).A := ⟨h.dp, h.un⟩
theorem hotS {X : Cx} {a : Addr} {oe : Obj} {pn : List (Addr × Obj)} {cls : Value} {d : Option Addr} (hz : L2N.Zn cls d oe) (hf : ∃ vs, oe.data = .fields vs) : L2H.HotC (X.suite a ((a, oe) :: pn)) := by
  obtain ⟨vs, e⟩ := hf
  exact ⟨(a, oe), ⟨rfl, vs, e, hz.2.2 vs e⟩, List.mem_cons_self⟩
end HTN
/-! ### set(t) of a tuple of ints -/
namespace L2
open PySem PySem.Spec PyProof.Rows
def rSetI (K : PySem.W.Frag) (w : World) : List V → Hp → VK → Prop := fun xs H Q => ∃ (p : Addr) (ns : List Int), xs = [V.ref p] ∧ SqT K H p (ns.map V.int) ∧ ns.length ≤ 1000 ∧ ∀ (a : Addr) (c : Nat), H a = none → c ≤ ns.length → Q (.ref a) (upd H a (SetO w a (fun j => decide (j ∈ ns)) c))
theorem cr_setI {X : Cx} (hc : X.calm = true) : CallR X (.type "set") (rSetI X.K X.w) := by
  intro pins s σ H xs us Q I r h
  obtain ⟨p0, ns, rfl, hq, hl, q⟩ := h
  cases r with
  | cons r rr =>
    cases rr
    cases r
    obtain ⟨its, rv, pt, hz⟩ := I.tuple hq
    have hi : IntsAre its.toArray.toList ns := ints_of_vals rv
    refine call_set_tupI ns (I.ok.hd hc) (show s.heap.IsTuple p0 its.toArray from pt) hi (by unfold scanBound; omega) fun h' tk c R1 hcn k => ?_
    have hn : H s.heap.objs.size = none := I.hok.fresh (Nat.le_refl _)
    exact ⟨.ref s.heap.objs.size, upd H s.heap.objs.size (SetO X.w s.heap.objs.size (fun j => decide (j ∈ ns)) c), I.laid (t' := tk) k (Nat.le_refl _) (setO_new R1), rfl, q _ c hn hcn⟩
end L2
/-! ### zip(t, l) of a tuple and a list of one length -/
namespace ZPM
open PySem PySem.Spec PyProof.Rows L2 EXT
def ItzM (K : PySem.W.Frag) (a b : Addr) (n : Nat) : It :=
  ⟨fun i H => ∃ xs ys, SqT K H a xs ∧ SqL K H b ys ∧ xs.length = n ∧ ys.length = n ∧ i < n,
   fun i H v H' => ∃ (T : Addr) (x y : V), v = .ref T ∧ H T = none ∧ H' = upd H T (.tup [x, y]) ∧ (∀ xs, SqT K H a xs → xs[i]? = some x) ∧ ∀ ys, SqL K H b ys → ys[i]? = some y,
   fun i H => ∃ xs ys, SqT K H a xs ∧ SqL K H b ys ∧ xs.length = n ∧ ys.length = n ∧ n ≤ i⟩
theorem sep {N a b : Nat} (la : a < N) (lb : b < N) : ZipSep2 (N + 4) (N + 2) (N + 3) N (N + 1) [N, a] [N + 1, b] := by
  have m2 : ∀ {c x y : Nat}, c ≠ x → c ≠ y → c ∉ [x, y] := fun h1 h2 m => by
    simp only [List.mem_cons, List.not_mem_nil, or_false] at m
    exact m.elim h1 h2
  exact ⟨show N + 2 ≠ N + 4 by omega, show N + 3 ≠ N + 4 by omega, show N + 2 ≠ N + 3 by omega, show N + 2 ≠ N by omega, List.mem_cons_self, m2 (show N + 4 ≠ N by omega) (show N + 4 ≠ a by omega), m2 (show N + 3 ≠ N by omega) (show N + 3 ≠ a by omega), show N + 2 ≠ N + 1 by omega, List.mem_cons_self, m2 (show N + 4 ≠ N + 1 by omega) (show N + 4 ≠ b by omega), m2 (show N + 3 ≠ N + 1 by omega) (show N + 3 ≠ b by omega), m2 (show N ≠ N + 1 by omega) (show N ≠ b by omega), m2 (show N + 1 ≠ N by omega) (show N + 1 ≠ a by omega)⟩
theorem mem5 {N c : Nat} (m : c ∈ [N + 4, N + 3, N, N + 1]) : c ∈ [N + 4, N + 2, N + 3, N, N + 1] := by
  simp only [List.mem_cons, List.not_mem_nil, or_false] at m ⊢
  omega
theorem lt5 {N c M : Nat} (h : N + 4 < M) (m : c ∈ [N + 4, N + 2, N + 3, N, N + 1]) : c < M := by
  simp only [List.mem_cons, List.not_mem_nil, or_false] at m
  omega
theorem ge5 {N c : Nat} (m : c ∈ [N + 4, N + 2, N + 3, N, N + 1]) : N ≤ c := by
  simp only [List.mem_cons, List.not_mem_nil, or_false] at m
  omega
theorem turn_zipM {P : Program} {w : World} {K : PySem.W.Frag} {elts : List Expr} {kk : Nat} {tpos : Pos} {a b N : Nat} {n : Nat} (la : a < N) (lb : b < N) :
    Turn P w K (.Tuple elts kk tpos) (ItzM K a b n) [N + 4, N + 2, N + 3, N, N + 1] (N + 4) fun i h => IsZip h (N + 4) (N + 2) (N + 3) .none ∧ IsTupOf2 h (N + 2) (.ref N) (.ref (N + 1)) ∧ (∃ a1 a2, IsTupOf2 h (N + 3) a1 a2) ∧ h.IsTupleIter N a i ∧ h.IsListIter (N + 1) b i ∧ i ≤ n := by
  refine ⟨List.mem_cons_self, fun i h tn c hc => ?_, fun i h h' tn hk => ?_, fun X hP hw hK hcalm i pins s σ H E I hfp tn go => ?_, fun X hP hw hK hcalm i pins s σ H E I hfp tn st => ?_, fun A i s Q E tn q => ?_⟩
  · obtain ⟨hz, hTI, ⟨x, y, hTO⟩, ⟨o1, e1, _, d1⟩, ⟨o2, e2, _, d2⟩, _⟩ := tn
    simp only [List.mem_cons, List.not_mem_nil, or_false] at hc
    rcases hc with q | q | q | q | q
    · rw [q]; exact ⟨_, hz, fun v q => nomatch q⟩
    · rw [q]; exact ⟨_, hTI, fun v q => nomatch q⟩
    · rw [q]; exact ⟨_, hTO, fun v q => nomatch q⟩
    · rw [q]; exact ⟨o1, e1, fun v q => by rw [d1] at q; cases q⟩
    · rw [q]; exact ⟨o2, e2, fun v q => by rw [d2] at q; cases q⟩
  · obtain ⟨hz, hTI, ⟨x, y, hTO⟩, h1, h2, hn⟩ := tn
    exact ⟨hk _ (by simp) _ hz, hk _ (by simp) _ hTI, ⟨x, y, hk _ (by simp) _ hTO⟩, h1.at fun o q => hk N (by simp) o q, h2.at fun o q => hk (N + 1) (by simp) o q, hn⟩
  · subst hP
    subst hw
    subst hK
    obtain ⟨xs, ys, hqx, hqy, lx, ly, hin⟩ := go
    obtain ⟨its, rv, p1, _⟩ := I.tuple hqx
    obtain ⟨its2, rv2, p2, _⟩ := I.list hqy
    have p1' : s.heap.IsTuple a its.toArray := p1
    have p2' : s.heap.IsList b its2.toArray := p2.isList
    obtain ⟨hz, hTI, hTO, h1, h2, hn⟩ := tn
    have l1 := rv.length
    have l2 := rv2.length
    have W := WalksT.zipD2 (prog := X.prog) (w := X.w) (A := X.A) (sep la lb) (Draws.tuple (A := X.A.in1) (I.ok.hd hcalm) N a (Nat.ne_of_lt la) its.toArray) (Draws.list (A := X.A.in1) (I.ok.hd hcalm) (N + 1) b (Nat.ne_of_lt (Nat.lt_succ_of_lt lb)) its2.toArray)
    refine W.item i s _ E (by rw [List.size_toArray, List.size_toArray]; omega) ⟨hz, hTI, hTO, ⟨h1, p1'⟩, h2, p2'⟩ (fun T vals h' tk hv hT hTup hmid hk => ⟨_, rfl, ?_⟩)
    obtain ⟨u1, u2, hu1, hu2, rfl⟩ := hv
    have hTw := W.apart _ _ _ hmid
    refine W.go elts kk tpos i T { s with heap := h', toks := tk } _ E hmid (fun h2' hst hk2 => ?_)
    obtain ⟨hz2, hTI2, hTO2, ⟨h12, _⟩, h22, _⟩ := hst
    obtain ⟨x1, hx1, hr1⟩ := vals_get rv (by simpa using hu1)
    obtain ⟨x2, hx2, hr2⟩ := vals_get rv2 (by simpa using hu2)
    obtain ⟨oT, hoT, hcT, nT, hdT⟩ := hTup
    have keep : ∀ c o, c ∉ [N + 4, N + 2, N + 3, N, N + 1] → s.heap.get? c = some o → h2'.get? c = some o := fun c o hc e => hk2 c o (fun m => hc (mem5 m)) (hk c o (fun m => hc (mem5 m)) e)
    have hn0 : ∀ c ∈ [N + 4, N + 2, N + 3, N, N + 1], c ≠ T := fun c hc z => by
      refine absurd hT (Nat.not_le_of_lt ?_)
      rw [← z]
      exact lt5 (Heap.lt_size hz) hc
    refine ⟨.ref T, upd H T (.tup [x1, x2]), I.turnedNew (ch := [N + 4, N + 2, N + 3, N, N + 1]) keep hfp hT
      (show ObjOk X.prog X.w _ _ _ (.tup [x1, x2]) from ⟨by rw [sizeLine_eq]; simp, [u1, u2], .cons hr1 (.cons hr2 .nil), oT, hk2 _ _ hTw hoT, hcT, nT, hdT⟩), rfl, ⟨T, x1, x2, rfl, I.hok.fresh hT, rfl, fun zs hzs => by rw [I.tuple_inj hzs hqx]; exact hx1, fun zs hzs => by rw [I.list_inj hzs hqy]; exact hx2⟩, ⟨hz2, hTI2, hTO2, h12, h22, by omega⟩, fun c hc => ?_⟩
    rw [upd_ne (hn0 c hc)]
    exact (hfp c hc).1
  · subst hP
    subst hw
    subst hK
    obtain ⟨xs, ys, hqx, hqy, lx, ly, hle⟩ := st
    obtain ⟨its, rv, p1, _⟩ := I.tuple hqx
    obtain ⟨its2, rv2, p2, _⟩ := I.list hqy
    have p1' : s.heap.IsTuple a its.toArray := p1
    have p2' : s.heap.IsList b its2.toArray := p2.isList
    obtain ⟨hz, hTI, hTO, h1, h2, hn⟩ := tn
    have l1 := rv.length
    have l2 := rv2.length
    have W := WalksT.zipD2 (prog := X.prog) (w := X.w) (A := X.A) (sep la lb) (Draws.tuple (A := X.A.in1) (I.ok.hd hcalm) N a (Nat.ne_of_lt la) its.toArray) (Draws.list (A := X.A.in1) (I.ok.hd hcalm) (N + 1) b (Nat.ne_of_lt (Nat.lt_succ_of_lt lb)) its2.toArray)
    have ei : i = min its.toArray.size its2.toArray.size := by rw [List.size_toArray, List.size_toArray]; omega
    refine W.done s _ E ⟨hz, hTI, hTO, ⟨by rw [← ei]; exact h1, p1'⟩, by rw [← ei]; exact h2, p2'⟩ (fun h' tk hk => ⟨rfl, I.turnedL (ch := [N + 4, N + 2, N + 3, N, N + 1]) (fun c o hc e => hk c o (fun m => hc (mem5 m)) e) hfp⟩)
  · exact wpAny_pyIter_zip tn.1 q
def iZipM (K : PySem.W.Frag) (ta : TA) : TI := fun σ H R => ta σ H fun vs H1 => ∃ a b xs ys, vs = [.ref a, .ref b] ∧ SqT K H1 a xs ∧ SqL K H1 b ys ∧ xs.length = ys.length ∧ R (ItzM K a b ys.length) H1
theorem pi_zipM {X : Cx} {e e2 : Expr} {ta : TA} {p pos tpos : Pos} {elts : List Expr} {kk : Nat} (hg : Gl X "zip") (hm : X.mg "zip" = none) (ha : PA X [e, e2] ta)
    (hs : starEach [e, e2] X.env = (false, eval e X.env) :: starEach [e2] X.env := by rfl) (hpl : (backTo pos (starEach [e2] X.env)).any (·.1) = false := by rfl) :
    PI X (.Tuple elts kk tpos) (.Call (.Name "zip" p) [e, e2] [] pos) (iZipM X.K ta) := by
  refine ⟨fun pins s σ H R I h => ?_⟩
  refine Call_ (ld_blt I hg hm PyProof.Rows.boot_zip (PyProof.Rows.callWith_type1 (thn (ha.run pos pins s σ H _ I h) fun us s1 ⟨vs, H1, I1, r1, a, b, xs, ys, ex, hqx, hqy, hl, q⟩ => ?_) hs hpl))
  subst ex
  cases r1 with
  | cons r rr =>
    cases rr with
    | cons r' rr =>
      cases rr
      cases r
      cases r'
      obtain ⟨its, rv, p1, _⟩ := I1.tuple hqx
      obtain ⟨its2, rv2, p2, _⟩ := I1.list hqy
      have p1' : s1.heap.IsTuple a its.toArray := p1
      obtain ⟨o1, ho1, _⟩ := id p1'
      refine zip_begins2 (begins_tuple a its.toArray) (begins_list b its2.toArray) p1' p2.isList fun h' hz hTI hTO h1 h2 hsz hk => wpAny_pyIter_zip hz ?_
      have I2 : Inv X pins σ H1 { s1 with heap := h' } := I1.kept (t' := s1.toks) hk
      refine ⟨_, _, _, _, H1, rfl, I2, turn_zipM (Heap.lt_size ho1) p2.lt, ⟨hz, hTI, ⟨_, _, hTO⟩, ⟨_, h1, rfl, rfl⟩, ⟨_, h2, rfl, rfl⟩, Nat.zero_le _⟩, fun c hcm => ?_, q⟩
      have hle : s1.heap.objs.size ≤ c := ge5 hcm
      exact I1.fpOk hle (I1.hok.fresh hle)
section
variable {K : PySem.W.Frag} {a b : Addr} {xs ys : List V} {g : TG} {tt : TT} {te : TE} {vs : List Nat} {σ : L2.St} {H1 : Hp} {D : Addr} {Qd : Hp → Prop}
/-- a list comprehension over such a zip -/
theorem lc_zipM (hn : xs.length = ys.length) (Pv : Nat → Hp → Prop) (h0 : Pv 0 (upd H1 D (.lst []))) (hl : ∀ i H, Pv i H → SqT K H a xs ∧ SqL K H b ys)
    (hs : ∀ i x y T H, xs[i]? = some x → ys[i]? = some y → Pv i H → H T = none → g (.ref T) (wipe σ vs) (upd H T (.tup [x, y])) fun σ2 H2 => wipe σ2 vs = wipe σ vs ∧ tt σ2 H2 fun b H3 =>
      if b = true then te σ2 H3 fun y H4 => ∃ acc, H4 D = some (.lst acc) ∧ acc.length < sizeLine ∧ Pv (i + 1) (upd H4 D (.lst (acc ++ [y]))) else Pv (i + 1) H3) (hd : ∀ H, Pv ys.length H → Qd H) :
    ∃ W : Nat → Nat → Hp → Prop, (∃ m, W 0 m (upd H1 D (.lst []))) ∧ ∀ i m H, W i m H →
      ((ItzM K a b ys.length).stop i H ∧ Qd H) ∨ ((ItzM K a b ys.length).go i H ∧ ∃ Nx : Hp → Prop, (∀ H', Nx H' → ∃ m', m' < m ∧ W (i + 1) m' H') ∧ ∀ x H', (ItzM K a b ys.length).yld i H x H' → g x (wipe σ vs) H' fun σ2 H2 => wipe σ2 vs = wipe σ vs ∧ tt σ2 H2 fun b H3 =>
        if b = true then te σ2 H3 fun y H4 => ∃ acc, H4 D = some (.lst acc) ∧ acc.length < sizeLine ∧ Nx (upd H4 D (.lst (acc ++ [y]))) else Nx H3) := by
  refine ⟨fun i m H => m = ys.length - i ∧ i ≤ ys.length ∧ Pv i H, ⟨ys.length, rfl, Nat.zero_le _, h0⟩, ?_⟩
  rintro i m H ⟨rfl, hi, p⟩
  obtain ⟨qx, qy⟩ := hl i H p
  by_cases hlt : i < ys.length
  · refine .inr ⟨⟨xs, ys, qx, qy, hn, rfl, hlt⟩, Pv (i + 1), fun H' p' => ⟨_, by omega, rfl, hlt, p'⟩, fun v H' y => ?_⟩
    obtain ⟨T, x', y', rfl, hT, rfl, f1, f2⟩ := y
    exact hs i x' y' T H (f1 xs qx) (f2 ys qy) p hT
  · obtain rfl : i = ys.length := by omega
    exact .inl ⟨⟨xs, ys, qx, qy, hn, rfl, Nat.le_refl _⟩, hd H p⟩
/-- .. over a zip of two lists -/
theorem lc_zipL (hn : xs.length = ys.length) (Pv : Nat → Hp → Prop) (h0 : Pv 0 (upd H1 D (.lst []))) (hl : ∀ i H, Pv i H → SqL K H a xs ∧ SqL K H b ys)
    (hs : ∀ i x y T H, xs[i]? = some x → ys[i]? = some y → Pv i H → H T = none → g (.ref T) (wipe σ vs) (upd H T (.tup [x, y])) fun σ2 H2 => wipe σ2 vs = wipe σ vs ∧ tt σ2 H2 fun b H3 =>
      if b = true then te σ2 H3 fun y H4 => ∃ acc, H4 D = some (.lst acc) ∧ acc.length < sizeLine ∧ Pv (i + 1) (upd H4 D (.lst (acc ++ [y]))) else Pv (i + 1) H3) (hd : ∀ H, Pv ys.length H → Qd H) :
    ∃ W : Nat → Nat → Hp → Prop, (∃ m, W 0 m (upd H1 D (.lst []))) ∧ ∀ i m H, W i m H →
      ((Itz K a b).stop i H ∧ Qd H) ∨ ((Itz K a b).go i H ∧ ∃ Nx : Hp → Prop, (∀ H', Nx H' → ∃ m', m' < m ∧ W (i + 1) m' H') ∧ ∀ x H', (Itz K a b).yld i H x H' → g x (wipe σ vs) H' fun σ2 H2 => wipe σ2 vs = wipe σ vs ∧ tt σ2 H2 fun b H3 =>
        if b = true then te σ2 H3 fun y H4 => ∃ acc, H4 D = some (.lst acc) ∧ acc.length < sizeLine ∧ Nx (upd H4 D (.lst (acc ++ [y]))) else Nx H3) := by
  refine ⟨fun i m H => m = ys.length - i ∧ i ≤ ys.length ∧ Pv i H, ⟨ys.length, rfl, Nat.zero_le _, h0⟩, ?_⟩
  rintro i m H ⟨rfl, hi, p⟩
  obtain ⟨qx, qy⟩ := hl i H p
  by_cases hlt : i < ys.length
  · have hlx : i < xs.length := by omega
    refine .inr ⟨⟨xs, ys, _, _, qx, qy, List.getElem?_eq_getElem hlx, List.getElem?_eq_getElem hlt⟩, Pv (i + 1), fun H' p' => ⟨_, by omega, rfl, hlt, p'⟩, fun v H' y => ?_⟩
    obtain ⟨T, x', y', rfl, hT, rfl, f1, f2⟩ := y
    exact hs i x' y' T H (f1 xs qx) (f2 ys qy) p hT
  · obtain rfl : i = ys.length := by omega
    exact .inl ⟨⟨xs, ys, qx, qy, Or.inr (Nat.le_refl _)⟩, hd H p⟩
end
end ZPM
/-! sum over a generator expression, ints of any size -/
namespace GXP
open PySem PySem.Spec PyProof.Rows L2
def cySW : Cy := fun ys y H Nx => ∃ z, y = .int z ∧ Nx (ys ++ [y]) H
section
variable {X : Cx} {pins : List (Addr × Obj)} {σ : L2.St} {sg : Shared} {Hg : Hp} {fp : List Addr} {a g S : Addr} {go : Obj} {A A1 : Around} {ce : Env} {Qe : List V → Hp → Prop} {Qf : Hp → Prop} {R : Result → Shared → Prop}
theorem gx_sumW (M : GMk X pins σ sg Hg fp a g go) (hh : A.handled = none) (hd : A.depth < recursionLimit) (hSa : a ∉ [S]) (hSc : cStatics ∉ [S])
    (fin : ∀ (s' : Shared) (ys : List V) (H : Hp) (t : Tok), Inv X pins σ H s' → H S = none → Qe ys H → R (.ok (.ret (.int (sumV ys) t))) s') :
    ∀ (n : Nat) (ys : List V) (s : Shared) (stage : Int), (stage = 0 ∨ stage = 2) → GRun (gcx X A1 sg Hg ce fp) [S] (LkS S) cySW Qe a g go A.in1.in1 n ys s → LkS S ys s.heap → AllBare s.gens → codeAny (model X.prog X.w) A (.builtin "sum.loop" ⟨[.ref a, .ref S, rawInt stage, rawInt 0], []⟩) R s := by
  have E0 := F.entry_sum_loop
  have cwt : ∀ {ys : List V} {s : Shared}, LkS S ys s.heap → ∀ b ∈ [S], ∃ o, s.heap.get? b = some o ∧ ∀ v, o.data ≠ .cell v := fun {ys s} lk b hb => by
    obtain ⟨t, c, e⟩ := lk
    rw [List.mem_singleton.mp hb]
    exact ⟨_, e, fun v z => by cases z⟩
  have turn : ∀ (n : Nat) (ys : List V) (s : Shared) (stage : Int), (stage = 0 ∨ stage = 2) → GRun (gcx X A1 sg Hg ce fp) [S] (LkS S) cySW Qe a g go A.in1.in1 n ys s → LkS S ys s.heap → AllBare s.gens →
      (∀ ys2 s2 st2, (st2 = 0 ∨ st2 = 2) → (∃ n', n = n' + 1 ∧ GRun (gcx X A1 sg Hg ce fp) [S] (LkS S) cySW Qe a g go A.in1.in1 n' ys2 s2) → LkS S ys2 s2.heap → AllBare s2.gens → codeAny (model X.prog X.w) A (.builtin "sum.loop" ⟨[.ref a, .ref S, rawInt st2, rawInt 0], []⟩) R s2) →
      codeAny (model X.prog X.w) A (.builtin "sum.loop" ⟨[.ref a, .ref S, rawInt stage, rawInt 0], []⟩) R s := by
    intro n ys s stage hstage G lk hb next
    obtain ⟨t, c, eS⟩ := id lk
    refine codeAny_builtin E0 ?_
    rw [Around.under_plainId F.plain_sum_loop]
    show wpAny _ A.in1 (seqItems? (.ref S) >>= _) _ _ s
    refine wpAny_bind (wpAny_seqItems eS rfl ?_)
    show wpAny _ A.in1 (tryCatch (pyNext (.ref a)) _ >>= _) _ _ s
    refine wpAny_bind (wpAny_tryCatch (thnF (gx_next M (lnkS S) hSa hSc (A := A.in1) hh hd G hb (cwt lk) lk) fun r s1 ⟨kc, hN⟩ => ?_))
    have eS1 := kc S (List.mem_singleton.mpr rfl) _ eS
    cases r with
    | none =>
      obtain ⟨ys1, H1, I1, n1, ⟨t1, c1, e1⟩, q1⟩ := hN
      have hd1 := congrArg Obj.data (Option.some.inj (eS1.symm.trans e1))
      simp only [Data.seq.injEq, Array.mk.injEq, List.cons.injEq, Value.int.injEq, and_true] at hd1
      rw [hd1.1.1]
      exact wpAny_pure (fin s1 ys1 H1 _ I1 (n1 S (List.mem_singleton.mpr rfl)) q1)
    | some v =>
      obtain ⟨ys1, y, H1, Nx, I1, ry, n1, ⟨t1, c1, e1⟩, ⟨z, rfl, hN1⟩, wake⟩ := hN
      obtain ⟨tz, rfl⟩ := ry
      have hd1 := congrArg Obj.data (Option.some.inj (eS1.symm.trans e1))
      simp only [Data.seq.injEq, Array.mk.injEq, List.cons.injEq, Value.int.injEq, and_true] at hd1
      rw [hd1.1.1]
      rcases hstage with rfl | rfl
      · show wpAny _ A.in1 (if (_ : Bool) = true then (mkInt (sumV ys1 + z) >>= _) else _) _ _ _
        split
        · refine wpAny_bind (wpAny_mkInt ?_)
          show wpAny _ A.in1 (updateSeq S (fun _ => #[.int (sumV ys1 + z) s1.toks]) >>= _) _ _ _
          have o1 := Heap.get?_update_self (Obj.mapSeq (fun _ => #[Value.int (sumV ys1 + z) s1.toks])) e1 rfl
          have lk2 : LkS S (ys1 ++ [.int z]) (s1.heap.update S (Obj.mapSeq (fun _ => #[Value.int (sumV ys1 + z) s1.toks]))) := ⟨s1.toks, _, by rw [sumV_snoc]; exact o1⟩
          refine wpAny_bind (wpAny_updateSeq e1 rfl (wpAny_pure ⟨plainId_quiet F.plain_sum_loop _, ?_⟩))
          refine next (ys1 ++ [.int z]) _ 0 (.inl rfl) (wake _ hN1 { s1 with heap := s1.heap.update S (Obj.mapSeq (fun _ => #[Value.int (sumV ys1 + z) s1.toks])), toks := s1.toks + 1 } ⟨rfl, I1.bare, fun b o hb e => (Heap.get?_update_other _ _ (fun q => hb (List.mem_singleton.mpr q.symm))).trans e, cwt lk2⟩ lk2 rfl) lk2 I1.bare
        · refine wpAny_bind (wpAny_rule ?_)
          refine wpAny_bind (wpAny_attempt (wpAny_holding (PySem.P.add_int ?_)))
          show wpAny _ A.in1 (updateSeq S (fun _ => #[.int (sumV ys1 + z) s1.toks]) >>= _) _ _ _
          refine wpAny_bind ?_
          refine wpAny_updateSeq e1 rfl ?_
          have o1 := Heap.get?_update_self (Obj.mapSeq (fun _ => #[Value.int (sumV ys1 + z) s1.toks])) e1 rfl
          refine wpAny_bind (wpAny_letGo ?_)
          refine wpAny_bind ?_
          refine wpAny_updateSeq o1 rfl (wpAny_pure ⟨plainId_quiet F.plain_sum_loop _, ?_⟩)
          have o2 := Heap.get?_update_self (Obj.mapSeq (fun _ => #[Value.int (sumV ys1 + z) s1.toks])) o1 rfl
          have lk2 : LkS S (ys1 ++ [.int z]) ((s1.heap.update S (Obj.mapSeq (fun _ => #[Value.int (sumV ys1 + z) s1.toks]))).update S (Obj.mapSeq (fun _ => #[Value.int (sumV ys1 + z) s1.toks]))) := ⟨s1.toks, _, by rw [sumV_snoc]; exact o2⟩
          exact next (ys1 ++ [.int z]) _ 2 (.inr rfl) (wake _ hN1 { s1 with heap := (s1.heap.update S (Obj.mapSeq (fun _ => #[Value.int (sumV ys1 + z) s1.toks]))).update S (Obj.mapSeq (fun _ => #[Value.int (sumV ys1 + z) s1.toks])), toks := s1.toks + 1 } ⟨rfl, I1.bare, fun b o hb e => (Heap.get?_update_other _ _ (fun q => hb (List.mem_singleton.mpr q.symm))).trans ((Heap.get?_update_other _ _ (fun q => hb (List.mem_singleton.mpr q.symm))).trans e), cwt lk2⟩ lk2 rfl) lk2 I1.bare
      · show wpAny _ A.in1 ((holding [Value.int z tz] (binaryOp .Add (.int (sumV ys1) t) (.int z tz))).attempt >>= _) _ _ _
        refine wpAny_bind (wpAny_attempt (wpAny_holding (PySem.P.add_int ?_)))
        show wpAny _ A.in1 (updateSeq S (fun _ => #[.int (sumV ys1 + z) s1.toks]) >>= _) _ _ _
        refine wpAny_bind ?_
        refine wpAny_updateSeq e1 rfl ?_
        have o1 := Heap.get?_update_self (Obj.mapSeq (fun _ => #[Value.int (sumV ys1 + z) s1.toks])) e1 rfl
        refine wpAny_bind (wpAny_letGo ?_)
        refine wpAny_bind ?_
        refine wpAny_updateSeq o1 rfl (wpAny_pure ⟨plainId_quiet F.plain_sum_loop _, ?_⟩)
        have o2 := Heap.get?_update_self (Obj.mapSeq (fun _ => #[Value.int (sumV ys1 + z) s1.toks])) o1 rfl
        have lk2 : LkS S (ys1 ++ [.int z]) ((s1.heap.update S (Obj.mapSeq (fun _ => #[Value.int (sumV ys1 + z) s1.toks]))).update S (Obj.mapSeq (fun _ => #[Value.int (sumV ys1 + z) s1.toks]))) := ⟨s1.toks, _, by rw [sumV_snoc]; exact o2⟩
        exact next (ys1 ++ [.int z]) _ 2 (.inr rfl) (wake _ hN1 { s1 with heap := (s1.heap.update S (Obj.mapSeq (fun _ => #[Value.int (sumV ys1 + z) s1.toks]))).update S (Obj.mapSeq (fun _ => #[Value.int (sumV ys1 + z) s1.toks])), toks := s1.toks + 1 } ⟨rfl, I1.bare, fun b o hb e => (Heap.get?_update_other _ _ (fun q => hb (List.mem_singleton.mpr q.symm))).trans ((Heap.get?_update_other _ _ (fun q => hb (List.mem_singleton.mpr q.symm))).trans e), cwt lk2⟩ lk2 rfl) lk2 I1.bare
  intro n
  induction n with
  | zero =>
    intro ys s stage hst G lk hb
    exact turn 0 ys s stage hst G lk hb fun ys2 s2 st2 _ ⟨n', h, _⟩ => by cases h
  | succ n ih =>
    intro ys s stage hst G lk hb
    refine turn (n + 1) ys s stage hst G lk hb fun ys2 s2 st2 h2 ⟨n', h, G'⟩ lk2 hb2 => ?_
    cases h
    exact ih ys2 s2 st2 h2 G' lk2 hb2
end
section
variable {X : Cx} {pins : List (Addr × Obj)} {σ : L2.St} {a : Addr} {A : Around} {Qe : List V → Hp → Prop} {s : Shared} {m : Nat} {E : Value → Shared → Prop}
theorem call_sum_gxW (hr : Room 1 X.A) (hf : X.A.frames = some X.stack) {Q : VK} (hG : GReady X pins σ m cySW (fun ys H => Q (.int (sumV ys)) H) a s) :
    wpAny (model X.prog X.w) X.A (call (.builtin "sum") [.ref a]) (EP X pins σ Q) E s := by
  obtain ⟨g, go, sg, Hg, fp, ce, M, I0, ha, lim, ready⟩ := id hG.ex
  have hr1 := hr.dp
  have hSa : s.heap.objs.size ≠ a := fun z => by
    have := Heap.lt_size ha
    rw [← z] at this
    exact Nat.lt_irrefl _ this
  have hSc : s.heap.objs.size ≠ cStatics := fun z => by
    obtain ⟨_, hn, _⟩ := lim
    have := hn.lt
    rw [← z] at this
    exact Nat.lt_irrefl _ this
  refine call_function_tree F.kind_sum F.plain_sum F.entry_sum (F.args_sum1 _) ?_
  unfold Builtin.«sum»
  simp only [List.length_cons, List.length_nil]; rw [if_neg (by decide)]
  refine wpAny_bind (wpAny_of_eq (show Builtin.Builtins.bindParams "sum" ["start"] 0 { } = pure [none] from rfl) (wpAny_bind (wpAny_pyIter_gen (M.isGen _ ha) (wpAny_bind (wpAny_mkInt (wpAny_bind (wpAny_pure ?_)))))))
  simp only [List.forIn_cons, List.forIn_nil]; refine wpAny_bind (wpAny_bind (wpAny_bind (wpAny_isInstance (T := "int") (b := false) (typeIs_int _ _ _) PySem.sub_int_str ?_)))
  simp only [Bool.false_eq_true, if_false]; refine wpAny_pure (wpAny_bind (wpAny_bind (wpAny_isInstance (T := "int") (b := false) (typeIs_int _ _ _) sub_int_bytes ?_)))
  simp only [Bool.false_eq_true, if_false]; refine wpAny_pure (wpAny_bind (wpAny_bind (wpAny_isInstance (T := "int") (b := false) (typeIs_int _ _ _) sub_int_bytearray ?_)))
  simp only [Bool.false_eq_true, if_false]; refine wpAny_pure (wpAny_pure (wpAny_bind (wpAny_newObj_type (wpAny_pure ⟨plainId_quiet F.plain_sum_loop _, ?_⟩))))
  have o1 : (s.heap.push { cls := .type "list", data := .seq ([.int 0 s.toks] : List Value).toArray }).get? s.heap.objs.size = some { cls := .type "list", data := .seq ([.int 0 s.toks] : List Value).toArray } := Heap.get?_push_size _ rfl
  have lk0 : LkS s.heap.objs.size [] (s.heap.push { cls := .type "list", data := .seq ([.int 0 s.toks] : List Value).toArray }) := ⟨s.toks, 0, o1⟩
  have G := ready [s.heap.objs.size] (LkS s.heap.objs.size) X.A.in1.in1 { s with heap := s.heap.push { cls := .type "list", data := .seq ([.int 0 s.toks] : List Value).toArray }, toks := s.toks + 1 } (lnkS _) hr.hd hf (Nat.le_succ _) (by show X.A.units + 1 + 1 ≤ _; omega)
    (fun b hb => by rw [List.mem_singleton.mp hb]; exact Nat.le_refl _) (fun b o e => Heap.get?_push_of_some _ e) (fun b hb => by rw [List.mem_singleton.mp hb]; exact ⟨_, o1, fun v z => by cases z⟩) rfl rfl lk0
  refine gx_sumW M hr.hd (by omega) (fun hm => hSa (List.mem_singleton.mp hm).symm) (fun hm => hSc (List.mem_singleton.mp hm).symm) (fun s' ys H t I' n' q' => ?_) m [] _ 0 (.inl rfl) G lk0 I0.bare
  exact ⟨.int (sumV ys), H, I', ⟨t, rfl⟩, q'⟩
end
section
variable {X : Cx} {c P : Addr} {elt iter tg : Expr} {ifs : List Expr} {scope : Scope} {p pos gpos : Pos} {own : List (Str × Nat)} {wi : TI} {g : TG} {tt : TT} {te : TE} {k : Nat}
theorem pe_sumGxW (hg : Gl X "sum") (hm : X.mg "sum" = none) (G : GxOk X k c P elt tg iter ifs scope own wi g tt te)
    (he : starEach [gxE elt tg iter ifs scope gpos] X.env = (false, eval (gxE elt tg iter ifs scope gpos) X.env) :: starEach [] X.env := by rfl) :
    PE X (.Call (.Name "sum" p) [gxE elt tg iter ifs scope gpos] [] pos) (tGx P wi g tt te (own.map (·.2)) (fun _ => cySW) fun Q ys H => Q (.int (sumV ys)) H) := by
  refine ⟨fun pins s σ H Q I h => ?_⟩
  refine wpAny_Call_Name_kw (ld_blt I hg hm (by decide +kernel : bootBuiltins "sum" = some (.builtin "sum")) (PyProof.Rows.callWith_builtin1 ?_ he (by rfl)))
  rw [he]
  show wpAny _ _ (spliced ((false, eval (gxE elt tg iter ifs scope gpos) X.env) :: backTo pos (starEach [] X.env))) _ _ s
  exact Calls.spliced_cons (thn (G.make I h) fun u s1 ⟨a, m, e, hG⟩ => e ▸ Calls.spliced_nil (call_sum_gxW (G.hr.mono (by omega)) I.ok.frames hG))
end
end GXP
/-! ### math.factorial of a small int -/
namespace L2
open PySem PySem.Spec PyProof.Rows
def rFac : List V → Hp → VK → Prop := fun vs H Q => ∃ a : Int, vs = [.int a] ∧ 0 ≤ a ∧ a ≤ 20000 ∧ Q (.int ((Builtin.Math.factorialNat a.toNat : Nat) : Int)) H
theorem cr_factorial {X : Cx} : CallR X (.builtin "math.factorial") rFac := by
  intro pins s σ H vs us Q I r h
  obtain ⟨a, rfl, h0, h1, q⟩ := h
  obtain ⟨u, rfl, t, rfl⟩ := Vals.one r
  exact PySem.W.mc_factorial h0 h1 fun _ => ⟨.int _, H, I.tok _, ⟨_, rfl⟩, q⟩
end L2
/-! ### pairs (int, tuple of ints): <, min of two, sorted of a list -/
namespace NST
open PySem PySem.Spec PyProof.Rows L2
/-- by the int, then by the tuple -/
def ltN (k m : Int × List Int) : Bool := HT.lexLt (k.1 :: k.2) (m.1 :: m.2)
theorem ltN_swo {α : Type} (k : α → Int × List Int) : SrtO.Swo (fun v u : α => ltN (k v) (k u)) := NtL.swo_lexL fun v => (k v).1 :: (k v).2
/-- the pair k at v -/
def At (h : Heap) (v : Value) (k : Int × List Int) : Prop := ∃ a t b jts, v = .ref a ∧ IsTup h a #[.int k.1 t, .ref b] ∧ IsTup h b jts ∧ IntsAre jts.toList k.2
theorem isTup_keep {h h' : Heap} {a : Addr} {its : Array Value} {N : List Addr} (x : IsTup h a its) (hk : ∀ (b : Addr) (o : Obj), b ∉ N → h.get? b = some o → h'.get? b = some o) (hn : ∀ (b : Addr) (o : Obj), h.get? b = some o → o.cls = .type "tuple" → b ∉ N) : IsTup h' a its := by
  obtain ⟨o, ho, hc, hd⟩ := x
  exact ⟨o, hk a o (hn a o ho hc) ho, hc, hd⟩
theorem At.keep {h h' : Heap} {v : Value} {k : Int × List Int} {N : List Addr} (x : At h v k) (hk : ∀ (b : Addr) (o : Obj), b ∉ N → h.get? b = some o → h'.get? b = some o) (hn : ∀ (b : Addr) (o : Obj), h.get? b = some o → o.cls = .type "tuple" → b ∉ N) : At h' v k := by
  obtain ⟨a, t, b, jts, e, h1, h2, h3⟩ := x
  exact ⟨a, t, b, jts, e, isTup_keep h1 hk hn, isTup_keep h2 hk hn, h3⟩
theorem reads_ints {h : Heap} : ∀ {vs : List Value} {ns : List Int}, IntsAre vs ns → ReadsAll h vs (ns.map PyData.int) []
  | _, _, .nil => .nil
  | _, _, .cons n t r => .cons (as := []) (bs := []) (.int n t) (reads_ints r)
theorem lay_ints : ∀ ns : List Int, PyData.canLayAll0 (ns.map PyData.int) = true
  | [] => by simp [PyData.canLayAll0]
  | n :: ns => by simp [PyData.canLayAll0, PyData.canLay0, lay_ints ns]
theorem deep_ints : ∀ ns : List Int, PyData.depthAll (ns.map PyData.int) = 0
  | [] => by simp [PyData.depthAll]
  | n :: ns => by simp [PyData.depthAll, PyData.depth, deep_ints ns]
theorem eqv_ints : ∀ ns ms : List Int, PyData.eqvAll (ns.map PyData.int) (ms.map PyData.int) = decide (ns = ms)
  | [], [] => by simp [PyData.eqvAll]
  | [], _ :: _ => by simp [PyData.eqvAll]
  | _ :: _, [] => by simp [PyData.eqvAll]
  | n :: ns, m :: ms => by
    have e : PyData.eqvAll ((n :: ns).map PyData.int) ((m :: ms).map PyData.int) = ((n == m) && PyData.eqvAll (ns.map PyData.int) (ms.map PyData.int)) := by simp only [List.map_cons, PyData.eqvAll, PyData.eqv]
    rw [e, eqv_ints ns ms]
    by_cases h : n = m
    · subst h
      simp
    · have q : (n == m) = false := beq_eq_false_iff_ne.mpr h
      rw [q, Bool.false_and, decide_eq_false (fun z => h (List.cons.inj z).1)]
theorem eq_tup {A : Around} {s : Shared} {a b : Addr} {its jts : Array Value} {ns ms : List Int} (h1 : IsTup s.heap a its) (i1 : IntsAre its.toList ns) (h2 : IsTup s.heap b jts) (i2 : IntsAre jts.toList ms) (hu : A.units + 1 < cLine) : SeqAt.EqAt A s (.ref a) (.ref b) (decide (ns = ms)) := by
  obtain ⟨o, ho, hc, n, hd⟩ := h1
  obtain ⟨o2, ho2, hc2, n2, hd2⟩ := h2
  have d1 : PyData.depth (.tuple (ns.map PyData.int)) = 1 := by simp [PyData.depth, deep_ints]
  have d2 : PyData.depth (.tuple (ms.map PyData.int)) = 1 := by simp [PyData.depth, deep_ints]
  have l1 : PyData.canLay0 (.tuple (ns.map PyData.int)) = true := by simp only [PyData.canLay0]; exact lay_ints ns
  have l2 : PyData.canLay0 (.tuple (ms.map PyData.int)) = true := by simp only [PyData.canLay0]; exact lay_ints ms
  have e : PyData.eqv (.tuple (ns.map PyData.int)) (.tuple (ms.map PyData.int)) = decide (ns = ms) := by
    rw [← eqv_ints ns ms]
    simp only [PyData.eqv]
  have R := SeqAt.eqAt_reads (.tuple (ns.map PyData.int)) (.tuple (ms.map PyData.int)) A s (.ref a) (.ref b) [] [] (.tuple ho hc hd (reads_ints i1)) (.tuple ho2 hc2 hd2 (reads_ints i2)) l1 l2 (by rw [d1, d2]; exact hu)
  rw [e] at R
  exact R
theorem At.lt {A : Around} {s : Shared} {u v : Value} {k m : Int × List Int} (x : At s.heap u k) (y : At s.heap v m) (hu : A.units + 2 < cLine) : Ob.RcOp .Lt A s u v (ltN k m) := by
  obtain ⟨a, t, b, jts, rfl, h1, h2, h3⟩ := x
  obtain ⟨a', t', b', jts', rfl, g1, g2, g3⟩ := y
  have R := Ob.RcOp.tuples_lt (A := A) (s := s) (e := fun j => if j = 0 then (k.1 == m.1) else decide (k.2 = m.2)) (r := fun j => if j = 0 then decide (k.1 < m.1) else HT.lexLt k.2 m.2) h1 g1 (by omega) (fun j h1 h2' => by
    match j, h1, h2' with
    | 0, _, _ => exact SeqAt.EqAt.int_int _ _ _ _
    | 1, _, _ => exact eq_tup h2 h3 g2 g3 (by show A.units + 1 + 1 < cLine; omega)) (fun j h1 h2' _ => by
    match j, h1, h2' with
    | 0, _, _ => exact Ob.RcOp.lt_int _ _ _ _
    | 1, _, _ => exact fun prog w E Q q => HT.lt_tupInts h2 g2 h3 g3 (by show A.units + 1 < cLine; omega) q)
  have e : Ob.lexAt (fun j => if j = 0 then (k.1 == m.1) else decide (k.2 = m.2)) (fun j => if j = 0 then decide (k.1 < m.1) else HT.lexLt k.2 m.2) (decide (2 < 2)) 0 2 = ltN k m := by
    rw [Ob.lexAt_succ, Ob.lexAt_succ, Ob.lexAt_zero]
    unfold ltN
    rw [HT.lexLt_cons]
    by_cases e1 : k.1 = m.1
    · rw [if_pos e1]
      have b1 : (k.1 == m.1) = true := beq_iff_eq.mpr e1
      by_cases e2 : k.2 = m.2
      · have e3 : HT.lexLt m.2 m.2 = false := (NtL.swo_lexL (fun v : List Int => v)).refl m.2
        simp [b1, e2, e3]
      · simp [b1, e2]
    · rw [if_neg e1]
      have b1 : (k.1 == m.1) = false := beq_eq_false_iff_ne.mpr e1
      simp [b1]
  rw [← e]
  exact R
/-! ### min of two -/
abbrev tmp (xs : Array Value) (c : Nat) : Obj := { cls := .type "list", data := .seq xs c }
theorem loop {prog : Program} {w : World} {A : Around} {R : Result → Shared → Prop} {s0 : Shared} {I S l : Addr} {us : List Value} {ks : List (Int × List Int)} (hd : A.handled = none) (hu : A.in1.units + 2 < cLine) (hl : s0.heap.IsTuple l us.toArray) (hk : Paired (At s0.heap) us ks) (hlI : l ≠ I) (hlS : l ≠ S) (hIS : I ≠ S)
    (hn : ∀ (b : Addr) (o : Obj), s0.heap.get? b = some o → o.cls = .type "tuple" → b ∉ [I, S])
    (fin : ∀ (i : Nat) (v : Value) (s : Shared), us[i]? = some v → (∀ (j : Nat) (x y : Int × List Int), ks[j]? = some x → ks[i]? = some y → (j < i → ltN y x = true) ∧ ltN x y = false) → (∀ (b : Addr) (o : Obj), b ∉ [I, S] → s0.heap.get? b = some o → s.heap.get? b = some o) → s.gens = s0.gens → s.drawn = s0.drawn → s.os = s0.os → R (.ok (.ret v)) s) :
    ∀ (r j i : Nat) (s : Shared) (v : Value) (c : Nat), us.length - j = r → j ≤ us.length → i < j → us[i]? = some v → (∀ (j' : Nat) (x y : Int × List Int), j' < j → ks[j']? = some x → ks[i]? = some y → (j' < i → ltN y x = true) ∧ ltN x y = false) →
      s.heap.IsTupleIter I l j → s.heap.get? S = some (tmp #[v, v] c) → (∀ (b : Addr) (o : Obj), b ∉ [I, S] → s0.heap.get? b = some o → s.heap.get? b = some o) → s.gens = s0.gens → s.drawn = s0.drawn → s.os = s0.os →
      codeAny (model prog w) A (.builtin "min.loop" ⟨[.ref I, .none, .ref S], []⟩) R s := by
  intro r
  have O := ltN_swo (fun k : Int × List Int => k)
  induction r with
  | zero =>
    intro j i s v c hr hj hij hv hb hI hS hkp hg hdr hos
    have ej : j = us.length := by omega
    subst ej
    have hl' : s.heap.IsTuple l us.toArray := by
      obtain ⟨o, ho, h⟩ := hl
      exact ⟨o, hkp l o (by simp [hlI, hlS]) ho, h⟩
    refine codeAny_builtin F.entry_min_loop ?_
    rw [Around.under_plainId F.plain_min_loop]
    unfold Builtin.«min.loop»
    have nx := fun (Q : Option Value → Shared → Prop) (E : Value → Shared → Prop) hQ => wpAny_pyNext_tuple_end (A := A.in1) (prog := prog) (w := w) (E := E) (Q := Q) hd hI hl' (by simp) hQ
    wp_walk using wpAny_load hS, nx
    refine wpAny_tryCatch (nx _ _ fun h' hx => ?_)
    have hS' : h'.get? S = some (tmp #[v, v] c) := hx S _ (Ne.symm hIS) hS
    show wpAny _ _ (updateSeq S (fun _ => #[]) >>= fun _ => letGo [v] [v] >>= fun _ => ret v) _ _ _
    refine wpAny_bind (wpAny_updateSeq (s := { s with heap := h' }) hS' rfl ?_)
    wp_walk
    refine fin i v _ hv (fun j x y h1 h2 => hb j x y ?_ h1 h2) (fun b o hn' e => ?_) hg hdr hos
    · rw [hk.length]
      exact (List.getElem?_eq_some_iff.mp h1).1
    · simp only [List.mem_cons, List.not_mem_nil, or_false, not_or] at hn'
      exact (Heap.get?_update_other _ _ (Ne.symm hn'.2)).trans (hx b o hn'.1 (hkp b o (by simp [hn'.1, hn'.2]) e))
  | succ r ih =>
    intro j i s v c hr hj hij hv hb hI hS hkp hg hdr hos
    have hlt : j < us.length := by omega
    have hl' : s.heap.IsTuple l us.toArray := by
      obtain ⟨o, ho, h⟩ := hl
      exact ⟨o, hkp l o (by simp [hlI, hlS]) ho, h⟩
    obtain ⟨u, hu2⟩ : ∃ u, us[j]? = some u := ⟨_, List.getElem?_eq_getElem hlt⟩
    refine codeAny_builtin F.entry_min_loop ?_
    rw [Around.under_plainId F.plain_min_loop]
    unfold Builtin.«min.loop»
    have nx := fun (Q : Option Value → Shared → Prop) (E : Value → Shared → Prop) hQ => wpAny_pyNext_tuple_item (A := A.in1) (prog := prog) (w := w) (E := E) (Q := Q) (x := u) hI hl' (by simpa using hu2) hQ
    wp_walk using wpAny_load hS, nx
    refine wpAny_tryCatch (nx _ _ fun h' hI' hx => ?_)
    have hS' : h'.get? S = some (tmp #[v, v] c) := (hx.2 S (Ne.symm hIS)).trans hS
    have hkp' : ∀ (b : Addr) (o : Obj), b ∉ [I, S] → s0.heap.get? b = some o → h'.get? b = some o := fun b o hb' e => by
      refine (hx.2 b ?_).trans (hkp b o hb' e)
      simp only [List.mem_cons, List.not_mem_nil, or_false, not_or] at hb'
      exact hb'.1
    have hil := (List.getElem?_eq_some_iff.mp hv).1
    obtain ⟨ku, hku, hau⟩ := EXT.paired_at hk hu2
    obtain ⟨kv, hkv, hav⟩ := EXT.paired_at hk hv
    have hau' := hau.keep hkp' hn
    have hav' := hav.keep hkp' hn
    have hcmp := At.lt (A := A.in1) (s := { s with heap := h' }) hau' hav' hu
    wp_walk
    refine wpAny_tryCatch (wpAny_holding (wpAny_bind (hcmp _ _ _ _ ?_)))
    wp_walk
    have qm : (Code.builtin "min.loop" ⟨[.ref I, .none, .ref S], []⟩).quiet = true := plainId_quiet F.plain_min_loop _
    have kl := hk.length
    cases hc : ltN ku kv with
    | true =>
      simp only [if_true]
      refine wpAny_bind (wpAny_updateSeq (s := { s with heap := h' }) hS' rfl ?_)
      wp_walk
      have o1 := Heap.get?_update_self (Obj.mapSeq fun _ => #[u, u]) hS' rfl
      refine ⟨qm, ih (j + 1) j _ u _ (by omega) (by omega) (Nat.lt_succ_self _) hu2 (fun j' x y hj' h1 h2 => ?_) ?_ o1 (fun b o hn' e => ?_) hg hdr hos⟩
      · rw [hku] at h2
        cases h2
        by_cases e : j' = j
        · subst e
          rw [hku] at h1
          cases h1
          exact ⟨fun z => absurd z (Nat.lt_irrefl _), O.refl _⟩
        · obtain ⟨b1, b2⟩ := hb j' x kv (by omega) h1 hkv
          refine ⟨fun _ => ?_, O.tr ku kv x (O.asym ku kv hc) b2⟩
          exact O.ltle hc b2
      · obtain ⟨o, ho, h1, h2⟩ := hI'
        exact ⟨o, (Heap.get?_update_other _ _ (Ne.symm hIS)).trans ho, h1, h2⟩
      · have hb2 := hn'
        simp only [List.mem_cons, List.not_mem_nil, or_false, not_or] at hb2
        exact (Heap.get?_update_other _ _ (Ne.symm hb2.2)).trans (hkp' b o hn' e)
    | false =>
      simp only [Bool.false_eq_true, if_false]
      wp_walk
      refine ⟨qm, ih (j + 1) i _ v c (by omega) (by omega) (by omega) hv (fun j' x y hj' h1 h2 => ?_) hI' hS' hkp' hg hdr hos⟩
      by_cases e : j' = j
      · subst e
        rw [hku] at h1
        cases h1
        rw [hkv] at h2
        cases h2
        exact ⟨fun z => absurd z (by omega), hc⟩
      · exact hb j' x y (by omega) h1 h2
theorem first {prog : Program} {w : World} {A : Around} {R : Result → Shared → Prop} {s0 : Shared} {I S l : Addr} {us : List Value} {ks : List (Int × List Int)} {c : Nat} (hd : A.handled = none) (hu : A.in1.units + 2 < cLine) (hl : s0.heap.IsTuple l us.toArray) (hk : Paired (At s0.heap) us ks) (hlI : l ≠ I) (hlS : l ≠ S) (hIS : I ≠ S)
    (hn : ∀ (b : Addr) (o : Obj), s0.heap.get? b = some o → o.cls = .type "tuple" → b ∉ [I, S]) (hp : 0 < us.length) (hI : s0.heap.IsTupleIter I l 0) (hS : s0.heap.get? S = some (tmp #[] c))
    (fin : ∀ (i : Nat) (v : Value) (s : Shared), us[i]? = some v → (∀ (j : Nat) (x y : Int × List Int), ks[j]? = some x → ks[i]? = some y → (j < i → ltN y x = true) ∧ ltN x y = false) → (∀ (b : Addr) (o : Obj), b ∉ [I, S] → s0.heap.get? b = some o → s.heap.get? b = some o) → s.gens = s0.gens → s.drawn = s0.drawn → s.os = s0.os → R (.ok (.ret v)) s) :
    codeAny (model prog w) A (.builtin "min.loop" ⟨[.ref I, .none, .ref S], []⟩) R s0 := by
  have O := ltN_swo (fun k : Int × List Int => k)
  obtain ⟨u, hu2⟩ : ∃ u, us[0]? = some u := ⟨_, List.getElem?_eq_getElem hp⟩
  refine codeAny_builtin F.entry_min_loop ?_
  rw [Around.under_plainId F.plain_min_loop]
  unfold Builtin.«min.loop»
  have nx := fun (Q : Option Value → Shared → Prop) (E : Value → Shared → Prop) hQ => wpAny_pyNext_tuple_item (A := A.in1) (prog := prog) (w := w) (E := E) (Q := Q) (x := u) hI hl (by simpa using hu2) hQ
  wp_walk using wpAny_load hS, nx
  refine wpAny_tryCatch (nx _ _ fun h' hI' hx => ?_)
  have hS' : h'.get? S = some (tmp #[] c) := (hx.2 S (Ne.symm hIS)).trans hS
  have hkp' : ∀ (b : Addr) (o : Obj), b ∉ [I, S] → s0.heap.get? b = some o → h'.get? b = some o := fun b o hb' e => by
    refine (hx.2 b ?_).trans e
    simp only [List.mem_cons, List.not_mem_nil, or_false, not_or] at hb'
    exact hb'.1
  have qm : (Code.builtin "min.loop" ⟨[.ref I, .none, .ref S], []⟩).quiet = true := plainId_quiet F.plain_min_loop _
  wp_walk
  have o1 := Heap.get?_update_self (Obj.mapSeq fun _ => #[u, u]) hS' rfl
  refine ⟨qm, loop hd hu hl hk hlI hlS hIS hn fin _ 1 0 _ u _ rfl hp (by decide) hu2 (fun j' x y hj' h1 h2 => ?_) ?_ o1 (fun b o hn' e => ?_) rfl rfl rfl⟩
  · obtain rfl : j' = 0 := by omega
    rw [h1] at h2
    cases h2
    exact ⟨fun z => absurd z (Nat.lt_irrefl _), O.refl _⟩
  · obtain ⟨o, ho, h1, h2⟩ := hI'
    exact ⟨o, (Heap.get?_update_other _ _ (Ne.symm hIS)).trans ho, h1, h2⟩
  · have hb2 := hn'
    simp only [List.mem_cons, List.not_mem_nil, or_false, not_or] at hb2
    exact (Heap.get?_update_other _ _ (Ne.symm hb2.2)).trans (hkp' b o hn' e)
theorem call_min2 {prog : Program} {w : World} {A : Around} {E : Value → Shared → Prop} {s : Shared} {a b : Value} {k m : Int × List Int} {Q : Value → Shared → Prop} (hd : A.handled = none) (hu : A.units + 8 < cLine) (hk : At s.heap a k) (hm : At s.heap b m)
    (q : ∀ (h' : Heap) (tk : Nat), (∀ (d : Addr) (o : Obj), s.heap.get? d = some o → h'.get? d = some o) → Q (if ltN m k = true then b else a) { s with heap := h', toks := tk }) :
    wpAny (model prog w) A (call (.builtin "min") [a, b]) Q E s := by
  have nm : (toString "min" ++ toString ".loop" : String) = "min.loop" := by
    decide
  have bp : Builtin.Builtins.bindParams "min" ["key", "default"] 0 ⟨[], []⟩ = pure [none, none] := rfl
  refine call_function_tree F.kind_min F.plain_min F.entry_min
    (F.args_min2 a b) ?_
  show wpAny (model prog w) A.in1 (Builtin.Builtins.bindParams "min" ["key", "default"] 0 ⟨[], []⟩ >>= _) _ E s
  refine wpAny_bind (wpAny_of_eq bp ?_)
  show wpAny (model prog w) A.in1 (newTuple [a, b] >>= _) _ E s
  refine wpAny_bind ?_
  refine wpAny_newObj_type ?_
  have hT : (s.heap.push { cls := .type "tuple", data := .seq #[a, b] }).IsTuple s.heap.objs.size #[a, b] :=
    ⟨_, Heap.get?_push_size _ rfl, rfl, 0, rfl⟩
  refine wpAny_bind (wpAny_pyIter_tuple hT ?_)
  refine wpAny_bind ?_
  refine wpAny_newObj_type ?_
  rw [nm]
  have sz1 : (s.heap.push { cls := .type "tuple", data := .seq #[a, b] }).objs.size = s.heap.objs.size + 1 := size_push' _ _
  have sz2 : ((s.heap.push { cls := .type "tuple", data := .seq #[a, b] }).push { cls := .type "tuple_iterator", data := .fields #[.ref s.heap.objs.size, .int 0 0] }).objs.size = s.heap.objs.size + 1 + 1 := by rw [size_push', sz1]
  have kp : ∀ (d : Addr) (o : Obj), s.heap.get? d = some o → (((s.heap.push { cls := .type "tuple", data := .seq #[a, b] }).push { cls := .type "tuple_iterator", data := .fields #[.ref s.heap.objs.size, .int 0 0] }).push { cls := .type "list", data := .seq #[] }).get? d = some o := fun d o e => Heap.get?_push_of_some _ (Heap.get?_push_of_some _ (Heap.get?_push_of_some _ e))
  refine wpAny_pure ⟨plainId_quiet F.plain_min_loop _, first (c := 0) (us := [a, b]) (ks := [k, m]) hd (by show A.units + 1 + 2 < cLine; omega) ((hT.push _).push _) (.cons (hk.keep (N := []) (fun d o _ e => kp d o e) (fun _ _ _ _ z => by cases z)) (.cons (hm.keep (N := []) (fun d o _ e => kp d o e) (fun _ _ _ _ z => by cases z)) .nil)) (by rw [sz1]; exact (Nat.succ_ne_self _).symm) (by rw [sz2]; exact Nat.ne_of_lt (Nat.lt_succ_of_lt (Nat.lt_succ_self _))) (by rw [sz1, sz2]; exact (Nat.succ_ne_self _).symm) (fun d o e hc z => ?_) (Nat.zero_lt_succ _) ⟨_, Heap.get?_push_of_some _ (Heap.get?_push_size _ rfl), rfl, rfl⟩ (Heap.get?_push_size _ rfl) (fun i v s2 h1 h2 h3 h4 h5 h6 => ?_)⟩
  · simp only [List.mem_cons, List.not_mem_nil, or_false] at z
    rcases z with z | z
    · rw [z] at e
      rw [Heap.get?_push_of_some _ (Heap.get?_push_size _ rfl)] at e
      cases e
      exact absurd (Value.type.inj hc) (by decide)
    · rw [z] at e
      rw [Heap.get?_push_size _ rfl] at e
      cases e
      exact absurd (Value.type.inj hc) (by decide)
  · have es : s2 = { s with heap := s2.heap, toks := s2.toks } := by
      cases s2
      cases h4
      cases h5
      cases h6
      rfl
    have := q s2.heap s2.toks fun d o e => h3 d o (fun z => by
      have lt := Heap.lt_size e
      simp only [List.mem_cons, List.not_mem_nil, or_false] at z
      rw [sz1, sz2] at z
      rcases z with z | z
      · rw [z] at lt
        exact absurd lt (Nat.not_lt_of_le (Nat.le_succ _))
      · rw [z] at lt
        exact absurd lt (Nat.not_lt_of_le (Nat.le_add_right _ 2))) (kp d o e)
    rw [es]
    match i, h1 with
    | 0, h1 =>
      have e : v = a := (Option.some.inj h1).symm
      have hf := (h2 1 m k rfl rfl).2
      rw [hf, if_neg Bool.false_ne_true] at this
      rw [e]
      exact this
    | 1, h1 =>
      have e : v = b := (Option.some.inj h1).symm
      have hf := (h2 0 k m rfl rfl).1 (by decide)
      rw [hf, if_pos rfl] at this
      rw [e]
      exact this
    | i + 2, h1 => simp at h1
theorem at_of {X : Cx} {pins : List (Addr × Obj)} {σ : L2.St} {H : Hp} {s : Shared} (I : Inv X pins σ H s) {t b : Addr} {k : Int × List Int} (h1 : SqT X.K H t [.int k.1, .ref b]) (h2 : SqT X.K H b (k.2.map V.int)) : At s.heap (.ref t) k := by
  obtain ⟨its, rv, q, _⟩ := I.tuple h1
  obtain ⟨u1, u2, rfl, ⟨t1, rfl⟩, r2⟩ := vals2 rv
  obtain rfl : u2 = Value.ref b := r2
  obtain ⟨jts, rv2, q2, _⟩ := I.tuple h2
  exact ⟨t, t1, b, jts.toArray, rfl, q, q2, rv2.ints⟩
/-- a pair in the heap -/
def PrN (K : PySem.W.Frag) (H : Hp) (t : Addr) (k : Int × List Int) : Prop := ∃ b, SqT K H t [.int k.1, .ref b] ∧ SqT K H b (k.2.map V.int)
/-- min(x, y) of two such pairs -/
def rMin2N (K : PySem.W.Frag) : List V → Hp → VK → Prop := fun vs H Q => ∃ (a b : Addr) (k m : Int × List Int), vs = [V.ref a, V.ref b] ∧ PrN K H a k ∧ PrN K H b m ∧ Q (V.ref (if ltN m k = true then b else a)) H
theorem cr_min2N {X : Cx} (hc : X.calm = true) (hu : X.A.units + 8 < cLine) : CallR X (.builtin "min") (rMin2N X.K) := by
  intro pins s σ H xs us Q I r h
  obtain ⟨a, b, k, m, rfl, ⟨a1, ha1, ha2⟩, ⟨b1, hb1, hb2⟩, q⟩ := h
  obtain ⟨u, w', rfl, ru, rw'⟩ := vals2 r
  obtain rfl : u = Value.ref a := ru
  obtain rfl : w' = Value.ref b := rw'
  refine call_min2 (I.ok.hd hc) hu (at_of I ha1 ha2) (at_of I hb1 hb2) fun h' tk kp => ⟨_, H, I.kept kp, ?_, q⟩
  cases ltN m k with
  | true => rfl
  | false => rfl
/-! ### sorted -/
theorem firsts {h : Heap} {ks : Value → Int × List Int} : ∀ {vs : List Value}, (∀ v ∈ vs, At h v (ks v)) → ∃ fs, PySem.W.KatTups h vs fs ∧ fs.length = vs.length ∧ ∀ f ∈ fs, ∃ i t, f = Value.int i t
  | [], _ => ⟨[], PySem.W.KatTups.nil, rfl, fun _ m => absurd m List.not_mem_nil⟩
  | v :: vs, hv => by
    obtain ⟨fs, h1, h2, h3⟩ := firsts (vs := vs) fun u m => hv u (List.mem_cons_of_mem _ m)
    obtain ⟨a, t, b, jts, e, ⟨o, ho, hc, n, hd⟩, _⟩ := hv v List.mem_cons_self
    refine ⟨.int (ks v).1 t :: fs, ?_, by rw [List.length_cons, List.length_cons, h2], fun f m => ?_⟩
    · rw [e] at hd ⊢
      exact PySem.W.KatTups.cons ho hc hd rfl h1
    · rcases List.mem_cons.mp m with e | m
      · exact ⟨_, _, e⟩
      · exact h3 f m
theorem ltK {prog : Program} {w : World} {A : Around} {E : Value → Shared → Prop} {s : Shared} {v u : Value} {k m : Int × List Int} {Q : Bool → Shared → Prop} (hu : A.units + 2 < cLine) (hv : At s.heap v k) (hw : At s.heap u m) (h : Q (ltN k m) s) : wpAny (model prog w) A (keyLt' (tuples' true) v u) Q E s := by
  obtain ⟨a, t, b, jts, rfl, ⟨o, ho, hc, n, hd⟩, hb, hj⟩ := hv
  obtain ⟨a2, t2, b2, jts2, rfl, ⟨o2, ho2, hc2, n2, hd2⟩, hb2, hj2⟩ := hw
  unfold ltN at h
  rw [HT.lexLt_cons] at h
  refine PySem.W.kat_lt (b := true) ho hd ho2 hd2 ?_
  show PySem.W.KatLex prog w A true (decide (2 < 2)) Q [(.int k.1 t, .int m.1 t2), (.ref b, .ref b2)] 0 s
  refine PySem.W.kat_cons (SeqAt.EqAt.int_int _ _ _ _ prog w _ _ (PySem.W.kat_go (fun e => ?_) (fun e => ?_)))
  · have e1 : k.1 = m.1 := beq_iff_eq.mp e
    rw [if_pos e1] at h
    refine PySem.W.kat_yes (PySem.W.kat_cons ((eq_tup hb hj hb2 hj2 (by omega)) prog w _ _ (PySem.W.kat_go (fun e2 => ?_) (fun e2 => ?_))))
    · have e3 : k.2 = m.2 := of_decide_eq_true e2
      have e4 : HT.lexLt m.2 m.2 = false := (NtL.swo_lexL (fun v : List Int => v)).refl m.2
      rw [e3, e4] at h
      exact PySem.W.kat_yes (PySem.W.kat_nil h)
    · exact PySem.W.kat_no (PySem.W.kat_one _ _ (HT.lt_tupInts hb hb2 hj hj2 (by omega) h))
  · have e1 : ¬ k.1 = m.1 := fun z => by
      rw [beq_iff_eq.mpr z] at e
      cases e
    rw [if_neg e1] at h
    have q := PySem.W.kat_lt_int (prog := prog) (w := w) (A := A) (E := fun _ _ => False) (s := s) (x := k.1) (y := m.1) (t := t) (u := t2) h
    rw [keyLt'_oneType] at q
    exact PySem.W.kat_no q
theorem sortable {prog : Program} {w : World} {A : Around} {s : Shared} {a : Addr} {vs : List Value} {ks : Value → Int × List Int} (hu : A.units + 2 < cLine) (h2 : 2 ≤ vs.length) (hv : ∀ v ∈ vs, At s.heap v (ks v)) (ha : ∀ o, s.heap.get? a = some o → o.cls ≠ .type "tuple") : SrtO.SortableO prog w A s a vs fun v u => ltN (ks v) (ks u) := by
  intro h' keep
  have hv' : ∀ v ∈ vs, At h' v (ks v) := fun v m => (hv v m).keep (N := [a]) (fun b o hb e => keep b o (fun z => hb (by rw [z]; exact List.mem_singleton.mpr rfl)) e) (fun b o e hc m => ha o (by rw [← List.mem_singleton.mp m]; exact e) hc)
  refine ⟨tuples' true, fun Q E hq => ?_, fun p q hp hq => ?_⟩
  · obtain ⟨fs, t, l, hf⟩ := firsts hv'
    have neq : (Value.type "int" != Value.type "tuple") = true := by
      first
        | rfl
        | decide
    refine PySem.W.kat_kind (T := Value.type "int") (s := { s with heap := h' }) t (by omega) (fun v m => ?_) rfl (by rw [neq]; exact hq)
    obtain ⟨i, t, rfl⟩ := hf v m
    exact PySem.W.Looks.of_pure rfl
  · exact ltK (Q := fun r s' => s' = { s with heap := h' } ∧ r = ltN (ks p.1) (ks q.1)) (E := fun _ _ => False) (s := { s with heap := h' }) hu (hv' p.1 hp) (hv' q.1 hq) ⟨rfl, rfl⟩
theorem ints_uniq : ∀ {vs : List Value} {ns ms : List Int}, IntsAre vs ns → IntsAre vs ms → ns = ms
  | _, _, _, .nil, .nil => rfl
  | _, _, _, .cons n t r, .cons _ _ q => by rw [ints_uniq r q]
theorem At.uniq {h : Heap} {v : Value} {k m : Int × List Int} (x : At h v k) (y : At h v m) : k = m := by
  obtain ⟨a, t, b, jts, rfl, ⟨o, ho, hc, n, hd⟩, ⟨o2, ho2, hc2, n2, hd2⟩, h3⟩ := x
  obtain ⟨a', t', b', jts', e, ⟨o', ho', hc', n', hd'⟩, ⟨o2', ho2', hc2', n2', hd2'⟩, h3'⟩ := y
  cases e
  rw [ho] at ho'
  cases ho'
  rw [hd] at hd'
  injection hd' with e1 e2
  have e3 := congrArg Array.toList e1
  have e3 : [Value.int k.1 t, Value.ref b] = [Value.int m.1 t', Value.ref b'] := e3
  injection e3 with e4 e5
  injection e4 with e6 e7
  injection e5 with e8 e9
  injection e8 with e10
  subst e10
  rw [ho2] at ho2'
  cases ho2'
  rw [hd2] at hd2'
  injection hd2' with e11 e12
  subst e11
  exact Prod.ext e6 (ints_uniq h3 h3')
/-- sorted(xs), xs such pairs -/
def PrV (K : PySem.W.Frag) (H : Hp) (y : V) (k : Int × List Int) : Prop := ∃ t, y = V.ref t ∧ PrN K H t k
def rSortN (K : PySem.W.Frag) : List V → Hp → VK → Prop := fun vs H Q => ∃ (a : Addr) (xs : List V) (ks : List (Int × List Int)), vs = [V.ref a] ∧ SqL K H a xs ∧ Paired (PrV K H) xs ks ∧
  ∀ ys js p, Paired (PrV K H) ys js → js.Perm ks → js.Pairwise (fun u v => ltN v u = false) → H p = none → Q (.ref p) (upd H p (.lst ys))
theorem ats_of {X : Cx} {pins : List (Addr × Obj)} {σ : L2.St} {H : Hp} {s : Shared} (I : Inv X pins σ H s) : ∀ {xs : List V} {its : List Value} {ks : List (Int × List Int)}, Vals xs its → Paired (PrV X.K H) xs ks → Paired (At s.heap) its ks
  | _, _, _, .nil, .nil => .nil
  | _, _, _, .cons r t, .cons ⟨p, e, b, h1, h2⟩ u => by
    subst e
    cases r
    exact .cons (at_of I h1 h2) (ats_of I t u)
theorem paired_map {α β : Type} {R : α → β → Prop} (f : α → β) : ∀ {l : List α}, (∀ x ∈ l, R x (f x)) → Paired R l (l.map f)
  | [], _ => .nil
  | x :: l, h => .cons (h x List.mem_cons_self) (paired_map f fun y m => h y (List.mem_cons_of_mem _ m))
theorem map_of_paired {α β : Type} {R : α → β → Prop} (f : α → β) (hu : ∀ x y, R x y → f x = y) : ∀ {l : List α} {m : List β}, Paired R l m → m = l.map f
  | _, _, .nil => rfl
  | _, _, .cons h t => by rw [List.map_cons, hu _ _ h, ← map_of_paired f hu t]
open Classical in
noncomputable def keyA (h : Heap) (v : Value) : Int × List Int := if e : ∃ k, At h v k then Classical.choose e else (0, [])
theorem keyA_at {h : Heap} {v : Value} {k : Int × List Int} (x : At h v k) : keyA h v = k := by
  have e : ∃ k, At h v k := ⟨k, x⟩
  unfold keyA
  rw [dif_pos e]
  exact (Classical.choose_spec e).uniq x
theorem cr_sortedN {X : Cx} (hu : X.A.units + 8 < cLine) : CallR X (.builtin "sorted") (rSortN X.K) := by
  intro pins s σ H vs us Q I r h
  obtain ⟨a, xs, ks, rfl, hs, hx, q⟩ := h
  obtain ⟨its, rv, hl, hz⟩ := I.list hs
  obtain ⟨u, rfl, ru⟩ := vals1 r
  obtain rfl : u = Value.ref a := ru
  obtain ⟨e1, e2⟩ := refs_back rv fun y m => by
    obtain ⟨i, hi⟩ := List.mem_iff_getElem?.mp m
    obtain ⟨_, _, t, e, _⟩ := EXT.paired_at hx hi
    exact ⟨t, e⟩
  have hats := ats_of I rv hx
  have eks : ks = its.map (keyA s.heap) := map_of_paired (keyA s.heap) (fun _ _ h => keyA_at h) hats
  have hat : ∀ v ∈ its, At s.heap v (keyA s.heap v) := fun v hv => by
    obtain ⟨i, hi⟩ := List.mem_iff_getElem?.mp hv
    obtain ⟨k, _, hk⟩ := EXT.paired_at hats hi
    rw [keyA_at hk]
    exact hk
  have hpr : ∀ v ∈ its, PrV X.K H (backV v) (keyA s.heap v) := fun v hv => by
    obtain ⟨i, hi⟩ := List.mem_iff_getElem?.mp hv
    obtain ⟨k, hk, hka⟩ := EXT.paired_at hats hi
    have hxi : xs[i]? = some (backV v) := by rw [e1, List.getElem?_map, hi]; rfl
    obtain ⟨k', hk', hp⟩ := EXT.paired_at hx hxi
    rw [hk] at hk'
    cases hk'
    rw [keyA_at hka]
    exact hp
  refine SrtO.sorted_ord (ltN_swo fun v => keyA s.heap v) hl.isList (by rw [← rv.length]; exact hz) (fun h2 h₁ a' ha kk => ?_) fun out h1 h2 => ?_
  · refine sortable (s := { s with heap := h₁ }) (ks := fun v => keyA s.heap v) (by show X.A.units + 1 + 1 + 2 < cLine; omega) h2 (fun v m => (hat v m).keep (N := []) (fun b o _ g => (kk b o g).2) (fun _ _ _ _ z => by cases z)) (fun o e hc => ?_)
    rw [show h₁.get? a' = some o from e] at ha
    cases ha
    exact absurd (Value.type.inj hc) (by decide)
  · have h3 : ∀ u ∈ out, ∃ a, u = Value.ref a := fun u hu => e2 u (h2.perm.mem_iff.mp hu)
    obtain ⟨n, hn⟩ := sortedAll_at s.heap its out.toArray
    have hp : (out.map backV).Perm xs := by
      rw [e1]
      exact h2.perm.map backV
    refine ⟨.ref _, upd H (s.heap.objs.size + 1) (.lst (out.map backV)), I.laid (t' := s.toks) (fun _ _ => sortedAll_old) (Nat.le_succ _) ⟨by rw [hp.length_eq]; exact hz, out, n, vals_back h3, hn⟩, rfl, q _ (out.map (keyA s.heap)) _ ?_ ?_ (List.pairwise_map.mpr h1) (I.hok.fresh (Nat.le_succ _))⟩
    · have : ∀ l : List Value, (∀ v ∈ l, v ∈ its) → Paired (PrV X.K H) (l.map backV) (l.map (keyA s.heap)) := fun l => by
        induction l with
        | nil => exact fun _ => .nil
        | cons v l ih => exact fun h => .cons (hpr v (h v List.mem_cons_self)) (ih fun u m => h u (List.mem_cons_of_mem _ m))
      exact this out fun v m => h2.perm.mem_iff.mp m
    · rw [eks]
      exact h2.perm.map _
end NST
/-! ### sums over matchings, by tables -/
namespace MT
/-- sums and products, as the program makes them -/
structure Sr (α : Type) where
  add : α → α → α
  mul : α → α → α
  zero : α
  one : α
  add_comm : ∀ a b, add a b = add b a
  add_assoc : ∀ a b c, add (add a b) c = add a (add b c)
  add_zero : ∀ a, add a zero = a
  mul_assoc : ∀ a b c, mul (mul a b) c = mul a (mul b c)
  mul_comm : ∀ a b, mul a b = mul b a
  mul_add : ∀ a b c, mul a (add b c) = add (mul a b) (mul a c)
  mul_zero : ∀ a, mul a zero = zero
  mul_one : ∀ a, mul a one = a
section
variable {α : Type} (S : Sr α)
theorem Sr.zero_add (a : α) : S.add S.zero a = a := by rw [S.add_comm, S.add_zero]
theorem Sr.one_mul (a : α) : S.mul S.one a = a := by rw [S.mul_comm, S.mul_one]
theorem Sr.add_mul (a b c : α) : S.mul (S.add a b) c = S.add (S.mul a c) (S.mul b c) := by rw [S.mul_comm, S.mul_add, S.mul_comm c, S.mul_comm c]
theorem Sr.zero_mul (a : α) : S.mul S.zero a = S.zero := by rw [S.mul_comm, S.mul_zero]
theorem Sr.swap (a b c : α) : S.add (S.add a b) c = S.add (S.add a c) b := by rw [S.add_assoc, S.add_comm b c, ← S.add_assoc]
def getA (l : List (Nat × α)) (m : Nat) : α := match l.find? (fun p => decide (p.1 = m)) with
  | some p => p.2
  | none => S.zero
def putA (l : List (Nat × α)) (m : Nat) (x : α) : List (Nat × α) := if l.any (fun p => decide (p.1 = m)) then l.map (fun p => if p.1 = m then (p.1, x) else p) else l ++ [(m, x)]
def addA (l : List (Nat × α)) (m : Nat) (y : α) : List (Nat × α) := putA l m (S.add (getA S l m) y)
def keysA (l : List (Nat × α)) : List Nat := l.map (·.1)
def dot (F : Nat → α) : List (Nat × α) → α
  | [] => S.zero
  | p :: t => S.add (S.mul p.2 (F p.1)) (dot F t)
theorem dot_app (F : Nat → α) : ∀ l k, dot S F (l ++ k) = S.add (dot S F l) (dot S F k)
  | [], k => (S.zero_add _).symm
  | p :: t, k => by
    show S.add _ (dot S F (t ++ k)) = S.add (S.add _ (dot S F t)) _
    rw [dot_app F t k, S.add_assoc]
theorem keys_put (l : List (Nat × α)) (m : Nat) (x : α) : keysA (putA l m x) = if m ∈ keysA l then keysA l else keysA l ++ [m] := by
  unfold putA
  by_cases h : (l.any fun p => decide (p.1 = m)) = true
  · have hm : m ∈ keysA l := by
      obtain ⟨p, hp, e⟩ := List.any_eq_true.mp h
      exact List.mem_map.mpr ⟨p, hp, of_decide_eq_true e⟩
    rw [if_pos h, if_pos hm]
    unfold keysA
    rw [List.map_map]
    refine List.map_congr_left fun p _ => ?_
    show (if p.1 = m then (p.1, x) else p).1 = p.1
    split <;> rfl
  · have hm : m ∉ keysA l := fun hm => by
      obtain ⟨p, hp, e⟩ := List.mem_map.mp hm
      exact h (List.any_eq_true.mpr ⟨p, hp, decide_eq_true e⟩)
    rw [if_neg h, if_neg hm]
    unfold keysA
    rw [List.map_append]
    rfl
theorem nodup_put {l : List (Nat × α)} (h : (keysA l).Nodup) (m : Nat) (x : α) : (keysA (putA l m x)).Nodup := by
  rw [keys_put]
  split
  · exact h
  · rename_i hm
    exact List.nodup_append.mpr ⟨h, by simp, fun a ha b hb e => hm (by rw [← List.mem_singleton.mp hb, ← e]; exact ha)⟩
theorem get_cons (p : Nat × α) (l : List (Nat × α)) (m : Nat) : getA S (p :: l) m = if p.1 = m then p.2 else getA S l m := by
  unfold getA
  by_cases e : p.1 = m
  · rw [if_pos e, List.find?_cons_of_pos (by rw [decide_eq_true e])]
  · rw [if_neg e, List.find?_cons_of_neg (by rw [decide_eq_false e]; decide)]
theorem get_none {l : List (Nat × α)} {m : Nat} (h : m ∉ keysA l) : getA S l m = S.zero := by
  induction l with
  | nil => rfl
  | cons p t ih =>
    rw [get_cons, if_neg (fun e => h (by rw [← e]; exact List.mem_cons_self ..)), ih fun e => h (List.mem_cons_of_mem _ e)]
theorem dot_set (F : Nat → α) {m : Nat} {y : α} : ∀ {l : List (Nat × α)}, (keysA l).Nodup → m ∈ keysA l → dot S F (l.map fun p => if p.1 = m then (p.1, S.add (getA S l m) y) else p) = S.add (dot S F l) (S.mul y (F m))
  | [], _, h => by cases h
  | p :: t, hn, hm => by
    obtain ⟨h1, h2⟩ := List.nodup_cons.mp (show (p.1 :: keysA t).Nodup from hn)
    rw [List.map_cons, get_cons]
    by_cases e : p.1 = m
    · rw [if_pos e, if_pos e]
      have ht : (t.map fun q => if q.1 = m then (q.1, S.add p.2 y) else q) = t := by
        refine (List.map_congr_left fun q hq => ?_).trans (List.map_id t)
        have : q.1 ≠ m := fun z => h1 (by rw [e, ← z]; exact List.mem_map.mpr ⟨q, hq, rfl⟩)
        rw [if_neg this]
        rfl
      rw [ht]
      show S.add (S.mul (S.add p.2 y) (F p.1)) (dot S F t) = S.add (S.add (S.mul p.2 (F p.1)) (dot S F t)) (S.mul y (F m))
      rw [S.add_mul, e, S.swap]
    · rw [if_neg e, if_neg e]
      have hm2 : m ∈ keysA t := by
        rcases List.mem_cons.mp (show m ∈ p.1 :: keysA t from hm) with z | z
        · exact absurd z.symm e
        · exact z
      show S.add (S.mul p.2 (F p.1)) (dot S F (t.map _)) = _
      rw [dot_set F h2 hm2, ← S.add_assoc]
      rfl
theorem dot_add (F : Nat → α) {l : List (Nat × α)} (hn : (keysA l).Nodup) (m : Nat) (y : α) : dot S F (addA S l m y) = S.add (dot S F l) (S.mul y (F m)) := by
  unfold addA putA
  by_cases h : (l.any fun p => decide (p.1 = m)) = true
  · have hm : m ∈ keysA l := by
      obtain ⟨p, hp, e⟩ := List.any_eq_true.mp h
      exact List.mem_map.mpr ⟨p, hp, of_decide_eq_true e⟩
    rw [if_pos h]
    exact dot_set S F hn hm
  · have hm : m ∉ keysA l := fun hm => by
      obtain ⟨p, hp, e⟩ := List.mem_map.mp hm
      exact h (List.any_eq_true.mpr ⟨p, hp, decide_eq_true e⟩)
    rw [if_neg h, get_none S hm, S.zero_add, dot_app]
    show S.add _ (S.add (S.mul y (F m)) S.zero) = _
    rw [S.add_zero]
/-- what becomes of a taken mask at a vertex -/
def chs (alone : α) (v m : Nat) (lk : List (Nat × α)) : List (Nat × α) := if m.testBit v then [(m ^^^ 2 ^ v, S.one)] else (m, alone) :: (lk.filter fun e => !m.testBit e.1).map fun e => (m ||| 2 ^ e.1, e.2)
def fill (x : α) (g cs : List (Nat × α)) : List (Nat × α) := cs.foldl (fun g c => addA S g c.1 (S.mul x c.2)) g
def stepT (alone : α) (v : Nat) (lk T : List (Nat × α)) : List (Nat × α) := T.foldl (fun g p => fill S p.2 g (chs S alone v p.1 lk)) []
theorem fill_nodup (x : α) : ∀ (cs g : List (Nat × α)), (keysA g).Nodup → (keysA (fill S x g cs)).Nodup
  | [], g, h => h
  | c :: cs, g, h => fill_nodup x cs _ (nodup_put h _ _)
theorem fill_dot (F : Nat → α) (x : α) : ∀ (cs g : List (Nat × α)), (keysA g).Nodup → dot S F (fill S x g cs) = S.add (dot S F g) (S.mul x (dot S F cs))
  | [], g, h => by
    show dot S F g = S.add (dot S F g) (S.mul x S.zero)
    rw [S.mul_zero, S.add_zero]
  | c :: cs, g, h => by
    have ih := fill_dot F x cs (addA S g c.1 (S.mul x c.2)) (nodup_put h _ _)
    show dot S F (fill S x (addA S g c.1 (S.mul x c.2)) cs) = _
    rw [ih, dot_add S F h]
    show _ = S.add (dot S F g) (S.mul x (S.add (S.mul c.2 (F c.1)) (dot S F cs)))
    rw [S.mul_add, ← S.mul_assoc, S.add_assoc]
theorem step_go (F : Nat → α) (alone : α) (v : Nat) (lk : List (Nat × α)) : ∀ (T g : List (Nat × α)), (keysA g).Nodup → (keysA (T.foldl (fun g p => fill S p.2 g (chs S alone v p.1 lk)) g)).Nodup ∧ dot S F (T.foldl (fun g p => fill S p.2 g (chs S alone v p.1 lk)) g) = S.add (dot S F g) (dot S (fun m => dot S F (chs S alone v m lk)) T)
  | [], g, h => ⟨h, (S.add_zero _).symm⟩
  | p :: T, g, h => by
    obtain ⟨h1, h2⟩ := step_go F alone v lk T (fill S p.2 g (chs S alone v p.1 lk)) (fill_nodup S p.2 _ _ h)
    refine ⟨h1, ?_⟩
    rw [List.foldl_cons, h2, fill_dot S F p.2 _ _ h, S.add_assoc]
    rfl
/-- the sum over all that is still to come -/
def Fr (alone : α) : List (List (Nat × α)) → Nat → Nat → α
  | [], _, m => if m = 0 then S.one else S.zero
  | lk :: rest, v, m => dot S (Fr alone rest (v + 1)) (chs S alone v m lk)
/-- the table behind the first vertices -/
def tabT (alone : α) (lks : List (List (Nat × α))) : Nat → List (Nat × α)
  | 0 => [(0, S.one)]
  | v + 1 => stepT S alone v (lks.getD v []) (tabT alone lks v)
theorem drop_getD {β : Type} {l : List β} {v : Nat} (h : v < l.length) (d : β) : l.drop v = l.getD v d :: l.drop (v + 1) := by
  rw [List.drop_eq_getElem_cons h, List.getD_eq_getElem?_getD, List.getElem?_eq_getElem h]
  rfl
theorem tab_dot (alone : α) (lks : List (List (Nat × α))) : ∀ v, v ≤ lks.length → (keysA (tabT S alone lks v)).Nodup ∧ dot S (Fr S alone (lks.drop v) v) (tabT S alone lks v) = Fr S alone lks 0 0
  | 0, _ => ⟨by simp [keysA, tabT], by
    show S.add (S.mul S.one (Fr S alone lks 0 0)) S.zero = _
    rw [S.add_zero, S.one_mul]⟩
  | v + 1, h => by
    obtain ⟨h1, h2⟩ := tab_dot alone lks v (by omega)
    obtain ⟨k1, k2⟩ := step_go S (Fr S alone (lks.drop (v + 1)) (v + 1)) alone v (lks.getD v []) (tabT S alone lks v) [] List.nodup_nil
    refine ⟨k1, ?_⟩
    show dot S _ (stepT S alone v _ _) = _
    unfold stepT
    rw [k2, ← h2, drop_getD (v := v) (show v < lks.length by omega) [], show dot S (Fr S alone (lks.drop (v + 1)) (v + 1)) [] = S.zero from rfl, S.zero_add]
    rfl
/-- masks without bits below v, below 2 ^ n -/
def KeyOk (v n : Nat) (m : Nat) : Prop := m < 2 ^ n ∧ ∀ i < v, m.testBit i = false
def LkOk (v n : Nat) (lk : List (Nat × α)) : Prop := ∀ e ∈ lk, v < e.1 ∧ e.1 < n
theorem chs_ok {alone : α} {v n m : Nat} {lk : List (Nat × α)} (hv : v < n) (h : KeyOk v n m) (hl : LkOk v n lk) : ∀ c ∈ chs S alone v m lk, KeyOk (v + 1) n c.1 := by
  intro c hc
  have pv : 2 ^ v < 2 ^ n := Nat.pow_lt_pow_right (by decide) hv
  unfold chs at hc
  split at hc
  · rename_i hb
    rw [List.mem_singleton.mp hc]
    refine ⟨Nat.xor_lt_two_pow h.1 pv, fun i hi => ?_⟩
    show (m ^^^ 2 ^ v).testBit i = false
    rw [Nat.testBit_xor, Nat.testBit_two_pow]
    by_cases e : v = i
    · subst e
      rw [hb, decide_eq_true rfl]
      rfl
    · rw [h.2 i (by omega), decide_eq_false e]
      rfl
  · rename_i hb
    rcases List.mem_cons.mp hc with rfl | hc
    · refine ⟨h.1, fun i hi => ?_⟩
      by_cases e : i = v
      · rw [e]
        exact Bool.eq_false_iff.mpr hb
      · exact h.2 i (by omega)
    · obtain ⟨e, he, rfl⟩ := List.mem_map.mp hc
      obtain ⟨e1, e2⟩ := hl e (List.mem_filter.mp he).1
      refine ⟨Nat.or_lt_two_pow h.1 (Nat.pow_lt_pow_right (by decide) e2), fun i hi => ?_⟩
      show (m ||| 2 ^ e.1).testBit i = false
      rw [Nat.testBit_or, Nat.testBit_two_pow, decide_eq_false (show ¬ e.1 = i by omega), Bool.or_false]
      by_cases z : i = v
      · rw [z]
        exact Bool.eq_false_iff.mpr hb
      · exact h.2 i (by omega)
theorem keys_fill (x : α) (P : Nat → Prop) : ∀ (cs g : List (Nat × α)), (∀ c ∈ cs, P c.1) → (∀ k ∈ keysA g, P k) → ∀ k ∈ keysA (fill S x g cs), P k
  | [], g, _, h, k, hk => h k hk
  | c :: cs, g, hc, h, k, hk => keys_fill x P cs (addA S g c.1 (S.mul x c.2)) (fun d hd => hc d (List.mem_cons_of_mem _ hd)) (fun j hj => by
      unfold addA at hj
      rw [keys_put] at hj
      split at hj
      · exact h j hj
      · rcases List.mem_append.mp hj with hj | hj
        · exact h j hj
        · rw [List.mem_singleton.mp hj]
          exact hc c (List.mem_cons_self ..)) k hk
theorem fill_ne (x : α) : ∀ (cs g : List (Nat × α)), (cs ≠ [] ∨ g ≠ []) → fill S x g cs ≠ []
  | [], g, h => h.resolve_left fun z => z rfl
  | c :: cs, g, _ => fill_ne x cs _ (.inr fun z => by
      have := congrArg keysA z
      unfold addA at this
      rw [keys_put] at this
      split at this
      · rename_i hm
        rw [this] at hm
        cases hm
      · simp [keysA] at this)
theorem chs_ne (alone : α) (v m : Nat) (lk : List (Nat × α)) : chs S alone v m lk ≠ [] := by
  unfold chs
  split <;> simp
theorem chs_len (alone : α) (v m : Nat) (lk : List (Nat × α)) : (chs S alone v m lk).length ≤ lk.length + 1 := by
  unfold chs
  split
  · simp
  · rw [List.length_cons, List.length_map]
    have := List.length_filter_le (fun e : Nat × α => !m.testBit e.1) lk
    omega
theorem tab_ok {alone : α} {n : Nat} {lks : List (List (Nat × α))} (hl : ∀ v < n, LkOk v n (lks.getD v [])) : ∀ v, v ≤ n → (∀ k ∈ keysA (tabT S alone lks v), KeyOk v n k) ∧ tabT S alone lks v ≠ []
  | 0, _ => ⟨fun k hk => by
      rw [List.mem_singleton.mp hk]
      exact ⟨Nat.two_pow_pos n, fun i hi => by omega⟩, by simp [tabT]⟩
  | v + 1, h => by
    obtain ⟨h1, h2⟩ := tab_ok hl v (by omega)
    have go : ∀ (T g : List (Nat × α)), (∀ k ∈ keysA T, KeyOk v n k) → (∀ k ∈ keysA g, KeyOk (v + 1) n k) → (T ≠ [] ∨ g ≠ []) → (∀ k ∈ keysA (T.foldl (fun g p => fill S p.2 g (chs S alone v p.1 (lks.getD v []))) g), KeyOk (v + 1) n k) ∧ T.foldl (fun g p => fill S p.2 g (chs S alone v p.1 (lks.getD v []))) g ≠ [] := by
      intro T
      induction T with
      | nil => exact fun g _ hg hne => ⟨hg, hne.resolve_left fun z => z rfl⟩
      | cons p T ih =>
        intro g hT hg _
        rw [List.foldl_cons]
        exact ih _ (fun k hk => hT k (List.mem_cons_of_mem _ hk)) (keys_fill S p.2 _ _ _ (chs_ok S (by omega) (hT p.1 (List.mem_cons_self ..)) (hl v (by omega))) hg) (.inr (fill_ne S p.2 _ _ (.inl (chs_ne S alone v p.1 _))))
    exact go _ [] h1 (fun k hk => by cases hk) (.inl h2)
/-- the last table has one sum -/
theorem tab_last {alone : α} {lks : List (List (Nat × α))} (hl : ∀ v < lks.length, LkOk v lks.length (lks.getD v [])) : tabT S alone lks lks.length = [(0, Fr S alone lks 0 0)] := by
  obtain ⟨h1, h2⟩ := tab_dot S alone lks lks.length (Nat.le_refl _)
  obtain ⟨k1, k2⟩ := tab_ok S (alone := alone) hl lks.length (Nat.le_refl _)
  have hz : ∀ k ∈ keysA (tabT S alone lks lks.length), k = 0 := fun k hk => by
    obtain ⟨a, b⟩ := k1 k hk
    refine Nat.eq_of_testBit_eq fun i => ?_
    rw [Nat.zero_testBit]
    by_cases hi : i < lks.length
    · exact b i hi
    · exact Nat.testBit_lt_two_pow (Nat.lt_of_lt_of_le a (Nat.pow_le_pow_right (by decide) (by omega)))
  generalize tabT S alone lks lks.length = T at *
  match T, k2 with
  | [p], _ =>
    have hp : p.1 = 0 := hz p.1 (List.mem_cons_self ..)
    rw [List.drop_length] at h2
    have h3 : S.add (S.mul p.2 (if p.1 = 0 then S.one else S.zero)) S.zero = Fr S alone lks 0 0 := h2
    rw [if_pos hp, S.mul_one, S.add_zero] at h3
    rw [← h3, ← hp]
  | p :: r :: t, _ =>
    have e1 := hz p.1 (List.mem_cons_self ..)
    have e2 := hz r.1 (List.mem_cons_of_mem _ (List.mem_cons_self ..))
    have := (List.nodup_cons.mp (show (p.1 :: r.1 :: keysA t).Nodup from h1)).1
    exact absurd (by rw [e1, e2]; exact List.mem_cons_self ..) this
end
end MT
namespace MT
section
variable {α : Type} (S : Sr α)
def sumF {β : Type} (f : β → α) : List β → α
  | [] => S.zero
  | x :: l => S.add (f x) (sumF f l)
section
variable {β : Type} {f g : β → α}
theorem sumF_app : ∀ l k : List β, sumF S f (l ++ k) = S.add (sumF S f l) (sumF S f k)
  | [], k => (S.zero_add _).symm
  | x :: l, k => by
    show S.add _ (sumF S f (l ++ k)) = S.add (S.add _ _) _
    rw [sumF_app l k, S.add_assoc]
theorem sumF_rev : ∀ l : List β, sumF S f l.reverse = sumF S f l
  | [] => rfl
  | x :: l => by
    rw [List.reverse_cons, sumF_app, sumF_rev l]
    show S.add _ (S.add (f x) S.zero) = S.add _ _
    rw [S.add_zero, S.add_comm]
theorem sumF_congr {l : List β} (h : ∀ x ∈ l, f x = g x) : sumF S f l = sumF S g l := by
  induction l with
  | nil => rfl
  | cons x l ih =>
    show S.add _ _ = S.add _ _
    rw [h x (List.mem_cons_self ..), ih fun y m => h y (List.mem_cons_of_mem _ m)]
theorem sumF_add (l : List β) : sumF S (fun x => S.add (f x) (g x)) l = S.add (sumF S f l) (sumF S g l) := by
  induction l with
  | nil => exact (S.add_zero _).symm
  | cons x l ih =>
    show S.add _ _ = S.add (S.add _ _) (S.add _ _)
    rw [ih]
    simp only [S.add_assoc]
    congr 1
    rw [← S.add_assoc, S.add_comm (g x), S.add_assoc]
theorem sumF_mul (a : α) (l : List β) : sumF S (fun x => S.mul a (f x)) l = S.mul a (sumF S f l) := by
  induction l with
  | nil => exact (S.mul_zero _).symm
  | cons x l ih =>
    show S.add _ _ = S.mul _ (S.add _ _)
    rw [ih, S.mul_add]
theorem sumF_zero (l : List β) : sumF S (fun _ => S.zero) l = S.zero := by
  induction l with
  | nil => rfl
  | cons x l ih =>
    show S.add _ _ = _
    rw [ih, S.add_zero]
end
abbrev Ed := Nat × Nat
/-- an edge that can be taken beside a mask -/
def usE (U : Nat) (e : Ed) : Bool := decide (e.1 ≠ e.2) && !U.testBit e.1 && !U.testBit e.2
def orE (U : Nat) (e : Ed) : Nat := U ||| 2 ^ e.1 ||| 2 ^ e.2
theorem tb_or2 (U a i : Nat) : (U ||| 2 ^ a).testBit i = (U.testBit i || decide (a = i)) := by
  rw [Nat.testBit_or, Nat.testBit_two_pow]
theorem tb_orE (U : Nat) (e : Ed) (i : Nat) : (orE U e).testBit i = (U.testBit i || decide (e.1 = i) || decide (e.2 = i)) := by
  unfold orE
  rw [tb_or2, tb_or2]
theorem orE_comm (U : Nat) (e f : Ed) : orE (orE U e) f = orE (orE U f) e := by
  refine Nat.eq_of_testBit_eq fun i => ?_
  rw [tb_orE, tb_orE, tb_orE, tb_orE]
  cases U.testBit i <;> cases decide (e.1 = i) <;> cases decide (e.2 = i) <;> cases decide (f.1 = i) <;> cases decide (f.2 = i) <;> rfl
theorem us_comm (U : Nat) (e f : Ed) : (usE U e && usE (orE U e) f) = (usE U f && usE (orE U f) e) := by
  unfold usE
  rw [tb_orE, tb_orE, tb_orE, tb_orE]
  have h1 : decide (e.1 = f.1) = decide (f.1 = e.1) := decide_eq_decide.mpr eq_comm
  have h2 : decide (e.2 = f.1) = decide (f.1 = e.2) := decide_eq_decide.mpr eq_comm
  have h3 : decide (e.1 = f.2) = decide (f.2 = e.1) := decide_eq_decide.mpr eq_comm
  have h4 : decide (e.2 = f.2) = decide (f.2 = e.2) := decide_eq_decide.mpr eq_comm
  rw [h1, h2, h3, h4]
  cases decide (e.1 ≠ e.2) <;> cases decide (f.1 ≠ f.2) <;> cases U.testBit e.1 <;> cases U.testBit e.2 <;> cases U.testBit f.1 <;> cases U.testBit f.2 <;> cases decide (f.1 = e.1) <;> cases decide (f.1 = e.2) <;> cases decide (f.2 = e.1) <;> cases decide (f.2 = e.2) <;> rfl
variable (X : α)
/-- the sum over all matchings beside a mask, each edge gives X -/
def Pl : List Ed → Nat → α
  | [], _ => S.one
  | e :: r, U => if usE U e = true then S.add (Pl r U) (S.mul X (Pl r (orE U e))) else Pl r U
def atV (v : Nat) (e : Ed) : Bool := decide (e.1 = v) || decide (e.2 = v)
theorem us_at {U v : Nat} {e : Ed} (h : atV v e = true) (hU : U.testBit v = true) : usE U e = false := by
  unfold atV at h
  unfold usE
  rcases Bool.or_eq_true_iff.mp h with h | h
  · rw [of_decide_eq_true h, hU]
    cases decide (v ≠ e.2) <;> rfl
  · rw [of_decide_eq_true h, hU]
    cases decide (e.1 ≠ v) <;> cases U.testBit e.1 <;> rfl
theorem or_at {U v : Nat} {e : Ed} (h : atV v e = true) : (orE U e).testBit v = true := by
  rw [tb_orE]
  unfold atV at h
  rw [Bool.or_assoc, h, Bool.or_true]
theorem us_not {U v : Nat} {e : Ed} (h : atV v e = false) : usE (U ||| 2 ^ v) e = usE U e := by
  unfold atV at h
  obtain ⟨h1, h2⟩ := Bool.or_eq_false_iff.mp h
  have h1' : decide (v = e.1) = false := by rw [← h1]; exact decide_eq_decide.mpr eq_comm
  have h2' : decide (v = e.2) = false := by rw [← h2]; exact decide_eq_decide.mpr eq_comm
  unfold usE
  rw [tb_or2, tb_or2, h1', h2', Bool.or_false, Bool.or_false]
theorem or_not (U v : Nat) (e : Ed) : orE (U ||| 2 ^ v) e = orE U e ||| 2 ^ v := by
  refine Nat.eq_of_testBit_eq fun i => ?_
  rw [tb_orE, tb_or2, tb_or2, tb_orE]
  cases U.testBit i <;> cases decide (e.1 = i) <;> cases decide (e.2 = i) <;> cases decide (v = i) <;> rfl
/-- the vertex stays alone, or one edge at it is taken -/
theorem Pl_at {v : Nat} : ∀ (r : List Ed) (U : Nat), U.testBit v = false → Pl S X r U = S.add (Pl S X r (U ||| 2 ^ v)) (sumF S (fun e => if (atV v e && usE U e) = true then S.mul X (Pl S X r (orE U e)) else S.zero) r)
  | [], U, _ => (S.add_zero _).symm
  | e0 :: r, U, hU => by
    have hv : (U ||| 2 ^ v).testBit v = true := by
      rw [tb_or2, decide_eq_true rfl, Bool.or_true]
    have ih := Pl_at r U hU
    show Pl S X (e0 :: r) U = S.add _ (S.add (if (atV v e0 && usE U e0) = true then S.mul X (Pl S X (e0 :: r) (orE U e0)) else S.zero) (sumF S _ r))
    by_cases ha : atV v e0 = true
    · have h1 : Pl S X (e0 :: r) (U ||| 2 ^ v) = Pl S X r (U ||| 2 ^ v) := by
        rw [Pl, us_at ha hv]
        rfl
      have h2 : sumF S (fun e => if (atV v e && usE U e) = true then S.mul X (Pl S X (e0 :: r) (orE U e)) else S.zero) r = sumF S (fun e => if (atV v e && usE U e) = true then S.mul X (Pl S X r (orE U e)) else S.zero) r := sumF_congr S fun e _ => by
        by_cases z : (atV v e && usE U e) = true
        · have hz := or_at (U := U) (Bool.and_eq_true_iff.mp z).1
          rw [if_pos z, if_pos z, Pl, us_at ha hz]
          rfl
        · rw [if_neg z, if_neg z]
      rw [h1, h2]
      by_cases hu : usE U e0 = true
      · rw [if_pos (by rw [ha, hu]; rfl)]
        have h3 : Pl S X (e0 :: r) (orE U e0) = Pl S X r (orE U e0) := by
          rw [Pl, us_at ha (or_at ha)]
          rfl
        rw [h3, Pl, if_pos hu, ih, S.add_assoc]
        congr 1
        rw [S.add_comm]
      · rw [if_neg (by rw [ha, Bool.true_and]; exact hu), Pl, if_neg hu, S.zero_add]
        exact ih
    · have ha := Bool.eq_false_iff.mpr ha
      rw [if_neg (by rw [ha]; simp), S.zero_add]
      by_cases hu : usE U e0 = true
      · have hO : (orE U e0).testBit v = false := by
          unfold atV at ha
          obtain ⟨a1, a2⟩ := Bool.or_eq_false_iff.mp ha
          rw [tb_orE, hU, a1, a2]
          rfl
        have ih2 := Pl_at r (orE U e0) hO
        have h1 : Pl S X (e0 :: r) (U ||| 2 ^ v) = S.add (Pl S X r (U ||| 2 ^ v)) (S.mul X (Pl S X r (orE U e0 ||| 2 ^ v))) := by
          rw [Pl, us_not ha, if_pos hu, or_not]
        have h2 : sumF S (fun e => if (atV v e && usE U e) = true then S.mul X (Pl S X (e0 :: r) (orE U e)) else S.zero) r = S.add (sumF S (fun e => if (atV v e && usE U e) = true then S.mul X (Pl S X r (orE U e)) else S.zero) r) (S.mul X (sumF S (fun e => if (atV v e && usE (orE U e0) e) = true then S.mul X (Pl S X r (orE (orE U e0) e)) else S.zero) r)) := by
          rw [← sumF_mul, ← sumF_add]
          refine sumF_congr S fun e _ => ?_
          have hc := us_comm U e e0
          rw [hu, Bool.true_and] at hc
          cases z1 : atV v e with
          | false => simp only [Bool.false_and, Bool.false_eq_true, if_false, S.mul_zero, S.add_zero]
          | true =>
            simp only [Bool.true_and]
            cases z2 : usE U e with
            | false =>
              rw [z2, Bool.false_and] at hc
              simp only [← hc, Bool.false_eq_true, if_false, S.mul_zero, S.add_zero]
            | true =>
              rw [z2, Bool.true_and] at hc
              rw [if_pos rfl, if_pos rfl, Pl, hc, orE_comm]
              split
              · rw [S.mul_add]
              · rw [S.mul_zero, S.add_zero]
        rw [h1, h2, Pl, if_pos hu, ih, ih2, S.mul_add]
        simp only [S.add_assoc]
        congr 1
        rw [← S.add_assoc, S.add_comm (sumF S _ r), S.add_assoc]
      · have h1 : Pl S X (e0 :: r) (U ||| 2 ^ v) = Pl S X r (U ||| 2 ^ v) := by
          rw [Pl, us_not ha, if_neg hu]
        have hu := Bool.eq_false_iff.mpr hu
        have h2 : sumF S (fun e => if (atV v e && usE U e) = true then S.mul X (Pl S X (e0 :: r) (orE U e)) else S.zero) r = sumF S (fun e => if (atV v e && usE U e) = true then S.mul X (Pl S X r (orE U e)) else S.zero) r := sumF_congr S fun e _ => by
          have hc := us_comm U e e0
          rw [hu, Bool.false_and] at hc
          by_cases z : (atV v e && usE U e) = true
          · rw [if_pos z, if_pos z, Pl]
            rw [(Bool.and_eq_true_iff.mp z).2, Bool.true_and] at hc
            rw [hc]
            rfl
          · rw [if_neg z, if_neg z]
        rw [h1, h2, Pl, hu]
        exact ih
/-! ### rows and edges -/
theorem dot_filter (F : Nat → α) (m : Nat) : ∀ lk : List (Nat × α), dot S F ((lk.filter fun e => !m.testBit e.1).map fun e => (m ||| 2 ^ e.1, e.2)) = dot S (fun k => if m.testBit k = true then S.zero else F (m ||| 2 ^ k)) lk
  | [] => rfl
  | e :: lk => by
    cases z : m.testBit e.1 with
    | true =>
      rw [List.filter_cons_of_neg (by rw [z]; decide), dot_filter F m lk]
      show _ = S.add (S.mul e.2 (if m.testBit e.1 = true then S.zero else _)) _
      rw [z, if_pos rfl, S.mul_zero, S.zero_add]
    | false =>
      rw [List.filter_cons_of_pos (by rw [z]; rfl), List.map_cons]
      show S.add (S.mul e.2 (F (m ||| 2 ^ e.1))) (dot S F _) = S.add (S.mul e.2 (if m.testBit e.1 = true then S.zero else _)) _
      rw [dot_filter F m lk, z]
      rfl
theorem fr_step (alone : α) (lks : List (List (Nat × α))) {v : Nat} (hv : v < lks.length) (m : Nat) : Fr S alone (lks.drop v) v m = if m.testBit v = true then Fr S alone (lks.drop (v + 1)) (v + 1) (m ^^^ 2 ^ v) else S.add (S.mul alone (Fr S alone (lks.drop (v + 1)) (v + 1) m)) (dot S (fun k => if m.testBit k = true then S.zero else Fr S alone (lks.drop (v + 1)) (v + 1) (m ||| 2 ^ k)) (lks.getD v [])) := by
  rw [drop_getD hv [], Fr, chs]
  split
  · show S.add (S.mul S.one _) S.zero = _
    rw [S.add_zero, S.one_mul]
  · show S.add (S.mul alone _) (dot S _ _) = _
    rw [dot_filter]
end
end MT
namespace MT
section
variable {α : Type} (S : Sr α)
/-- a further edge, merged into its row -/
def lnE (lks : List (List (Nat × α))) (e : Nat × Nat × α) : List (List (Nat × α)) := if e.1 = e.2.1 then lks else lks.set (min e.1 e.2.1) (addA S (lks.getD (min e.1 e.2.1) []) (max e.1 e.2.1) e.2.2)
theorem lnE_len (lks : List (List (Nat × α))) (e : Nat × Nat × α) : (lnE S lks e).length = lks.length := by
  unfold lnE
  split
  · rfl
  · rw [List.length_set]
theorem fold_nd (es : List (Nat × Nat × α)) : ∀ lks : List (List (Nat × α)), (∀ v, (keysA (lks.getD v [])).Nodup) → ∀ v, (keysA ((es.foldl (lnE S) lks).getD v [])).Nodup := by
  induction es with
  | nil => exact fun _ h => h
  | cons e es ih =>
    intro lks h
    refine ih _ fun v => ?_
    unfold lnE
    split
    · exact h v
    · by_cases z : min e.1 e.2.1 = v
      · subst z
        by_cases hl : min e.1 e.2.1 < lks.length
        · rw [List.getD_eq_getElem?_getD, List.getElem?_set_self hl]
          exact nodup_put (h _) _ _
        · rw [List.getD_eq_getElem?_getD, List.getElem?_set, if_pos rfl, if_neg hl]
          exact List.nodup_nil
      · rw [List.getD_eq_getElem?_getD, List.getElem?_set_ne z, ← List.getD_eq_getElem?_getD]
        exact h v
/-- a row's sum goes over the edges -/
theorem row_dot (F : Nat → α) {v : Nat} : ∀ (es : List (Nat × Nat × α)) (lks : List (List (Nat × α))), v < lks.length → (∀ w, (keysA (lks.getD w [])).Nodup) →
    dot S F ((es.foldl (lnE S) lks).getD v []) = S.add (dot S F (lks.getD v [])) (sumF S (fun e => if e.1 ≠ e.2.1 ∧ min e.1 e.2.1 = v then S.mul e.2.2 (F (max e.1 e.2.1)) else S.zero) es)
  | [], lks, _, _ => (S.add_zero _).symm
  | e :: es, lks, hv, h => by
    have hn := fold_nd S [e] lks h
    have hl : v < (lnE S lks e).length := by rw [lnE_len]; exact hv
    rw [List.foldl_cons, row_dot F es (lnE S lks e) hl hn]
    show _ = S.add _ (S.add (if e.1 ≠ e.2.1 ∧ min e.1 e.2.1 = v then S.mul e.2.2 (F (max e.1 e.2.1)) else S.zero) _)
    rw [← S.add_assoc]
    congr 1
    unfold lnE
    by_cases z : e.1 = e.2.1
    · rw [if_pos z, if_neg (fun q => q.1 z), S.add_zero]
    · rw [if_neg z]
      by_cases y : min e.1 e.2.1 = v
      · rw [if_pos ⟨z, y⟩, y, List.getD_eq_getElem?_getD, List.getElem?_set_self hv]
        exact dot_add S F (h v) _ _
      · rw [if_neg (fun q => y q.2), S.add_zero, List.getD_eq_getElem?_getD, List.getElem?_set_ne y, ← List.getD_eq_getElem?_getD]
def lnS (count : Nat) (es : List (Nat × Nat × α)) : List (List (Nat × α)) := es.foldl (lnE S) (List.replicate count [])
theorem lnS_len (count : Nat) (es : List (Nat × Nat × α)) : (lnS S count es).length = count := by
  have : ∀ (l : List (Nat × Nat × α)) (s : List (List (Nat × α))), (l.foldl (lnE S) s).length = s.length := fun l => by
    induction l with
    | nil => exact fun s => rfl
    | cons x l ih2 => exact fun s => (ih2 _).trans (lnE_len S s x)
  unfold lnS
  rw [this, List.length_replicate]
theorem lnS_dot (F : Nat → α) {count v : Nat} (hv : v < count) (es : List (Nat × Nat × α)) : dot S F ((lnS S count es).getD v []) = sumF S (fun e => if e.1 ≠ e.2.1 ∧ min e.1 e.2.1 = v then S.mul e.2.2 (F (max e.1 e.2.1)) else S.zero) es := by
  have e0 : ∀ w, (List.replicate count ([] : List (Nat × α))).getD w [] = [] := fun w => by
    rw [List.getD_eq_getElem?_getD, List.getElem?_replicate]
    split <;> rfl
  unfold lnS
  rw [row_dot S F es _ (by rw [List.length_replicate]; exact hv) (fun w => by rw [e0]; exact List.nodup_nil), e0]
  exact S.zero_add _
theorem sumF_map {β γ : Type} (f : γ → α) (g : β → γ) : ∀ l : List β, sumF S f (l.map g) = sumF S (fun x => f (g x)) l
  | [] => rfl
  | x :: l => by
    show S.add _ _ = S.add _ _
    rw [sumF_map f g l]
/-- all bits below v -/
def low (v : Nat) : Nat := 2 ^ v - 1
theorem low_tb (v i : Nat) : (low v).testBit i = decide (i < v) := Nat.testBit_two_pow_sub_one v i
variable (X : α)
/-- the program's sum over matchings goes over all sets of edges -/
theorem fr_pl {count : Nat} {es : List Ed} (hin : ∀ e ∈ es, e.1 < count ∧ e.2 < count) : ∀ (k v m : Nat), v + k = count → KeyOk v count m →
    Fr S S.one ((lnS S count (es.map fun e => (e.1, e.2, X))).drop v) v m = Pl S X es (low v ||| m)
  | 0, v, m, hv, hm => by
    have hv : v = count := by omega
    subst hv
    have m0 : m = 0 := Nat.eq_of_testBit_eq fun i => by
      rw [Nat.zero_testBit]
      by_cases hi : i < v
      · exact hm.2 i hi
      · exact Nat.testBit_lt_two_pow (Nat.lt_of_lt_of_le hm.1 (Nat.pow_le_pow_right (by decide) (by omega)))
    subst m0
    rw [List.drop_eq_nil_of_le (by rw [lnS_len]; exact Nat.le_refl _), Nat.or_zero]
    show S.one = _
    have : ∀ l : List Ed, (∀ e ∈ l, e.1 < v ∧ e.2 < v) → Pl S X l (low v) = S.one := fun l => by
      induction l with
      | nil => exact fun _ => rfl
      | cons e l ih =>
        intro h
        have hu : usE (low v) e = false := by
          unfold usE
          rw [low_tb, decide_eq_true (h e (List.mem_cons_self ..)).1]
          cases decide (e.1 ≠ e.2) <;> rfl
        rw [Pl, hu]
        exact ih fun f m => h f (List.mem_cons_of_mem _ m)
    exact (this es hin).symm
  | k + 1, v, m, hv, hm => by
    have hvc : v < count := by omega
    have ll := lnS_len S count (es.map fun e => (e.1, e.2, X))
    rw [fr_step S S.one _ (by omega) m]
    have ih := fr_pl hin k (v + 1)
    by_cases hb : m.testBit v = true
    · rw [if_pos hb]
      have hm2 : KeyOk (v + 1) count (m ^^^ 2 ^ v) := chs_ok S (alone := S.one) (lk := []) hvc hm (fun e h => by cases h) (m ^^^ 2 ^ v, S.one) (by unfold chs; rw [if_pos hb]; exact List.mem_cons_self ..)
      rw [ih _ (by omega) hm2]
      congr 1
      refine Nat.eq_of_testBit_eq fun i => ?_
      rw [Nat.testBit_or, Nat.testBit_or, Nat.testBit_xor, Nat.testBit_two_pow, low_tb, low_tb]
      by_cases e : v = i
      · subst e
        rw [hb, decide_eq_true (Nat.lt_succ_self v)]
        simp
      · rw [decide_eq_false e, Bool.xor_false]
        congr 1
        exact decide_eq_decide.mpr ⟨fun h => by omega, fun h => by omega⟩
    · rw [if_neg hb, S.one_mul]
      have hb := Bool.eq_false_iff.mpr hb
      have hU : (low v ||| m).testBit v = false := by
        rw [Nat.testBit_or, low_tb, hb, decide_eq_false (Nat.lt_irrefl v)]
        rfl
      rw [Pl_at S X es _ hU]
      have hm2 : KeyOk (v + 1) count m := ⟨hm.1, fun i hi => by
        by_cases e : i = v
        · rw [e]
          exact hb
        · exact hm.2 i (by omega)⟩
      have e1 : low v ||| m ||| 2 ^ v = low (v + 1) ||| m := by
        refine Nat.eq_of_testBit_eq fun i => ?_
        rw [tb_or2, Nat.testBit_or, Nat.testBit_or, low_tb, low_tb]
        by_cases e : v = i
        · subst e
          rw [decide_eq_true rfl, decide_eq_true (Nat.lt_succ_self v)]
          simp
        · rw [decide_eq_false e, Bool.or_false]
          congr 1
          exact decide_eq_decide.mpr ⟨fun h => by omega, fun h => by omega⟩
      rw [ih m (by omega) hm2, e1]
      congr 1
      rw [lnS_dot S _ hvc, sumF_map]
      refine sumF_congr S fun e he => ?_
      obtain ⟨b1, b2⟩ := hin e he
      have hmx : max e.1 e.2 < count := by omega
      by_cases c : e.1 ≠ e.2 ∧ min e.1 e.2 = v
      · obtain ⟨c1, c2⟩ := c
        rw [if_pos ⟨c1, c2⟩]
        have hat : atV v e = true := by
          unfold atV
          by_cases z : e.1 = v
          · rw [decide_eq_true z]
            rfl
          · rw [decide_eq_true (show e.2 = v by omega), Bool.or_true]
        have hus : usE (low v ||| m) e = !m.testBit (max e.1 e.2) := by
          unfold usE
          rw [Nat.testBit_or, Nat.testBit_or, low_tb, low_tb, decide_eq_true c1, decide_eq_false (show ¬ e.1 < v by omega), decide_eq_false (show ¬ e.2 < v by omega), Bool.true_and, Bool.false_or, Bool.false_or]
          by_cases z : e.1 = v
          · rw [z, hb, show max v e.2 = e.2 by omega]
            rfl
          · rw [show e.2 = v by omega, hb, show max e.1 v = e.1 by omega]
            cases m.testBit e.1 <;> rfl
        rw [hat, hus, Bool.true_and]
        cases z : m.testBit (max e.1 e.2) with
        | true => 
          simp only [if_true, Bool.not_true, Bool.false_eq_true, if_false]
          exact S.mul_zero _
        | false =>
          simp only [Bool.false_eq_true, if_false, Bool.not_false, if_true]
          congr 1
          have hm3 : KeyOk (v + 1) count (m ||| 2 ^ max e.1 e.2) := ⟨Nat.or_lt_two_pow hm.1 (Nat.pow_lt_pow_right (by decide) hmx), fun i hi => by
            rw [tb_or2, hm2.2 i hi, decide_eq_false (show ¬ max e.1 e.2 = i by omega)]
            rfl⟩
          rw [ih _ (by omega) hm3]
          congr 1
          refine Nat.eq_of_testBit_eq fun i => ?_
          rw [Nat.testBit_or, Nat.testBit_or, Nat.testBit_two_pow, tb_orE, Nat.testBit_or, low_tb, low_tb]
          have h5 : (i < v + 1 ∨ max e.1 e.2 = i) ↔ (i < v ∨ e.1 = i ∨ e.2 = i) := by omega
          cases m.testBit i with
          | true => simp
          | false =>
            simp only [Bool.false_or, Bool.or_false]
            rw [Bool.eq_iff_iff]
            simp only [Bool.or_eq_true, decide_eq_true_eq, or_assoc]
            exact h5
      · rw [if_neg c]
        have : (atV v e && usE (low v ||| m) e) = false := by
          cases z : atV v e && usE (low v ||| m) e with
          | false => rfl
          | true =>
            exfalso
            obtain ⟨z1, z2⟩ := Bool.and_eq_true_iff.mp z
            unfold atV at z1
            unfold usE at z2
            rw [Nat.testBit_or, Nat.testBit_or, low_tb, low_tb] at z2
            obtain ⟨z2, z4⟩ := Bool.and_eq_true_iff.mp z2
            obtain ⟨z2, z3⟩ := Bool.and_eq_true_iff.mp z2
            have h1 := of_decide_eq_true z2
            have h3 : ¬ e.1 < v := fun q => by rw [decide_eq_true q] at z3; simp at z3
            have h4 : ¬ e.2 < v := fun q => by rw [decide_eq_true q] at z4; simp at z4
            refine c ⟨h1, ?_⟩
            rcases Bool.or_eq_true_iff.mp z1 with q | q
            · have := of_decide_eq_true q
              omega
            · have := of_decide_eq_true q
              omega
        rw [this]
        rfl
end
end MT
/-! ### perfect matchings, by the least free vertex -/
namespace MT
section
variable {α : Type} (S : Sr α)
theorem step_go2 (F : Nat → α) (c : Nat → List (Nat × α)) : ∀ (T g : List (Nat × α)), (keysA g).Nodup → (keysA (T.foldl (fun g p => fill S p.2 g (c p.1)) g)).Nodup ∧ dot S F (T.foldl (fun g p => fill S p.2 g (c p.1)) g) = S.add (dot S F g) (dot S (fun m => dot S F (c m)) T)
  | [], g, h => ⟨h, (S.add_zero _).symm⟩
  | p :: T, g, h => by
    obtain ⟨h1, h2⟩ := step_go2 F c T (fill S p.2 g (c p.1)) (fill_nodup S p.2 _ _ h)
    refine ⟨h1, ?_⟩
    rw [List.foldl_cons, h2, fill_dot S F p.2 _ _ h, S.add_assoc]
    rfl
variable (n : Nat) (es : List (Nat × Nat × α))
/-- what is due for a set of taken vertices -/
def Rd (U : Nat) : α := Fr S S.zero (lnS S n es) 0 U
theorem skip {U : Nat} (hU : U < 2 ^ n) : ∀ v, v ≤ n → (∀ i < v, U.testBit i = true) → Rd S n es U = Fr S S.zero ((lnS S n es).drop v) v (U ^^^ low v)
  | 0, _, _ => by
    have : U ^^^ low 0 = U := by
      unfold low
      rw [Nat.pow_zero, Nat.sub_self, Nat.xor_zero]
    rw [this]
    rfl
  | v + 1, h, hb => by
    rw [skip hU v (by omega) (fun i hi => hb i (by omega)), fr_step S S.zero _ (by rw [lnS_len]; omega), if_pos (by rw [Nat.testBit_xor, low_tb, hb v (by omega), decide_eq_false (Nat.lt_irrefl v)]; rfl)]
    congr 1
    refine Nat.eq_of_testBit_eq fun i => ?_
    rw [Nat.testBit_xor, Nat.testBit_xor, Nat.testBit_xor, Nat.testBit_two_pow, low_tb, low_tb]
    by_cases e : v = i
    · subst e
      rw [decide_eq_true rfl, decide_eq_false (Nat.lt_irrefl v), decide_eq_true (Nat.lt_succ_self v)]
      cases U.testBit v <;> rfl
    · rw [decide_eq_false e, Bool.xor_false]
      congr 1
      exact decide_eq_decide.mpr ⟨fun h => by omega, fun h => by omega⟩
theorem Rd_full {U : Nat} (hU : U < 2 ^ n) (hb : ∀ i < n, U.testBit i = true) : Rd S n es U = S.one := by
  rw [skip S n es hU n (Nat.le_refl n) hb, List.drop_eq_nil_of_le (by rw [lnS_len]; exact Nat.le_refl _)]
  have : U ^^^ low n = 0 := Nat.eq_of_testBit_eq fun i => by
    rw [Nat.testBit_xor, low_tb, Nat.zero_testBit]
    by_cases h : i < n
    · rw [hb i h, decide_eq_true h]
      rfl
    · rw [decide_eq_false h, Nat.testBit_lt_two_pow (Nat.lt_of_lt_of_le hU (Nat.pow_le_pow_right (by decide) (by omega)))]
      rfl
  rw [Fr, if_pos this]
/-- an edge from the least free vertex to a free one -/
def cnd (v U : Nat) (e : Nat × Nat × α) : Bool := decide (e.1 ≠ e.2.1) && decide (min e.1 e.2.1 = v) && !U.testBit (max e.1 e.2.1)
def orD (U : Nat) (e : Nat × Nat × α) : Nat := U ||| 2 ^ e.1 ||| 2 ^ e.2.1
def cD (v U : Nat) : List (Nat × α) := (es.filter (cnd v U)).map fun e => (orD U e, e.2.2)
theorem dot_cD (F : Nat → α) (v U : Nat) : ∀ es : List (Nat × Nat × α), dot S F (cD es v U) = sumF S (fun e => if cnd v U e = true then S.mul e.2.2 (F (orD U e)) else S.zero) es
  | [] => rfl
  | e :: es => by
    have ih := dot_cD F v U es
    unfold cD at ih ⊢
    by_cases h : cnd v U e = true
    · rw [List.filter_cons_of_pos h, List.map_cons]
      show S.add _ (dot S F _) = S.add (if cnd v U e = true then _ else _) _
      rw [ih, if_pos h]
    · rw [List.filter_cons_of_neg h, ih]
      show _ = S.add (if cnd v U e = true then _ else _) _
      rw [if_neg h, S.zero_add]
theorem Rd_step (hin : ∀ e ∈ es, e.1 < n ∧ e.2.1 < n) {U v : Nat} (hU : U < 2 ^ n) (hv : v < n) (hb : ∀ i < v, U.testBit i = true) (hf : U.testBit v = false) : Rd S n es U = dot S (Rd S n es) (cD es v U) := by
  have hm : (U ^^^ low v).testBit v = false := by
    rw [Nat.testBit_xor, low_tb, hf, decide_eq_false (Nat.lt_irrefl v)]
    rfl
  rw [skip S n es hU v (by omega) hb, fr_step S S.zero _ (by rw [lnS_len]; exact hv), if_neg (by rw [hm]; decide), S.zero_mul, S.zero_add, lnS_dot S _ hv, dot_cD]
  refine sumF_congr S fun e he => ?_
  obtain ⟨h1, h2⟩ := hin e he
  unfold cnd
  by_cases z1 : e.1 = e.2.1
  · rw [if_neg (fun q => q.1 z1), decide_eq_false (fun q => q z1)]
    rfl
  · by_cases z2 : min e.1 e.2.1 = v
    · rw [if_pos ⟨z1, z2⟩, decide_eq_true z1, decide_eq_true z2]
      have hk : v < max e.1 e.2.1 := by omega
      have hkn : max e.1 e.2.1 < n := by omega
      have hmk : (U ^^^ low v).testBit (max e.1 e.2.1) = U.testBit (max e.1 e.2.1) := by
        rw [Nat.testBit_xor, low_tb, decide_eq_false (by omega), Bool.xor_false]
      rw [hmk]
      cases z3 : U.testBit (max e.1 e.2.1) with
      | true =>
        rw [if_pos rfl]
        show S.mul _ S.zero = _
        rw [S.mul_zero]
        rfl
      | false =>
        rw [if_neg (by decide)]
        show _ = S.mul e.2.2 _
        congr 1
        have eo : orD U e = U ||| 2 ^ v ||| 2 ^ (max e.1 e.2.1) := by
          refine Nat.eq_of_testBit_eq fun i => ?_
          unfold orD
          rw [Nat.testBit_or, Nat.testBit_or, Nat.testBit_or, Nat.testBit_or, Nat.testBit_two_pow, Nat.testBit_two_pow, Nat.testBit_two_pow, Nat.testBit_two_pow]
          by_cases hl : e.1 < e.2.1
          · have a1 : v = e.1 := by omega
            have a2 : max e.1 e.2.1 = e.2.1 := by omega
            rw [a1, a2]
          · have a1 : v = e.2.1 := by omega
            have a2 : max e.1 e.2.1 = e.1 := by omega
            rw [a1, a2, Bool.or_assoc, Bool.or_assoc, Bool.or_comm (decide (e.1 = i))]
        have p1 : 2 ^ v < 2 ^ n := Nat.pow_lt_pow_right (by decide) hv
        have p2 : 2 ^ (max e.1 e.2.1) < 2 ^ n := Nat.pow_lt_pow_right (by decide) hkn
        rw [eo, skip S n es (Nat.or_lt_two_pow (Nat.or_lt_two_pow hU p1) p2) (v + 1) hv (fun i hi => by
          rw [Nat.testBit_or, Nat.testBit_or, Nat.testBit_two_pow]
          by_cases q : v = i
          · rw [decide_eq_true q]
            simp
          · rw [hb i (by omega)]
            simp)]
        congr 1
        refine Nat.eq_of_testBit_eq fun i => ?_
        rw [Nat.testBit_xor, Nat.testBit_or, Nat.testBit_or, Nat.testBit_or, Nat.testBit_xor, Nat.testBit_two_pow, Nat.testBit_two_pow, low_tb, low_tb]
        rcases Nat.lt_trichotomy i v with q | q | q
        · rw [hb i q, decide_eq_true q, decide_eq_true (show i < v + 1 by omega), decide_eq_false (show ¬ max e.1 e.2.1 = i by omega)]
          cases decide (v = i) <;> rfl
        · subst q
          rw [hf, decide_eq_true rfl, decide_eq_false (Nat.lt_irrefl i), decide_eq_true (Nat.lt_succ_self i), decide_eq_false (show ¬ max e.1 e.2.1 = i by omega)]
          rfl
        · rw [decide_eq_false (show ¬ i < v by omega), decide_eq_false (show ¬ i < v + 1 by omega), decide_eq_false (show ¬ v = i by omega)]
          cases U.testBit i <;> cases decide (max e.1 e.2.1 = i) <;> rfl
    · rw [if_neg (fun q => z2 q.2), decide_eq_false z2, Bool.and_false]
      rfl
/-! bits of a set, and the least free vertex -/
def bitsM (n U : Nat) : List Nat := (List.range n).filter fun k => U.testBit k
def freeM (n U : Nat) : List Nat := (List.range n).filter fun k => !U.testBit k
theorem bits_succ (n U : Nat) : (bitsM (n + 1) U).length = (bitsM n U).length + if U.testBit n = true then 1 else 0 := by
  unfold bitsM
  rw [List.range_succ, List.filter_append, List.length_append]
  congr 1
  by_cases h : U.testBit n = true
  · rw [if_pos h, List.filter_cons_of_pos h]
    rfl
  · rw [if_neg h, List.filter_cons_of_neg h]
    rfl
theorem bits_le (n U : Nat) : (bitsM n U).length ≤ n := by
  have := List.length_filter_le (fun k => U.testBit k) (List.range n)
  rwa [List.length_range] at this
theorem bits_or {a U : Nat} (hf : U.testBit a = false) : ∀ n, (bitsM n (U ||| 2 ^ a)).length = (bitsM n U).length + if a < n then 1 else 0
  | 0 => by simp [bitsM]
  | n + 1 => by
    rw [bits_succ, bits_succ, bits_or hf n, Nat.testBit_or, Nat.testBit_two_pow]
    rcases Nat.lt_trichotomy a n with q | q | q
    · rw [if_pos q, if_pos (show a < n + 1 by omega), decide_eq_false (by omega), Bool.or_false]
      omega
    · subst q
      rw [if_neg (Nat.lt_irrefl a), if_pos (Nat.lt_succ_self a), hf, decide_eq_true rfl]
      simp
    · rw [decide_eq_false (show ¬ a = n by omega), Bool.or_false, if_neg (show ¬ a < n by omega), if_neg (show ¬ a < n + 1 by omega)]
      omega
theorem bits_all {U : Nat} : ∀ n, (bitsM n U).length = n → ∀ i < n, U.testBit i = true
  | 0, _, i, h => by omega
  | n + 1, h, i, hi => by
    rw [bits_succ] at h
    have := bits_le n U
    by_cases z : U.testBit n = true
    · rw [if_pos z] at h
      by_cases e : i = n
      · rw [e]
        exact z
      · exact bits_all n (by omega) i (by omega)
    · rw [if_neg z] at h
      omega
theorem free_ne {n U : Nat} (h : (bitsM n U).length < n) : freeM n U ≠ [] := fun z => by
  have : ∀ k ∈ List.range n, U.testBit k = true := fun k hk => by
    cases q : U.testBit k with
    | true => rfl
    | false =>
      have : k ∈ freeM n U := List.mem_filter.mpr ⟨hk, by rw [q]; rfl⟩
      rw [z] at this
      cases this
  have e : bitsM n U = List.range n := List.filter_eq_self.mpr this
  rw [e, List.length_range] at h
  omega
theorem free_head {n U a : Nat} {t : List Nat} (h : freeM n U = a :: t) : a < n ∧ U.testBit a = false ∧ ∀ i < a, U.testBit i = true := by
  have ha : a ∈ freeM n U := by rw [h]; exact List.mem_cons_self ..
  obtain ⟨h1, h2⟩ := List.mem_filter.mp ha
  have h1 := List.mem_range.mp h1
  have h3 : U.testBit a = false := by
    cases z : U.testBit a with
    | false => rfl
    | true =>
      rw [z] at h2
      cases h2
  refine ⟨h1, h3, fun i hi => ?_⟩
  cases z : U.testBit i with
  | true => rfl
  | false =>
    have hm : i ∈ freeM n U := List.mem_filter.mpr ⟨List.mem_range.mpr (by omega), by rw [z]; rfl⟩
    have hp : (freeM n U).Pairwise (· < ·) := List.Pairwise.filter _ List.pairwise_lt_range
    rw [h] at hm hp
    rcases List.mem_cons.mp hm with q | q
    · omega
    · have := (List.pairwise_cons.mp hp).1 i q
      omega
def lowF (n U : Nat) : Nat := (freeM n U).headD 0
def stepD (T : List (Nat × α)) : List (Nat × α) := T.foldl (fun g p => fill S p.2 g (cD es (lowF n p.1) p.1)) []
def tabD : Nat → List (Nat × α)
  | 0 => [(0, S.one)]
  | k + 1 => stepD S n es (tabD k)
theorem dot_congr {F G : Nat → α} : ∀ {T : List (Nat × α)}, (∀ p ∈ T, F p.1 = G p.1) → dot S F T = dot S G T
  | [], _ => rfl
  | p :: T, h => by
    show S.add _ _ = S.add _ _
    rw [h p (List.mem_cons_self ..), dot_congr fun q m => h q (List.mem_cons_of_mem _ m)]
theorem low_spec {n U : Nat} (h : (bitsM n U).length < n) : lowF n U < n ∧ U.testBit (lowF n U) = false ∧ ∀ i < lowF n U, U.testBit i = true := by
  match e : freeM n U, free_ne h with
  | a :: t, _ =>
    have : lowF n U = a := by
      unfold lowF
      rw [e]
      rfl
    rw [this]
    exact free_head e
theorem cD_ok (hin : ∀ e ∈ es, e.1 < n ∧ e.2.1 < n) {U : Nat} (hU : U < 2 ^ n) (h : (bitsM n U).length < n) : ∀ c ∈ cD es (lowF n U) U, c.1 < 2 ^ n ∧ (bitsM n c.1).length = (bitsM n U).length + 2 := fun c hc => by
  obtain ⟨l1, l2, l3⟩ := low_spec h
  obtain ⟨e, he, rfl⟩ := List.mem_map.mp hc
  obtain ⟨m1, m2⟩ := List.mem_filter.mp he
  obtain ⟨h1, h2⟩ := hin e m1
  unfold cnd at m2
  simp only [Bool.and_eq_true, decide_eq_true_eq, Bool.not_eq_true'] at m2
  obtain ⟨⟨k1, k2⟩, k3⟩ := m2
  have f1 : U.testBit e.1 = false := by
    by_cases q : e.1 < e.2.1
    · rw [show e.1 = lowF n U by omega]
      exact l2
    · rw [show e.1 = max e.1 e.2.1 by omega]
      exact k3
  have f2 : U.testBit e.2.1 = false := by
    by_cases q : e.1 < e.2.1
    · rw [show e.2.1 = max e.1 e.2.1 by omega]
      exact k3
    · rw [show e.2.1 = lowF n U by omega]
      exact l2
  have f3 : (U ||| 2 ^ e.1).testBit e.2.1 = false := by
    rw [Nat.testBit_or, f2, Nat.testBit_two_pow, decide_eq_false (by omega)]
    rfl
  refine ⟨Nat.or_lt_two_pow (Nat.or_lt_two_pow hU (Nat.pow_lt_pow_right (by decide) h1)) (Nat.pow_lt_pow_right (by decide) h2), ?_⟩
  show (bitsM n (U ||| 2 ^ e.1 ||| 2 ^ e.2.1)).length = _
  rw [bits_or f3, bits_or f1, if_pos h1, if_pos h2]
/-- the table behind k turns -/
theorem tabD_ok (hin : ∀ e ∈ es, e.1 < n ∧ e.2.1 < n) : ∀ k, 2 * k ≤ n → (keysA (tabD S n es k)).Nodup ∧ (∀ U ∈ keysA (tabD S n es k), U < 2 ^ n ∧ (bitsM n U).length = 2 * k) ∧ dot S (Rd S n es) (tabD S n es k) = Rd S n es 0
  | 0, _ => ⟨by simp [keysA, tabD], fun U hU => by
      rw [List.mem_singleton.mp hU]
      refine ⟨Nat.two_pow_pos n, ?_⟩
      have : bitsM n 0 = [] := List.filter_eq_nil_iff.mpr fun k _ => by
        rw [Nat.zero_testBit]
        decide
      rw [this]
      rfl, by
      show S.add (S.mul S.one (Rd S n es 0)) S.zero = _
      rw [S.add_zero, S.one_mul]⟩
  | k + 1, h => by
    obtain ⟨h1, h2, h3⟩ := tabD_ok hin k (by omega)
    obtain ⟨k1, k2⟩ := step_go2 S (Rd S n es) (fun U => cD es (lowF n U) U) (tabD S n es k) [] List.nodup_nil
    refine ⟨k1, ?_, ?_⟩
    · have go : ∀ (T g : List (Nat × α)), (∀ U ∈ keysA T, U < 2 ^ n ∧ (bitsM n U).length = 2 * k) → (∀ U ∈ keysA g, U < 2 ^ n ∧ (bitsM n U).length = 2 * (k + 1)) → ∀ U ∈ keysA (T.foldl (fun g p => fill S p.2 g (cD es (lowF n p.1) p.1)) g), U < 2 ^ n ∧ (bitsM n U).length = 2 * (k + 1) := by
        intro T
        induction T with
        | nil => exact fun g _ hg => hg
        | cons p T ih =>
          intro g hT hg
          rw [List.foldl_cons]
          refine ih _ (fun U hU => hT U (List.mem_cons_of_mem _ hU)) (keys_fill S p.2 (fun U => U < 2 ^ n ∧ (bitsM n U).length = 2 * (k + 1)) _ _ (fun c hc => ?_) hg)
          obtain ⟨a, b⟩ := hT p.1 (List.mem_cons_self ..)
          obtain ⟨c1, c2⟩ := cD_ok n es hin a (by omega) c hc
          exact ⟨c1, by omega⟩
      exact go _ [] h2 (fun U hU => by cases hU)
    · show dot S _ (stepD S n es _) = _
      unfold stepD
      rw [k2, ← h3, show dot S (Rd S n es) [] = S.zero from rfl, S.zero_add]
      refine dot_congr S fun p hp => ?_
      obtain ⟨a, b⟩ := h2 p.1 (List.mem_map.mpr ⟨p, hp, rfl⟩)
      obtain ⟨l1, l2, l3⟩ := low_spec (n := n) (U := p.1) (by omega)
      exact (Rd_step S n es hin a l1 l3 l2).symm
/-- the end, for an odd number of vertices: nothing -/
theorem tabD_odd (hin : ∀ e ∈ es, e.1 < n ∧ e.2.1 < n) (ho : n % 2 = 1) : Rd S n es 0 = S.zero := by
  obtain ⟨h1, h2, h3⟩ := tabD_ok S n es hin (n / 2) (by omega)
  rw [← h3]
  have : ∀ T : List (Nat × α), (∀ U ∈ keysA T, U < 2 ^ n ∧ (bitsM n U).length = 2 * (n / 2)) → dot S (Rd S n es) T = S.zero := fun T => by
    induction T with
    | nil => exact fun _ => rfl
    | cons p T ih =>
      intro h
      obtain ⟨a, b⟩ := h p.1 (List.mem_cons_self ..)
      obtain ⟨l1, l2, l3⟩ := low_spec (n := n) (U := p.1) (by omega)
      have hc : cD es (lowF n p.1) p.1 = [] := by
        match e : cD es (lowF n p.1) p.1 with
        | [] => rfl
        | c :: t =>
          obtain ⟨_, c2⟩ := cD_ok n es hin a (by omega) c (by rw [e]; exact List.mem_cons_self ..)
          have := bits_le n c.1
          omega
      show S.add (S.mul p.2 (Rd S n es p.1)) (dot S _ T) = _
      rw [ih fun U hU => h U (List.mem_cons_of_mem _ hU), Rd_step S n es hin a l1 l3 l2, hc]
      show S.add (S.mul p.2 S.zero) S.zero = _
      rw [S.mul_zero, S.add_zero]
  exact this _ h2
/-- the end, for an even number: one sum, or nothing -/
theorem tabD_even (hin : ∀ e ∈ es, e.1 < n ∧ e.2.1 < n) (he : n % 2 = 0) : (tabD S n es (n / 2) = [] ∧ Rd S n es 0 = S.zero) ∨ tabD S n es (n / 2) = [(low n, Rd S n es 0)] := by
  obtain ⟨h1, h2, h3⟩ := tabD_ok S n es hin (n / 2) (by omega)
  have hk : ∀ U ∈ keysA (tabD S n es (n / 2)), U = low n := fun U hU => by
    obtain ⟨a, b⟩ := h2 U hU
    refine Nat.eq_of_testBit_eq fun i => ?_
    rw [low_tb]
    by_cases hi : i < n
    · rw [bits_all n (by omega) i hi, decide_eq_true hi]
    · rw [decide_eq_false hi]
      exact Nat.testBit_lt_two_pow (Nat.lt_of_lt_of_le a (Nat.pow_le_pow_right (by decide) (by omega)))
  generalize tabD S n es (n / 2) = T at *
  match T with
  | [] => exact .inl ⟨rfl, h3.symm⟩
  | [p] =>
    refine .inr ?_
    have hp := hk p.1 (List.mem_cons_self ..)
    obtain ⟨a, b⟩ := h2 p.1 (List.mem_cons_self ..)
    have h3 : S.add (S.mul p.2 (Rd S n es p.1)) S.zero = Rd S n es 0 := h3
    rw [Rd_full S n es a (bits_all n (by omega)), S.mul_one, S.add_zero] at h3
    rw [← h3, ← hp]
  | p :: r :: t =>
    have e1 := hk p.1 (List.mem_cons_self ..)
    have e2 := hk r.1 (List.mem_cons_of_mem _ (List.mem_cons_self ..))
    have := (List.nodup_cons.mp (show (p.1 :: r.1 :: keysA t).Nodup from h1)).1
    exact absurd (by rw [e1, e2]; exact List.mem_cons_self ..) this
end
end MT
namespace KP
open PySem PySem.Spec PyProof.Rows L2 EXT SDT GXP AUG
open PM (Trm Ex canon mulT look put gather keys addTo pw one addE Canon)
def veB : List Value := [.type "ValueError", .type "Exception", .type "BaseException", .type "object"]
def topS (i : Nat) : Stmt := PySem.Challenge.pw_spinfield_k09_transfer.main.body.getD i (.Pass ⟨0, 0, 0, 0⟩)
abbrev s_polynomial : Stmt := topS 6
abbrev n_polynomial : List Str := ["terms", "found", "a", "b", "c"]
theorem sc_polynomial : FnScope n_polynomial ["terms"] (defScope s_polynomial) := ⟨rfl, rfl, rfl, by decide +kernel, rfl, by decide +kernel, by decide +kernel⟩
abbrev s_in_order : Stmt := topS 7
abbrev n_in_order : List Str := ["found", "pair"]
theorem sc_in_order : FnScope n_in_order ["found"] (defScope s_in_order) := ⟨rfl, rfl, rfl, by decide +kernel, rfl, by decide +kernel, by decide +kernel⟩
abbrev s_plus : Stmt := topS 8
abbrev n_plus : List Str := ["p", "q"]
theorem sc_plus : FnScope n_plus ["p", "q"] (defScope s_plus) := ⟨rfl, rfl, rfl, by decide +kernel, rfl, by decide +kernel, by decide +kernel⟩
abbrev s_times : Stmt := topS 9
abbrev n_times : List Str := ["p", "q", "found", "a", "b", "c", "d", "e", "f", "pair"]
theorem sc_times : FnScope n_times ["p", "q"] (defScope s_times) := ⟨rfl, rfl, rfl, by decide +kernel, rfl, by decide +kernel, by decide +kernel⟩
abbrev s_check_order : Stmt := topS 11
abbrev n_check_order : List Str := ["spins", "order"]
theorem sc_check_order : FnScope n_check_order ["spins", "order"] (defScope s_check_order) := ⟨rfl, rfl, rfl, by decide +kernel, rfl, by decide +kernel, by decide +kernel⟩
abbrev s_steps_along : Stmt := topS 12
abbrev n_steps_along : List Str := ["edges", "order", "places", "place", "vertex", "leaving", "backward", "index", "edge", "u", "v", "later", "other"]
theorem sc_steps_along : FnScope n_steps_along ["edges", "order"] (defScope s_steps_along) := ⟨rfl, rfl, rfl, by decide +kernel, rfl, by decide +kernel, by decide +kernel⟩
abbrev s_carried : Stmt := topS 13
abbrev n_carried : List Str := ["spins", "order", "start", "pay", "merge", "table", "front", "vertex", "edges", "leaving", "links", "staying", "place", "other", "grown", "key", "spin", "price", "j", "kept", "longer", "target"]
theorem sc_carried : FnScope n_carried ["spins", "order", "start", "pay", "merge"] (defScope s_carried) := ⟨rfl, rfl, rfl, by decide +kernel, rfl, by decide +kernel, by decide +kernel⟩
abbrev s_links : Stmt := topS 14
abbrev n_links : List Str := ["spins", "front", "vertex", "edges", "links", "index", "u", "v", "j"]
theorem sc_links : FnScope n_links ["spins", "front", "vertex", "edges"] (defScope s_links) := ⟨rfl, rfl, rfl, by decide +kernel, rfl, by decide +kernel, by decide +kernel⟩
abbrev s_sum_by_transfer : Stmt := topS 15
abbrev n_sum_by_transfer : List Str := ["spins", "order"]
theorem sc_sum_by_transfer : FnScope n_sum_by_transfer ["spins", "order"] (defScope s_sum_by_transfer) := ⟨rfl, rfl, rfl, by decide +kernel, rfl, by decide +kernel, by decide +kernel⟩
abbrev s_times_spin : Stmt := topS 16
abbrev n_times_spin : List Str := ["p", "_", "spin", "price"]
theorem sc_times_spin : FnScope n_times_spin ["p", "_", "spin", "price"] (defScope s_times_spin) := ⟨rfl, rfl, rfl, by decide +kernel, rfl, by decide +kernel, by decide +kernel⟩
abbrev s_least_by_transfer : Stmt := topS 17
abbrev n_least_by_transfer : List Str := ["spins", "order", "start"]
theorem sc_least_by_transfer : FnScope n_least_by_transfer ["spins", "order"] (defScope s_least_by_transfer) := ⟨rfl, rfl, rfl, by decide +kernel, rfl, by decide +kernel, by decide +kernel⟩
abbrev s_with_spin : Stmt := topS 18
abbrev n_with_spin : List Str := ["kept", "vertex", "spin", "price", "paid", "state"]
theorem sc_with_spin : FnScope n_with_spin ["kept", "vertex", "spin", "price"] (defScope s_with_spin) := ⟨rfl, rfl, rfl, by decide +kernel, rfl, by decide +kernel, by decide +kernel⟩
abbrev s_lesser : Stmt := topS 19
abbrev n_lesser : List Str := ["one", "other"]
theorem sc_lesser : FnScope n_lesser ["one", "other"] (defScope s_lesser) := ⟨rfl, rfl, rfl, by decide +kernel, rfl, by decide +kernel, by decide +kernel⟩
abbrev s_Spins_init : Stmt := inClass (topS 24) 0
abbrev n_Spins_init : List Str := ["self", "fields", "edges", "edge"]
theorem sc_Spins_init : FnScope n_Spins_init ["self", "fields", "edges"] (defScope s_Spins_init) := ⟨rfl, rfl, rfl, by decide +kernel, rfl, by decide +kernel, by decide +kernel⟩
abbrev s_check_fields : Stmt := topS 25
abbrev n_check_fields : List Str := ["fields", "field"]
theorem sc_check_fields : FnScope n_check_fields ["fields"] (defScope s_check_fields) := ⟨rfl, rfl, rfl, by decide +kernel, rfl, by decide +kernel, by decide +kernel⟩
abbrev s_check_edges : Stmt := topS 26
abbrev n_check_edges : List Str := ["edges", "count", "u", "v", "j", "before", "behind"]
theorem sc_check_edges : FnScope n_check_edges ["edges", "count"] (defScope s_check_edges) := ⟨rfl, rfl, rfl, by decide +kernel, rfl, by decide +kernel, by decide +kernel⟩
abbrev s_law_cell : Stmt := topS 28
abbrev n_law_cell : List Str := ["script", "k"]
theorem sc_law_cell : FnScope n_law_cell ["script", "k"] (defScope s_law_cell) := ⟨rfl, rfl, rfl, by decide +kernel, rfl, by decide +kernel, by decide +kernel⟩
abbrev s_law_mix : Stmt := topS 29
abbrev n_law_mix : List Str := ["cell", "k", "number"]
theorem sc_law_mix : FnScope n_law_mix ["cell", "k"] (defScope s_law_mix) := ⟨rfl, rfl, rfl, by decide +kernel, rfl, by decide +kernel, by decide +kernel⟩
abbrev s_law_row : Stmt := topS 30
abbrev n_law_row : List Str := ["cell", "count", "bound", "found", "rest", "k"]
theorem sc_law_row : FnScope n_law_row ["cell", "count", "bound"] (defScope s_law_row) := ⟨rfl, rfl, rfl, by decide +kernel, rfl, by decide +kernel, by decide +kernel⟩
abbrev s_law_tuples : Stmt := topS 31
abbrev n_law_tuples : List Str := ["thing", "part"]
theorem sc_law_tuples : FnScope n_law_tuples ["thing"] (defScope s_law_tuples) := ⟨rfl, rfl, rfl, by decide +kernel, rfl, by decide +kernel, by decide +kernel⟩
abbrev s_law_poly : Stmt := topS 32
abbrev n_law_poly : List Str := ["terms", "found", "key", "number"]
theorem sc_law_poly : FnScope n_law_poly ["terms"] (defScope s_law_poly) := ⟨rfl, rfl, rfl, by decide +kernel, rfl, by decide +kernel, by decide +kernel⟩
abbrev s_law_spins : Stmt := topS 35
abbrev n_law_spins : List Str := ["script", "first", "most", "kind", "count", "fields", "digit", "pairs", "u", "v", "edges", "digits", "k", "coupling"]
theorem sc_law_spins : FnScope n_law_spins ["script", "first", "most", "kind"] (defScope s_law_spins) := ⟨rfl, rfl, rfl, by decide +kernel, rfl, by decide +kernel, by decide +kernel⟩
abbrev s_law_states : Stmt := topS 36
abbrev n_law_states : List Str := ["count", "found", "k", "later", "state"]
theorem sc_law_states : FnScope n_law_states ["count"] (defScope s_law_states) := ⟨rfl, rfl, rfl, by decide +kernel, rfl, by decide +kernel, by decide +kernel⟩
abbrev s_law_cost : Stmt := topS 37
abbrev n_law_cost : List Str := ["fields", "edges", "state", "total", "k", "u", "v", "coupling"]
theorem sc_law_cost : FnScope n_law_cost ["fields", "edges", "state"] (defScope s_law_cost) := ⟨rfl, rfl, rfl, by decide +kernel, rfl, by decide +kernel, by decide +kernel⟩
abbrev s_law_sum : Stmt := topS 38
abbrev n_law_sum : List Str := ["fields", "edges", "state"]
theorem sc_law_sum : FnScope n_law_sum ["fields", "edges"] (defScope s_law_sum) := ⟨rfl, rfl, rfl, by decide +kernel, rfl, by decide +kernel, by decide +kernel⟩
abbrev s_law_order : Stmt := topS 39
abbrev n_law_order : List Str := ["cell", "count", "left", "found", "digit"]
theorem sc_law_order : FnScope n_law_order ["cell", "count"] (defScope s_law_order) := ⟨rfl, rfl, rfl, by decide +kernel, rfl, by decide +kernel, by decide +kernel⟩
abbrev s_law_refused : Stmt := topS 40
abbrev n_law_refused : List Str := ["spins", "order", "question", "e"]
theorem sc_law_refused : FnScope n_law_refused ["spins", "order", "question"] (defScope s_law_refused) := ⟨rfl, rfl, rfl, by decide +kernel, rfl, by decide +kernel, by decide +kernel⟩
abbrev s_law : Stmt := topS 41
abbrev n_law : List Str := ["script", "fields", "edges", "spins", "order", "wrong", "copy", "whole", "pairs", "state", "told"]
theorem sc_law : FnScope n_law ["script"] (defScope s_law) := ⟨rfl, rfl, rfl, by decide +kernel, rfl, by decide +kernel, by decide +kernel⟩
structure Top (K : PySem.W.Frag) (mg : Str → Option Value) : Type where
  f_polynomial : Addr
  d_polynomial : FuncData
  F_polynomial : Fun K "polynomial" "polynomial" s_polynomial f_polynomial d_polynomial
  b_polynomial : Binds K d_polynomial ["terms"] []
  g_polynomial : mg "polynomial" = some (.ref f_polynomial)
  f_in_order : Addr
  d_in_order : FuncData
  c_in_order : Addr
  P_in_order : Addr
  F_in_order : FunC K "_in_order" "_in_order" s_in_order f_in_order d_in_order c_in_order
  b_in_order : Binds K d_in_order ["found"] []
  g_in_order : mg "_in_order" = some (.ref f_in_order)
  f_plus : Addr
  d_plus : FuncData
  F_plus : Fun K "plus" "plus" s_plus f_plus d_plus
  b_plus : Binds K d_plus ["p", "q"] []
  g_plus : mg "plus" = some (.ref f_plus)
  f_times : Addr
  d_times : FuncData
  F_times : Fun K "times" "times" s_times f_times d_times
  b_times : Binds K d_times ["p", "q"] []
  g_times : mg "times" = some (.ref f_times)
  f_check_order : Addr
  d_check_order : FuncData
  F_check_order : Fun K "check_order" "check_order" s_check_order f_check_order d_check_order
  b_check_order : Binds K d_check_order ["spins", "order"] []
  g_check_order : mg "check_order" = some (.ref f_check_order)
  f_steps_along : Addr
  d_steps_along : FuncData
  F_steps_along : Fun K "steps_along" "steps_along" s_steps_along f_steps_along d_steps_along
  b_steps_along : Binds K d_steps_along ["edges", "order"] []
  g_steps_along : mg "steps_along" = some (.ref f_steps_along)
  f_carried : Addr
  d_carried : FuncData
  c_carried : Addr
  P_carried : Addr
  F_carried : FunC K "carried" "carried" s_carried f_carried d_carried c_carried
  b_carried : Binds K d_carried ["spins", "order", "start", "pay", "merge"] []
  g_carried : mg "carried" = some (.ref f_carried)
  f_links : Addr
  d_links : FuncData
  F_links : Fun K "_links" "_links" s_links f_links d_links
  b_links : Binds K d_links ["spins", "front", "vertex", "edges"] []
  g_links : mg "_links" = some (.ref f_links)
  f_sum_by_transfer : Addr
  d_sum_by_transfer : FuncData
  F_sum_by_transfer : Fun K "sum_by_transfer" "sum_by_transfer" s_sum_by_transfer f_sum_by_transfer d_sum_by_transfer
  b_sum_by_transfer : Binds K d_sum_by_transfer ["spins", "order"] []
  g_sum_by_transfer : mg "sum_by_transfer" = some (.ref f_sum_by_transfer)
  f_times_spin : Addr
  d_times_spin : FuncData
  F_times_spin : Fun K "_times_spin" "_times_spin" s_times_spin f_times_spin d_times_spin
  b_times_spin : Binds K d_times_spin ["p", "_", "spin", "price"] []
  g_times_spin : mg "_times_spin" = some (.ref f_times_spin)
  f_least_by_transfer : Addr
  d_least_by_transfer : FuncData
  F_least_by_transfer : Fun K "least_by_transfer" "least_by_transfer" s_least_by_transfer f_least_by_transfer d_least_by_transfer
  b_least_by_transfer : Binds K d_least_by_transfer ["spins", "order"] []
  g_least_by_transfer : mg "least_by_transfer" = some (.ref f_least_by_transfer)
  f_with_spin : Addr
  d_with_spin : FuncData
  F_with_spin : Fun K "_with_spin" "_with_spin" s_with_spin f_with_spin d_with_spin
  b_with_spin : Binds K d_with_spin ["kept", "vertex", "spin", "price"] []
  g_with_spin : mg "_with_spin" = some (.ref f_with_spin)
  f_lesser : Addr
  d_lesser : FuncData
  F_lesser : Fun K "_lesser" "_lesser" s_lesser f_lesser d_lesser
  b_lesser : Binds K d_lesser ["one", "other"] []
  g_lesser : mg "_lesser" = some (.ref f_lesser)
  f_check_fields : Addr
  d_check_fields : FuncData
  c_check_fields : Addr
  P_check_fields : Addr
  F_check_fields : FunC K "_check_fields" "_check_fields" s_check_fields f_check_fields d_check_fields c_check_fields
  b_check_fields : Binds K d_check_fields ["fields"] []
  g_check_fields : mg "_check_fields" = some (.ref f_check_fields)
  f_check_edges : Addr
  d_check_edges : FuncData
  F_check_edges : Fun K "_check_edges" "_check_edges" s_check_edges f_check_edges d_check_edges
  b_check_edges : Binds K d_check_edges ["edges", "count"] []
  g_check_edges : mg "_check_edges" = some (.ref f_check_edges)
  f_law_cell : Addr
  d_law_cell : FuncData
  F_law_cell : Fun K "_law_cell" "_law_cell" s_law_cell f_law_cell d_law_cell
  b_law_cell : Binds K d_law_cell ["script", "k"] []
  g_law_cell : mg "_law_cell" = some (.ref f_law_cell)
  f_law_mix : Addr
  d_law_mix : FuncData
  F_law_mix : Fun K "_law_mix" "_law_mix" s_law_mix f_law_mix d_law_mix
  b_law_mix : Binds K d_law_mix ["cell", "k"] []
  g_law_mix : mg "_law_mix" = some (.ref f_law_mix)
  f_law_row : Addr
  d_law_row : FuncData
  F_law_row : Fun K "_law_row" "_law_row" s_law_row f_law_row d_law_row
  b_law_row : Binds K d_law_row ["cell", "count", "bound"] []
  g_law_row : mg "_law_row" = some (.ref f_law_row)
  f_law_tuples : Addr
  d_law_tuples : FuncData
  F_law_tuples : Fun K "_law_tuples" "_law_tuples" s_law_tuples f_law_tuples d_law_tuples
  b_law_tuples : Binds K d_law_tuples ["thing"] []
  g_law_tuples : mg "_law_tuples" = some (.ref f_law_tuples)
  f_law_poly : Addr
  d_law_poly : FuncData
  F_law_poly : Fun K "_law_poly" "_law_poly" s_law_poly f_law_poly d_law_poly
  b_law_poly : Binds K d_law_poly ["terms"] []
  g_law_poly : mg "_law_poly" = some (.ref f_law_poly)
  f_law_spins : Addr
  d_law_spins : FuncData
  F_law_spins : Fun K "_law_spins" "_law_spins" s_law_spins f_law_spins d_law_spins
  b_law_spins : Binds K d_law_spins ["script", "first", "most", "kind"] []
  g_law_spins : mg "_law_spins" = some (.ref f_law_spins)
  f_law_states : Addr
  d_law_states : FuncData
  F_law_states : Fun K "_law_states" "_law_states" s_law_states f_law_states d_law_states
  b_law_states : Binds K d_law_states ["count"] []
  g_law_states : mg "_law_states" = some (.ref f_law_states)
  f_law_cost : Addr
  d_law_cost : FuncData
  F_law_cost : Fun K "_law_cost" "_law_cost" s_law_cost f_law_cost d_law_cost
  b_law_cost : Binds K d_law_cost ["fields", "edges", "state"] []
  g_law_cost : mg "_law_cost" = some (.ref f_law_cost)
  f_law_sum : Addr
  d_law_sum : FuncData
  F_law_sum : Fun K "_law_sum" "_law_sum" s_law_sum f_law_sum d_law_sum
  b_law_sum : Binds K d_law_sum ["fields", "edges"] []
  g_law_sum : mg "_law_sum" = some (.ref f_law_sum)
  f_law_order : Addr
  d_law_order : FuncData
  F_law_order : Fun K "_law_order" "_law_order" s_law_order f_law_order d_law_order
  b_law_order : Binds K d_law_order ["cell", "count"] []
  g_law_order : mg "_law_order" = some (.ref f_law_order)
  f_law_refused : Addr
  d_law_refused : FuncData
  F_law_refused : Fun K "_law_refused" "_law_refused" s_law_refused f_law_refused d_law_refused
  b_law_refused : Binds K d_law_refused ["spins", "order", "question"] []
  g_law_refused : mg "_law_refused" = some (.ref f_law_refused)
  f_ONE : Addr
  g_ONE : mg "ONE" = some (.ref f_ONE)
  k_ONE : ∀ H, PolyAt K H f_ONE PM.one
  t_MOST_VERTICES : Tok
  g_MOST_VERTICES : mg "MOST_VERTICES" = some (.int 12 t_MOST_VERTICES)
  t_MOST_EDGES : Tok
  g_MOST_EDGES : mg "MOST_EDGES" = some (.int 24 t_MOST_EDGES)
  t_MOST_SIZE : Tok
  g_MOST_SIZE : mg "MOST_SIZE" = some (.int 9 t_MOST_SIZE)
  f_FieldError : Addr
  g_FieldError : mg "FieldError" = some (.ref f_FieldError)
  q_FieldError : PySem.W.excIn K f_FieldError veB "ValueError.__new__" = true
  k_FieldError : PySem.W.keepIn K (.ref f_FieldError) = true
  b_FieldError : PySem.W.subIn K (.ref f_FieldError) (.type "BaseException") = some true
  y_FieldError : PySem.W.typeIn K (.ref f_FieldError) = some (.type "type")
  f_InvalidSpins : Addr
  g_InvalidSpins : mg "InvalidSpins" = some (.ref f_InvalidSpins)
  q_InvalidSpins : PySem.W.excIn K f_InvalidSpins veB "ValueError.__new__" = true
  k_InvalidSpins : PySem.W.keepIn K (.ref f_InvalidSpins) = true
  b_InvalidSpins : PySem.W.subIn K (.ref f_InvalidSpins) (.type "BaseException") = some true
  y_InvalidSpins : PySem.W.typeIn K (.ref f_InvalidSpins) = some (.type "type")
  f_InvalidOrder : Addr
  g_InvalidOrder : mg "InvalidOrder" = some (.ref f_InvalidOrder)
  q_InvalidOrder : PySem.W.excIn K f_InvalidOrder veB "ValueError.__new__" = true
  k_InvalidOrder : PySem.W.keepIn K (.ref f_InvalidOrder) = true
  b_InvalidOrder : PySem.W.subIn K (.ref f_InvalidOrder) (.type "BaseException") = some true
  y_InvalidOrder : PySem.W.typeIn K (.ref f_InvalidOrder) = some (.type "type")
  C_Spins : Addr
  g_Spins : mg "Spins" = some (.ref C_Spins)
  cl_Spins : Cls K C_Spins
  f_Spins_init : Addr
  d_Spins_init : FuncData
  c_Spins_init : Addr
  P_Spins_init : Addr
  F_Spins_init : FunC K "__init__" "Spins.__init__" s_Spins_init f_Spins_init d_Spins_init c_Spins_init
  b_Spins_init : Binds K d_Spins_init ["self", "fields", "edges"] []
  mk_Spins : Mk K C_Spins f_Spins_init
  na_Spins_fields : NoAttr K C_Spins "fields"
  na_Spins_edges : NoAttr K C_Spins "edges"
  m_abs : mg "abs" = none
  m_all : mg "all" = none
  m_bool : mg "bool" = none
  m_enumerate : mg "enumerate" = none
  m_int : mg "int" = none
  m_isinstance : mg "isinstance" = none
  m_len : mg "len" = none
  m_list : mg "list" = none
  m_max : mg "max" = none
  m_min : mg "min" = none
  m_range : mg "range" = none
  m_sorted : mg "sorted" = none
  m_sum : mg "sum" = none
  m_tuple : mg "tuple" = none
  m_zip : mg "zip" = none
  xm : PySem.W.exmOne K (.ref f_InvalidOrder) (.ref f_FieldError) = some true
  ki : PySem.W.kitOne K (.ref f_InvalidOrder) (.ref f_InvalidOrder) = some true
  ec : ExcC K f_InvalidOrder
structure Tb {K : PySem.W.Frag} {mg : Str → Option Value} (T : Top K mg) (base : Heap) : Prop where
  t_in_order : LamX.TabB base mg T.c_in_order T.P_in_order
  t_carried : LamX.TabB base mg T.c_carried T.P_carried
  t_Spins_init : LamX.TabB base mg T.c_Spins_init T.P_Spins_init
  t_check_fields : LamX.TabB base mg T.c_check_fields T.P_check_fields
/-- the tables stand -/
structure Tg {K : PySem.W.Frag} {mg : Str → Option Value} (T : Top K mg) (H : Hp) : Prop where
  t_in_order : GxR.TabG H T.P_in_order
  t_carried : GxR.TabG H T.P_carried
  t_Spins_init : GxR.TabG H T.P_Spins_init
  t_check_fields : GxR.TabG H T.P_check_fields
theorem Tg.ext {K : PySem.W.Frag} {mg : Str → Option Value} {T : Top K mg} {H H1 : Hp} (G : Tg T H) (s : Ext H H1) : Tg T H1 := ⟨s.tab G.t_in_order, s.tab G.t_carried, s.tab G.t_Spins_init, s.tab G.t_check_fields⟩
theorem sl2 : (2 : Nat) ≤ sizeLine := by rw [sizeLine_eq]; decide
theorem sl_of {n : Nat} (h : n ≤ 1000000) : n ≤ sizeLine := by rw [sizeLine_eq]; omega
theorem sl_lt {n : Nat} (h : n < 1000000) : n < sizeLine := by rw [sizeLine_eq]; omega
end KP
namespace KP
open PySem PySem.Spec PyProof.Rows L2 EXT SDT GXP AUG
open PM (Trm Ex canon mulT look put gather keys addTo pw one addE Canon)
section
variable {P : Program} {w : World} {K : PySem.W.Frag} {mg : Str → Option Value} {base : Heap}
/-- // by a divisor that is not 0, below 2 ^ 9000 -/
def CDivZ (_ j : Int) : Prop := j ≠ 0 ∧ j.natAbs.log2 < 9000
theorem op_fdivZ {X : Cx} : OpR X (binaryOp .FloorDiv) (rI CDivZ fun i j => .int (i.fdiv j)) := opI fun i j _ _ _ _ _ hc q =>
  floordiv_int hc.1 q (.inl (PyProof.noPylong_of_log2 hc.2))
theorem same_upd {H : Hp} {p : Addr} {o : HO} (h : H p = none) : Same H (upd H p o) := fun b x e => by
  rw [upd_ne (ne_of_none e h)]
  exact e
theorem _root_.L2.Same.tup {K : PySem.W.Frag} {H H' : Hp} {a : Addr} {xs : List V} (e : Same H H') (h : SqT K H a xs) : SqT K H' a xs := e.ext.tup h
theorem take_snoc {α : Type} {l : List α} {i : Nat} {x : α} (h : l[i]? = some x) : l.take (i + 1) = l.take i ++ [x] := by
  rw [List.take_add_one, h]
  rfl
theorem _root_.L2.FunC.okX {x qual : Str} {st : Stmt} {f c : Addr} {fd : FuncData} {N ps : List Str} {k : Nat} {sp : Sp} (F : FunC K x qual st f fd c) (S : FnScope N ps (defScope st)) (len : ∀ vs H Q E, sp vs H Q E → vs.length = ps.length)
    (hbody : ∀ (A : Around) (outer : List Env) (s : Shared) (H : Hp) (vs : List V) (Q : VK) (E : XK), Room k (A.deeper (envOfC qual (defScope st) s.heap.objs.size f (.ref c))) → sp vs H Q E →
      ∃ t, PSs (cxOf (L2.CX P w) P w K mg base N qual (defScope st) f (.ref c) A outer s H E) (defBody st) t ∧ t { nx := fun _ H' => Q .non H', rt := Q } (start N vs) H) :
    FnOk P w K mg base (L2.CX P w) (k + 1) f fd ps sp := by
  obtain ⟨oc, od, kV, doc, pm, an, ct, osl, e, lk, hcd⟩ := F.ex
  subst e
  exact fn_of lk hcd S len fun A outer s H vs Q E hr hsp => hbody A outer s H vs Q E hr hsp
theorem iteB {c : Bool} {A B : Prop} (h1 : c = true → A) (h2 : c = false → B) : if c = true then A else B := by
  cases c
  · exact iteF (h2 rfl)
  · exact iteT (h1 rfl)
/-- fields as they may be -/
def goodF (fs : List Int) : Prop := 1 ≤ fs.length ∧ fs.length ≤ 12 ∧ ∀ f ∈ fs, -9 ≤ f ∧ f ≤ 9
def spFields (T : Top K mg) : Sp := fun vs H Q E => ∃ (a : Addr) (fs : List Int), vs = [.ref a] ∧ SqT K H a (fs.map V.int) ∧ Tg T H ∧
  (goodF fs → ∀ H', Ext H H' → Q .non H') ∧ (¬ goodF fs → ∀ H', Ext H H' → E (.ref T.f_InvalidSpins) none H')
theorem ok_check_fields (T : Top K mg) (B : Tb T base) : FnOk P w K mg base (L2.CX P w) 2 T.f_check_fields T.d_check_fields ["fields"] (spFields T) := by
  refine T.F_check_fields.okX sc_check_fields (fun vs H Q E h => ?_) (fun A outer s H vs Q E hr h => ?_)
  · obtain ⟨a, fs, rfl, _⟩ := h
    rfl
  · obtain ⟨a, fs, rfl, ha, G, q1, q2⟩ := h
    refine ⟨_, (pss_cons (ps_if (pt_not (pt_chain op_le op_le pe_int (pe_callB call_len_seq (by rfl) T.m_len (by decide +kernel) (pa_cons (pv 0) pa_nil)) (pe_glob (v := .int 12) (by rfl) T.g_MOST_VERTICES ⟨_, rfl⟩))) (pss_one (ps_raise rfl (takes_of rfl rfl rfl rfl) (pmk_own PySem.F.excBase_ValueError T.q_InvalidSpins T.g_InvalidSpins T.k_InvalidSpins (raises_own T.b_InvalidSpins T.y_InvalidSpins) (by rfl)))) pss_nil)
      (pss_one (ps_if (pt_not (pt_val (GXP.pe_allGx (own := [("field", 1)]) (g := gName 1) (tt := tYes) (k := 0) (c := T.c_check_fields) (P := T.P_check_fields) (by rfl) T.m_all ⟨hr.mono (by decide), rfl, B.t_check_fields, rfl, rfl, blkOk_by (own := [("field", 1)]) (N := n_check_fields) (sc := defScope s_check_fields) (by decide +kernel), sc_check_fields.nd, by decide +kernel, rfl, (pi_tup (pv 0)), fun A s H C cl code bi fp hrA => (pg_name (i := 1) sc_check_fields.nd rfl (by first | exact .inl rfl | exact .inr rfl)), fun A s H C cl code bi fp hrA => pts_nil, fun A s H C cl code bi fp hrA => (pe_chain op_le op_le (pe_un un_neg (pe_glob (v := .int 9) (by rfl) T.g_MOST_SIZE ⟨_, rfl⟩)) (pv 1) (pe_glob (v := .int 9) (by rfl) T.g_MOST_SIZE ⟨_, rfl⟩)), fun _ => rfl⟩))) (pss_one (ps_raise rfl (takes_of rfl rfl rfl rfl) (pmk_own PySem.F.excBase_ValueError T.q_InvalidSpins T.g_InvalidSpins T.k_InvalidSpins (raises_own T.b_InvalidSpins T.y_InvalidSpins) (by rfl)))) pss_nil))), ?_⟩
    have hl : (fs.map V.int).length = fs.length := List.length_map _
    have bad : ¬ goodF fs → ∀ H', Ext H H' → E (.ref T.f_InvalidSpins) none H' := q2
    refine ⟨_, rfl, a, _, rfl, .inr ha, _, _, rfl, rfl, _, rfl, ite2 (fun e1 => ?_) (fun e1 => ?_)⟩
    · have e1 : 1 ≤ fs.length := by
        have := of_decide_eq_true e1
        rw [hl] at this
        omega
      refine ⟨_, _, rfl, rfl, _, rfl, iteB (fun e2 => ?_) (fun e2 => ?_)⟩
      · have e2 : ¬ fs.length ≤ 12 := fun z => by
          have e3 : (12 : Int) < fs.length := by simpa using e2
          omega
        exact bad (fun g => e2 g.2.1) H (Ext.refl H)
      · have e2 : fs.length ≤ 12 := by
          have : decide (((fs.map V.int).length : Int) ≤ 12) = true := by simpa using e2
          have := of_decide_eq_true this
          rw [hl] at this
          omega
        refine ⟨_, rfl, a, rfl, ⟨_, ha⟩, G.t_check_fields, fun H2 t2 => ?_⟩
        have x2 : Ext H H2 := ext_tabbed G.t_check_fields t2
        refine gx_tup (xs := fs.map V.int) (fun i zs H3 => H3 = H2 ∧ ∀ f ∈ fs.take i, -9 ≤ f ∧ f ≤ 9) ⟨rfl, fun f m => by simp at m⟩ (fun i zs H3 _ h => by rw [h.1]; exact x2.tup ha) (fun i x zs H3 hi hP => ?_) (fun zs H3 hP => ?_)
        · obtain ⟨rfl, hz⟩ := hP
          rw [List.getElem?_map] at hi
          cases hf : fs[i]? with
          | none => rw [hf] at hi; cases hi
          | some f =>
            rw [hf] at hi
            cases hi
            have hm := List.mem_of_getElem? hf
            have take1 : fs.take (i + 1) = fs.take i ++ [f] := by rw [List.take_add_one, hf]; rfl
            refine ⟨rfl, _, rfl, _, rfl, _, _, rfl, rfl, _, rfl, ite2 (fun e3 => ?_) (fun e3 => ?_)⟩
            · have e3 := of_decide_eq_true e3
              refine ⟨_, _, rfl, rfl, _, rfl, ?_⟩
              by_cases e4 : f ≤ 9
              · rw [decide_eq_true e4, if_neg (by decide)]
                refine ⟨rfl, fun g m => ?_⟩
                rw [take1] at m
                rcases List.mem_append.mp m with m | m
                · exact hz g m
                · rw [List.mem_singleton.mp m]
                  exact ⟨e3, e4⟩
              · rw [decide_eq_false e4, if_pos rfl]
                exact ⟨_, rfl, iteT (bad (fun g => e4 (g.2.2 f hm).2) _ x2)⟩
            · have e3 : ¬ -9 ≤ f := fun z => e3 (decide_eq_true z)
              refine ⟨_, rfl, ?_⟩
              rw [if_pos rfl]
              exact ⟨_, rfl, iteT (bad (fun g => e3 (g.2.2 f hm).1) _ x2)⟩
        · obtain ⟨rfl, hz⟩ := hP
          rw [hl, List.take_length] at hz
          exact ⟨_, rfl, iteF (q1 ⟨e1, e2, hz⟩ _ x2)⟩
    · have e1 : ¬ 1 ≤ fs.length := fun z => e1 (decide_eq_true (by rw [hl]; omega))
      exact ⟨_, rfl, iteT (bad (fun g => e1 g.1) H (Ext.refl H))⟩
/-- an edge, as a tuple of three ints -/
abbrev Eg := Int × Int × Int
def EdgeAt (K : PySem.W.Frag) (H : Hp) (v : V) (e : Eg) : Prop := ∃ a, v = .ref a ∧ SqT K H a [.int e.1, .int e.2.1, .int e.2.2]
def okE (n : Int) (e : Eg) : Prop := 0 ≤ e.1 ∧ e.1 < e.2.1 ∧ e.2.1 < n ∧ e.2.2 ≠ 0 ∧ -9 ≤ e.2.2 ∧ e.2.2 ≤ 9
def ltEg (x y : Eg) : Prop := x.1 < y.1 ∨ (x.1 = y.1 ∧ x.2.1 < y.2.1)
def goodE (n : Int) (es : List Eg) : Prop := es.length ≤ 24 ∧ (∀ e ∈ es, okE n e) ∧ ∀ i x y, es[i]? = some x → es[i + 1]? = some y → ltEg x y
def spEdges (T : Top K mg) : Sp := fun vs H Q E => ∃ (a : Addr) (xs : List V) (es : List Eg) (n : Int), vs = [.ref a, .int n] ∧ SqT K H a xs ∧ Paired (EdgeAt K H) xs es ∧ es.length < 1000000 ∧
  (goodE n es → ∀ H', Ext H H' → Q .non H') ∧ (¬ goodE n es → ∀ H', Ext H H' → E (.ref T.f_InvalidSpins) none H')
theorem cut2 {x y z : V} : ¬ (HT.sIx [x, y, z].length 0 none = 0 ∧ HT.sIx [x, y, z].length [x, y, z].length (some 2) = [x, y, z].length) := fun w => by
  have h := w.2
  rw [show (some (2 : Int)) = some ((2 : Nat) : Int) from rfl, HT.sIx_nat] at h
  simp at h
theorem ok_check_edges (T : Top K mg) : FnOk P w K mg base (L2.CX P w) 1 T.f_check_edges T.d_check_edges ["edges", "count"] (spEdges T) := by
  refine T.F_check_edges.okX sc_check_edges (fun vs H Q E h => ?_) (fun cdv A outer s H vs Q E hr h => ?_)
  · obtain ⟨a, xs, es, n, rfl, _⟩ := h
    rfl
  · obtain ⟨a, xs, es, n, rfl, ha, hes, hlen, q1, q2⟩ := h
    refine ⟨_, (pss_cons (ps_if (pt_cmpR op_gt (pe_callB call_len_seq (by rfl) T.m_len (by decide +kernel) (pa_cons (pv 0) pa_nil)) (pe_glob (v := .int 24) (by rfl) T.g_MOST_EDGES ⟨_, rfl⟩) (nomark _)) (pss_one (ps_raise rfl (takes_of rfl rfl rfl rfl) (pmk_own PySem.F.excBase_ValueError T.q_InvalidSpins T.g_InvalidSpins T.k_InvalidSpins (raises_own T.b_InvalidSpins T.y_InvalidSpins) (by rfl)))) pss_nil)
      (pss_cons (ps_for (passes_of rfl) rfl (pi_tup (pv 0)) (pg_tup rfl (pgs_cons (pg_name (i := 2) sc_check_edges.nd rfl (by first | exact .inl rfl | exact .inr rfl)) (pgs_cons (pg_name (i := 3) sc_check_edges.nd rfl (by first | exact .inl rfl | exact .inr rfl)) (pgs_cons (pg_name (i := 4) sc_check_edges.nd rfl (by first | exact .inl rfl | exact .inr rfl)) pgs_nil)))) (pss_cons (ps_if (pt_not (pt_chain3 op_le op_lt op_lt pe_int (pv 2) (pv 3) (pv 1))) (pss_one (ps_raise rfl (takes_of rfl rfl rfl rfl) (pmk_own PySem.F.excBase_ValueError T.q_InvalidSpins T.g_InvalidSpins T.k_InvalidSpins (raises_own T.b_InvalidSpins T.y_InvalidSpins) (by rfl)))) pss_nil)
      (pss_one (ps_if (PW.pt (pw_or (pt_cmpR op_eq (pv 4) pe_int (nomark _)) (pw_or1 (pt_not (pt_chain op_le op_le (pe_un un_neg (pe_glob (v := .int 9) (by rfl) T.g_MOST_SIZE ⟨_, rfl⟩)) (pv 4) (pe_glob (v := .int 9) (by rfl) T.g_MOST_SIZE ⟨_, rfl⟩)))))) (pss_one (ps_raise rfl (takes_of rfl rfl rfl rfl) (pmk_own PySem.F.excBase_ValueError T.q_InvalidSpins T.g_InvalidSpins T.k_InvalidSpins (raises_own T.b_InvalidSpins T.y_InvalidSpins) (by rfl)))) pss_nil))))
      (pss_one (ps_for (passes_of rfl) rfl (RZ.pi_zipA (by rfl) T.m_zip (pa_cons (pv 0) (pa_cons (pe_slice sl_tupA (pv 0) (po_some pe_int) po_none) pa_nil))) (pg_tup rfl (pgs_cons (pg_name (i := 5) sc_check_edges.nd rfl (by first | exact .inl rfl | exact .inr rfl)) (pgs_cons (pg_name (i := 6) sc_check_edges.nd rfl (by first | exact .inl rfl | exact .inr rfl)) pgs_nil))) (pss_one (ps_if (pt_cmpR (op_geP (Nat.lt_of_le_of_lt (Nat.le_add_right _ _) hr.units)) (pe_slice sl_tupA (pv 5) po_none (po_some pe_int)) (pe_slice sl_tupA (pv 6) po_none (po_some pe_int)) (nomark _)) (pss_one (ps_raise rfl (takes_of rfl rfl rfl rfl) (pmk_own PySem.F.excBase_ValueError T.q_InvalidSpins T.g_InvalidSpins T.k_InvalidSpins (raises_own T.b_InvalidSpins T.y_InvalidSpins) (by rfl)))) pss_nil)))))), ?_⟩
    have bad : ¬ goodE n es → ∀ H', Ext H H' → E (.ref T.f_InvalidSpins) none H' := q2
    have hl := hes.length
    refine ⟨_, rfl, a, _, rfl, .inr ha, _, _, rfl, rfl, _, rfl, ite2 (fun e1 => ?_) (fun e1 => ?_)⟩
    · have e1 := of_decide_eq_true e1
      exact bad (fun g => by have := g.1; omega) H (Ext.refl H)
    have el24 : es.length ≤ 24 := by
      have : ¬ (24 : Int) < (xs.length : Int) := fun z => e1 (decide_eq_true z)
      omega
    refine ⟨_, rfl, a, rfl, ⟨_, ha⟩, for_tup (xs := xs) (fun i σ H1 => (∃ x1 x2 x3, σ = [some (.ref a), some (.int n), x1, x2, x3, none, none]) ∧ Ext H H1 ∧ ∀ e ∈ es.take i, okE n e) ⟨⟨_, _, _, rfl⟩, Ext.refl H, fun e m => by simp at m⟩ (fun i σ H1 _ h => h.2.1.tup ha) (fun i x σ H1 hi hP => ?_) (fun σ H1 hP => ?_)⟩
    · obtain ⟨⟨x1, x2, x3, rfl⟩, s1, hok⟩ := hP
      obtain ⟨⟨u, v, j⟩, hei, a1, rfl, h1⟩ := paired_at hes hi
      have hm := List.mem_of_getElem? hei
      have take1 : es.take (i + 1) = es.take i ++ [(u, v, j)] := by rw [List.take_add_one, hei]; rfl
      have bade : ¬ okE n (u, v, j) → E (.ref T.f_InvalidSpins) none H1 := fun z => bad (fun g => z (g.2.1 _ hm)) H1 s1
      refine ⟨a1, _, rfl, s1.tup h1, rfl, _, _, rfl, _, _, rfl, _, _, rfl, rfl, ?_⟩
      refine ⟨_, rfl, _, _, rfl, rfl, _, rfl, ite2 (fun b1 => ?_) (fun b1 => ?_)⟩
      · have b1 : 0 ≤ u := of_decide_eq_true b1
        refine ⟨_, rfl, _, _, rfl, rfl, _, rfl, ite2 (fun b2 => ?_) (fun b2 => ?_)⟩
        · have b2 : u < v := of_decide_eq_true b2
          refine ⟨_, rfl, _, _, rfl, rfl, _, rfl, ?_⟩
          by_cases b3 : v < n
          · rw [decide_eq_true b3]
            refine iteF ?_
            refine ⟨_, rfl, rfl, _, rfl, ?_⟩
            by_cases b4 : j = 0
            · subst b4
              refine iteT (iteT (bade fun z => z.2.2.2.1 rfl))
            · have d4 : decide (V.int j = V.int 0) = false := decide_eq_false fun z => b4 (V.int.inj z)
              rw [d4]
              refine iteF ?_
              refine ⟨_, rfl, _, rfl, _, _, rfl, rfl, _, rfl, ite2 (fun b5 => ?_) (fun b5 => ?_)⟩
              · have b5 : -9 ≤ j := of_decide_eq_true b5
                refine ⟨_, _, rfl, rfl, _, rfl, ?_⟩
                by_cases b6 : j ≤ 9
                · rw [decide_eq_true b6]
                  refine iteF ⟨⟨_, _, _, rfl⟩, s1, fun e m => ?_⟩
                  rw [take1] at m
                  rcases List.mem_append.mp m with m | m
                  · exact hok e m
                  · rw [List.mem_singleton.mp m]
                    exact ⟨b1, b2, b3, b4, b5, b6⟩
                · rw [decide_eq_false b6]
                  exact iteT (bade fun z => b6 z.2.2.2.2.2)
              · have b5 : ¬ -9 ≤ j := fun z => b5 (decide_eq_true z)
                exact ⟨_, rfl, iteT (bade fun z => b5 z.2.2.2.2.1)⟩
          · rw [decide_eq_false b3]
            exact iteT (bade fun z => b3 z.2.2.1)
        · have b2 : ¬ u < v := fun z => b2 (decide_eq_true z)
          exact ⟨_, rfl, iteT (bade fun z => b2 z.2.1)⟩
      · have b1 : ¬ 0 ≤ u := fun z => b1 (decide_eq_true z)
        exact ⟨_, rfl, iteT (bade fun z => b1 z.1)⟩
    · obtain ⟨⟨x1, x2', x3, rfl⟩, s1, hok⟩ := hP
      rw [hl, List.take_length] at hok
      -- the pairs ascend
      refine ⟨_, rfl, _, rfl, 1, rfl, a, xs, rfl, s1.tup ha, fun hw => ?_, fun hw p hp => ?_⟩
      · have z0 : xs.length = 0 := by
          have h1 := hw.1
          rw [show (some (1 : Int)) = some ((1 : Nat) : Int) from rfl, HT.sIx_nat] at h1
          omega
        obtain rfl := List.length_eq_zero_iff.mp z0
        refine ⟨a, a, [], [], rfl, .inr ⟨s1.tup ha, s1.tup ha, for_zipM (Nat.le_refl _) (fun i σ H3 => Ext H1 H3) (Ext.refl _) (fun i σ H3 h => ⟨(s1.trans h).tup ha, (s1.trans h).tup ha⟩) (fun i x y T' σ H3 hx => by simp at hx) (fun σ H3 h => ?_)⟩⟩
        refine q1 ⟨el24, hok, fun i x y hx => ?_⟩ H3 (s1.trans h)
        have : es.length = 0 := by rw [← hl]; exact z0
        obtain rfl := List.length_eq_zero_iff.mp this
        simp at hx
      · have ec : cutV xs (some 1) none = xs.drop 1 := by
          unfold cutV
          rw [show (some (1 : Int)) = some ((1 : Nat) : Int) from rfl, HT.sIx_nat, HT.sIx_none]
          by_cases z : xs.length = 0
          · obtain rfl := List.length_eq_zero_iff.mp z
            rfl
          · have z1 : min 1 xs.length = 1 := by omega
            rw [z1]
            refine List.take_of_length_le ?_
            rw [List.length_drop]
            exact Nat.le_refl _
        rw [ec]
        have x2 : Ext H1 (upd H1 p (.tup (xs.drop 1))) := ext_upd hp
        have hb : SqT K (upd H1 p (.tup (xs.drop 1))) p (xs.drop 1) := SqT.of upd_same
        generalize upd H1 p (.tup (xs.drop 1)) = H2 at *
        have s2 := s1.trans x2
        refine ⟨a, p, xs, xs.drop 1, rfl, .inr ⟨s2.tup ha, hb, for_zipM (by rw [List.length_drop]; omega) (fun i σ H3 => (∃ w1 w2, σ = [some (.ref a), some (.int n), x1, x2', x3, w1, w2]) ∧ Ext H2 H3 ∧ ∀ k x y, k < i → es[k]? = some x → es[k + 1]? = some y → ltEg x y)
          ⟨⟨_, _, rfl⟩, Ext.refl _, fun k x y hk => absurd hk (by omega)⟩ (fun i σ H3 h => ⟨(s2.trans h.2.1).tup ha, h.2.1.tup hb⟩) (fun i x y T' σ H3 hx hy hP hT => ?_) (fun σ H3 hP => ?_)⟩⟩
        · obtain ⟨⟨w1, w2, rfl⟩, s3, hlt⟩ := hP
          rw [List.getElem?_drop] at hy
          obtain ⟨⟨u, v, j⟩, hex, a1, rfl, g1⟩ := paired_at hes hx
          obtain ⟨⟨u', v', j'⟩, hey, a2, rfl, g2⟩ := paired_at hes hy
          have hey : es[i + 1]? = some (u', v', j') := by rw [Nat.add_comm]; exact hey
          have s4 : Ext H (upd H3 T' (.tup [.ref a1, .ref a2])) := (s2.trans s3).new hT
          have s5 : Ext H2 (upd H3 T' (.tup [.ref a1, .ref a2])) := s3.new hT
          refine ⟨T', _, rfl, SqT.of upd_same, rfl, _, _, rfl, _, _, rfl, rfl, ?_⟩
          generalize upd H3 T' (.tup [.ref a1, .ref a2]) = H4 at *
          refine ⟨_, rfl, 2, rfl, a1, _, rfl, s4.tup g1, fun w => absurd w cut2, fun _ p1 hp1 => ?_⟩
          have s6 := s4.new (o := .tup (cutV [V.int u, .int v, .int j] none (some 2))) hp1
          refine ⟨_, rfl, 2, rfl, a2, _, rfl, s6.tup g2, fun w => absurd w cut2, fun _ p2 hp2 => ?_⟩
          have s7 := s6.new (o := .tup (cutV [V.int u', .int v', .int j'] none (some 2))) hp2
          refine ⟨p1, p2, (u, v), (u', v'), rfl, rfl, SqT.of ((ext_upd hp2).at upd_same), SqT.of upd_same, _, rfl, iteB (fun z => ?_) (fun z => ?_)⟩
          · have z : geP (u, v) (u', v') = true := z
            refine bad (fun g => ?_) _ s7
            have h1 := g.2.2 i _ _ hex hey
            have h2 : SrtO.lexB (u, v) (u', v') = true := SrtO.lexB_iff.mpr h1
            unfold geP at z
            rw [h2] at z
            cases z
          · have z : geP (u, v) (u', v') = false := z
            refine ⟨⟨_, _, rfl⟩, (s5.new hp1).new hp2, fun k x y hk hkx hky => ?_⟩
            by_cases ek : k = i
            · subst ek
              rw [hex] at hkx
              rw [hey] at hky
              cases hkx
              cases hky
              refine (SrtO.lexB_iff (p := (u, v)) (q := (u', v'))).mp ?_
              unfold geP at z
              simpa using z
            · exact hlt k x y (by omega) hkx hky
        · obtain ⟨⟨w1, w2, rfl⟩, s3, hlt⟩ := hP
          refine q1 ⟨el24, hok, fun i x y hx hy => hlt i x y ?_ hx hy⟩ H3 (s2.trans s3)
          have := (List.getElem?_eq_some_iff.mp hy).1
          rw [List.length_drop]
          omega
/-- tuple(x) of a list, a tuple -/
def rTupOf (K : PySem.W.Frag) : List V → Hp → VK → Prop := fun xs H Q => ∃ p ys, xs = [.ref p] ∧ ((SqL K H p ys ∧ ∀ l, H l = none → Q (.ref l) (upd H l (.tup ys))) ∨ (SqT K H p ys ∧ Q (.ref p) H))
/-- a list or a tuple at a -/
abbrev Sq (K : PySem.W.Frag) (H : Hp) (a : Addr) (xs : List V) : Prop := SqL K H a xs ∨ SqT K H a xs
theorem _root_.EXT.Ext.sq {H H' : Hp} (s : Ext H H') {a : Addr} {xs : List V} (h : Sq K H a xs) : Sq K H' a xs := h.imp s.seq s.tup
theorem _root_.EXT.Ext.edges {H H' : Hp} (s : Ext H H') {xs : List V} {es : List Eg} (h : Paired (EdgeAt K H) xs es) : Paired (EdgeAt K H') xs es := paired_imp (fun _ _ ⟨a, e, h⟩ => ⟨a, e, s.tup h⟩) h
theorem sqt_ins {H : Hp} {p C dx a : Addr} {fs : List (Str × V)} {xs : List V} {o : HO} (hp : H p = some (.ins C dx fs)) (h : SqT K H a xs) : SqT K (upd H p o) a xs := by
  rcases h with (h | ⟨o', h⟩) | h
  · exact .inl (.inl (by rw [upd_ne (fun z => by rw [z, hp] at h; cases h)]; exact h))
  · exact .inl (.inr ⟨o', by rw [upd_ne (fun z => by rw [z, hp] at h; cases h)]; exact h⟩)
  · exact .inr h
/-- a new one is made at p (not there in H0) -/
def spInit (T : Top K mg) : Sp := fun vs H Q E => ∃ (p dx fa ea : Addr) (fs : List Int) (xs : List V) (es : List Eg) (H0 : Hp), vs = [.ref p, .ref fa, .ref ea] ∧ H p = some (.ins T.C_Spins dx []) ∧ H0 p = none ∧ Ext H0 H ∧
  Sq K H0 fa (fs.map V.int) ∧ Sq K H0 ea xs ∧ Paired (EdgeAt K H0) xs es ∧ es.length < 1000000 ∧ fs.length < 1000000 ∧ Tg T H0 ∧
  (goodF fs → goodE fs.length es → ∀ H' fb eb ys, Ext H0 H' → H' p = some (.ins T.C_Spins dx [("fields", .ref fb), ("edges", .ref eb)]) → SqT K H' fb (fs.map V.int) → SqT K H' eb ys → Paired (EdgeAt K H') ys es → Q .non H') ∧
  (¬ (goodF fs ∧ goodE fs.length es) → ∀ H', Ext H0 H' → E (.ref T.f_InvalidSpins) none H')
theorem ok_Spins_init (T : Top K mg) (B : Tb T base) : FnOk P w K mg base (L2.CX P w) 4 T.f_Spins_init T.d_Spins_init ["self", "fields", "edges"] (spInit T) := by
  refine T.F_Spins_init.okX sc_Spins_init (fun vs H Q E h => ?_) (fun A outer s H vs Q E hr h => ?_)
  · obtain ⟨p, dx, fa, ea, fs, xs, es, H0, rfl, _⟩ := h
    rfl
  · obtain ⟨p, dx, fa, ea, fs, xs, es, H0, rfl, hp, h0, s0, hf, he, hes, el, fl, G, q1, q2⟩ := h
    refine ⟨_, (C8.pss_cut (ps_fld (pv 0) (pe_callTy call_tuple_of (by rfl) T.m_tuple (by decide +kernel) (pa_cons (pv 1) pa_nil)) rfl)
      (C8.pss_cut (ps_fld (pv 0) (GXP.pe_tupleGx (own := [("edge", 3)]) (g := gName 3) (tt := tYes) (k := 2) (c := T.c_Spins_init) (P := T.P_Spins_init) (by rfl) T.m_tuple ⟨hr.mono (by decide), rfl, B.t_Spins_init, rfl, rfl, blkOk_by (own := [("edge", 3)]) (N := n_Spins_init) (sc := defScope s_Spins_init) (by decide +kernel), sc_Spins_init.nd, by decide +kernel, rfl, (pi_seq (pv 2)), fun A s H C cl code bi fp hrA => (pg_name (i := 3) sc_Spins_init.nd rfl (by first | exact .inl rfl | exact .inr rfl)), fun A s H C cl code bi fp hrA => pts_nil, fun A s H C cl code bi fp hrA => (pe_callTy (T := "tuple") (r := rTupOf K) call_tuple_of (by rfl) T.m_tuple (by decide +kernel) (pa_cons (pv 3) pa_nil)), fun _ => rfl⟩) rfl)
      (pss_cons (ps_expr (pe_call (ok_check_fields T B) (hr.mono (by decide)) (by rfl) T.g_check_fields T.F_check_fields.kp T.b_check_fields .nil (passes_call (takes_of rfl rfl rfl rfl) (fun _ _ _ _ h => h)) (pa_cons (pe_fld (pv 0) rfl) pa_nil)))
      (pss_one (ps_expr (pe_call (ok_check_edges T) (hr.mono (by decide)) (by rfl) T.g_check_edges T.F_check_edges.kp T.b_check_edges .nil (passes_call (takes_of rfl rfl rfl rfl) (fun _ _ _ _ h => h)) (pa_cons (pe_fld (pv 0) rfl) (pa_cons (pe_callB call_len_seq (by rfl) T.m_len (by decide +kernel) (pa_cons (pe_fld (pv 0) rfl) pa_nil)) pa_nil)))))))), ?_⟩
    have hbad : ∀ H', Ext H0 H' → ¬ (goodF fs ∧ goodE fs.length es) → E (.ref T.f_InvalidSpins) none H' := fun H' s z => q2 z H' s
    refine ⟨fun σ H1 => σ = [some (.ref p), some (.ref fa), some (.ref ea), none] ∧ ∃ fb, Ext H0 H1 ∧ H1 p = some (.ins T.C_Spins dx [("fields", .ref fb)]) ∧ SqT K H1 fb (fs.map V.int), ?_, ?_⟩
    · rcases hf with hf | hf
      · refine ⟨_, rfl, fa, _, rfl, .inl ⟨s0.seq hf, fun l hl => ?_⟩⟩
        have np : p ≠ l := ne_of_none hp hl
        refine ⟨_, rfl, p, T.C_Spins, dx, [], rfl, by rw [upd_ne np]; exact hp, T.cl_Spins, T.na_Spins_fields, by decide, rfl, l, (s0.new hl).own h0, by rw [upd_same]; rfl, ?_⟩
        exact SqT.of (by rw [upd_ne np.symm]; exact upd_same)
      · refine ⟨_, rfl, fa, _, rfl, .inr ⟨s0.tup hf, ?_⟩⟩
        exact ⟨_, rfl, p, T.C_Spins, dx, [], rfl, hp, T.cl_Spins, T.na_Spins_fields, by decide, rfl, fa, s0.own h0, by rw [upd_same]; rfl, (s0.own h0).tup hf⟩
    rintro σ H1 ⟨rfl, fb, s1, hp1, hfb⟩
    have xl := hes.length
    refine ⟨fun σ H1 => σ = [some (.ref p), some (.ref fa), some (.ref ea), none] ∧ ∃ fb eb, Ext H0 H1 ∧ H1 p = some (.ins T.C_Spins dx [("fields", .ref fb), ("edges", .ref eb)]) ∧ SqT K H1 fb (fs.map V.int) ∧ SqT K H1 eb xs, ?_, ?_⟩
    · have tb := (G.ext s1).t_Spins_init
      rcases he with he | he
      · refine ⟨_, rfl, ea, rfl, .inl ⟨⟨_, s1.seq he⟩, tb, fun H2 t2 => ?_⟩⟩
        have s2 := s1.tabbed tb t2
        have hp2 := (ext_tabbed tb t2).keep p _ hp1 (fun _ z => by cases z)
        have hfb2 := (ext_tabbed tb t2).tup hfb
        refine gx_list (xs := xs) (fun i zs H3 => H3 = H2 ∧ zs = xs.take i) ⟨rfl, rfl⟩ (fun i zs H3 _ h => by rw [h.1]; exact s2.seq he) (fun i x zs H3 hi hP => ?_) (fun zs H3 hP => ?_)
        · obtain ⟨rfl, rfl⟩ := hP
          obtain ⟨e, hei, a1, rfl, g1⟩ := paired_at hes hi
          refine ⟨rfl, _, rfl, a1, _, rfl, .inr ⟨s2.tup g1, ?_, rfl, ?_⟩⟩
          · rw [List.length_take]
            exact sl_lt (by omega)
          · rw [List.take_add_one, hi]
            rfl
        · obtain ⟨rfl, rfl⟩ := hP
          intro l hl
          have np : p ≠ l := ne_of_none hp2 hl
          refine ⟨_, rfl, p, T.C_Spins, dx, _, rfl, by rw [upd_ne np]; exact hp2, T.cl_Spins, T.na_Spins_edges, (by show 1 < 1000; decide), rfl, fb, l, (s2.new hl).own h0, by rw [upd_same]; rfl, ?_, ?_⟩
          · exact sqt_ins (by rw [upd_ne np]; exact hp2) ((ext_upd hl).tup hfb2)
          · rw [List.take_length]
            exact SqT.of (by rw [upd_ne np.symm]; exact upd_same)
      · refine ⟨_, rfl, ea, rfl, .inr ⟨⟨_, s1.tup he⟩, tb, fun H2 t2 => ?_⟩⟩
        have s2 := s1.tabbed tb t2
        have hp2 := (ext_tabbed tb t2).keep p _ hp1 (fun _ z => by cases z)
        have hfb2 := (ext_tabbed tb t2).tup hfb
        refine gx_tup (xs := xs) (fun i zs H3 => H3 = H2 ∧ zs = xs.take i) ⟨rfl, rfl⟩ (fun i zs H3 _ h => by rw [h.1]; exact s2.tup he) (fun i x zs H3 hi hP => ?_) (fun zs H3 hP => ?_)
        · obtain ⟨rfl, rfl⟩ := hP
          obtain ⟨e, hei, a1, rfl, g1⟩ := paired_at hes hi
          refine ⟨rfl, _, rfl, a1, _, rfl, .inr ⟨s2.tup g1, ?_, rfl, ?_⟩⟩
          · rw [List.length_take]
            exact sl_lt (by omega)
          · rw [List.take_add_one, hi]
            rfl
        · obtain ⟨rfl, rfl⟩ := hP
          intro l hl
          have np : p ≠ l := ne_of_none hp2 hl
          refine ⟨_, rfl, p, T.C_Spins, dx, _, rfl, by rw [upd_ne np]; exact hp2, T.cl_Spins, T.na_Spins_edges, (by show 1 < 1000; decide), rfl, fb, l, (s2.new hl).own h0, by rw [upd_same]; rfl, ?_, ?_⟩
          · exact sqt_ins (by rw [upd_ne np]; exact hp2) ((ext_upd hl).tup hfb2)
          · rw [List.take_length]
            exact SqT.of (by rw [upd_ne np.symm]; exact upd_same)
    rintro σ H2 ⟨rfl, fb, eb, s2, hp2, hfb2, heb2⟩
    refine ⟨_, rfl, p, T.C_Spins, dx, _, .ref fb, rfl, hp2, T.cl_Spins, T.na_Spins_fields, rfl, fb, fs, rfl, hfb2, G.ext s2, fun gf H3 s3 => ?_, fun nf H3 s3 => hbad H3 (s2.trans s3) fun z => nf z.1⟩
    have hp3 := s3.keep p _ hp2 (fun _ z => by cases z)
    have s03 := s2.trans s3
    refine ⟨_, rfl, p, T.C_Spins, dx, _, .ref eb, rfl, hp3, T.cl_Spins, T.na_Spins_edges, rfl, _, rfl, p, T.C_Spins, dx, _, .ref fb, rfl, hp3, T.cl_Spins, T.na_Spins_fields, rfl, fb, _, rfl, .inr (s3.tup hfb2), ?_⟩
    refine ⟨eb, xs, es, fs.length, by rw [List.length_map]; rfl, s3.tup heb2, s03.edges hes, el, fun ge H4 s4 => ?_, fun ne H4 s4 => hbad H4 (s03.trans s4) fun z => ne z.2⟩
    exact q1 gf ge H4 fb eb xs (s03.trans s4) (s4.keep p _ hp3 (fun _ z => by cases z)) (s4.tup (s3.tup hfb2)) (s4.tup (s3.tup heb2)) ((s03.trans s4).edges hes)
theorem paired_at' {α β : Type} {R : α → β → Prop} : ∀ {as : List α} {bs : List β} {i : Nat} {b : β}, Paired R as bs → bs[i]? = some b → ∃ a, as[i]? = some a ∧ R a b
  | _, _, _, _, .nil, h => by simp at h
  | _, _, 0, _, .cons x t, h => by
    simp only [List.getElem?_cons_zero, Option.some.injEq] at h
    subst h
    exact ⟨_, rfl, x⟩
  | _, _, i + 1, _, .cons x t, h => by
    simp only [List.getElem?_cons_succ] at h
    obtain ⟨b, h1, h2⟩ := paired_at' t h
    exact ⟨b, by simpa using h1, h2⟩
/-- the dict d holds the terms D, a gathering of ts: in comes d, out comes a new tuple -/
def spIn (T : Top K mg) : Sp := fun vs H Q _ => ∃ (d : Addr) (D ts : List Trm), vs = [.ref d] ∧ H d = some (.dT (kvsOf D)) ∧ (keys D).Nodup ∧ PM.Eqv D ts ∧ D.length < 1000000 ∧ Tg T H ∧
  ∀ p H', Ext H H' → PolyT H' p (canon ts) → H p = none → Q (.ref p) H'
theorem ok_in_order (T : Top K mg) (B : Tb T base) : FnOk P w K mg base CX0 2 T.f_in_order T.d_in_order ["found"] (spIn T) := by
  refine T.F_in_order.ok sc_in_order (fun vs H Q E h => ?_) (fun A outer s H vs Q E hr h => ?_)
  · obtain ⟨d, D, ts, rfl, _⟩ := h
    rfl
  · obtain ⟨d, D, ts, rfl, hd, hn, he, hlen, G, q⟩ := h
    refine ⟨_, (pss_one (ps_ret (GXP.pe_tupleGx (own := [("pair", 1)]) (g := gName 1) (k := 0) (c := T.c_in_order) (P := T.P_in_order) (by rfl) T.m_tuple ⟨hr.mono (by decide), rfl, B.t_in_order, rfl, rfl, blkOk_by (own := [("pair", 1)]) (N := n_in_order) (sc := defScope s_in_order) (by decide +kernel), sc_in_order.nd, by decide +kernel, rfl, (pi_list (pe_callB (SDT.cr_sortedDT rfl) (by rfl) T.m_sorted (by decide +kernel) (pa_cons (pv 0) pa_nil))), fun A s H C cl code bi fp hrA => (pg_name (i := 1) sc_in_order.nd rfl (by first | exact .inl rfl | exact .inr rfl)), fun A s H C cl code bi fp hrA => (pts_one (pt_cmpR op_ne (pe_dget (hu_of hrA) (pv 0) (pv 1) (fun _ _ => rfl)) pe_int (nomark _))), fun A s H C cl code bi fp hrA => (pe_tup (pa_cons (pv 1) (pa_cons (pe_dget (hu_of hrA) (pv 0) (pv 1) (fun _ _ => rfl)) pa_nil))), fun _ => rfl⟩))), ?_⟩
    refine ⟨_, rfl, d, _, keys D, rfl, .inl hd, keys_kvs D, fun ks bs l hp hs hb hl => ?_⟩
    refine ⟨l, rfl, ⟨_, SqL.of upd_same⟩, (G.ext (ext_upd hl)).t_in_order, fun H2 t2 => ?_⟩
    have e0 : Ext H (upd H l (.lst (bs.map V.ref))) := ext_upd hl
    have e2 : Ext H H2 := e0.tabbed (G.ext e0).t_in_order t2
    have hl2 : H2 l = some (.lst (bs.map V.ref)) := (ext_tabbed (G.ext e0).t_in_order t2).lst upd_same
    refine gx_list (xs := bs.map V.ref) (fun i ys H3 => Ext H2 H3 ∧ TermsT H3 ys (PM.read D (ks.take i))) ⟨Ext.refl _, .nil⟩ (fun i ys H3 _ h => SqL.of (h.1.lst hl2)) (fun i x ys H3 hi hP => ?_) (fun ys H3 hP => ?_)
    · obtain ⟨s3, hy⟩ := hP
      rw [List.getElem?_map] at hi
      cases hbi : bs[i]? with
      | none => rw [hbi] at hi; cases hi
      | some b =>
        rw [hbi] at hi
        cases hi
        obtain ⟨k, hk, hkb⟩ := paired_at' hb hbi
        have e3 : Ext H H3 := e2.trans s3
        have hb3 : PairAt H3 k b := e3.at hkb
        have hm : k ∈ keys D := hp.mem_iff.mp (List.mem_of_getElem? hk)
        have hg : DGet H3 d (.ref b) (some (.int (look D k))) := by
          have := DGet.t (e3.dt hd) (k := pairKey k) hb3
          rw [valV_kvs, if_pos hm] at this
          exact this
        have tk : ks.take (i + 1) = ks.take i ++ [k] := by rw [List.take_add_one, hk]; rfl
        refine ⟨rfl, _, rfl, _, rfl, d, _, rfl, hg, rfl, _, rfl, iteB (fun z => ?_) (fun z => ?_)⟩
        · have nz : look D k ≠ 0 := fun w => by
            rw [w] at z
            cases z
          refine ⟨_, rfl, _, rfl, _, rfl, d, _, rfl, hg, sl2, fun p2 hp2 => ⟨?_, s3.new hp2, ?_⟩⟩
          · have l1 := hy.length
            have l2 : (PM.read D (ks.take i)).length ≤ D.length := by
              unfold PM.read
              rw [List.length_map]
              have h1 : ((ks.take i).filter fun k => decide (look D k ≠ 0)).length ≤ (ks.take i).length := List.length_filter_le _ _
              have h2 : (ks.take i).length ≤ ks.length := by rw [List.length_take]; omega
              have h3 := hp.length_eq
              have h4 : (keys D).length = D.length := by
                unfold keys
                rw [List.length_map]
              omega
            exact sl_lt (by omega)
          · rw [tk]
            have : PM.read D (ks.take i ++ [k]) = PM.read D (ks.take i) ++ [(k, look D k)] := by
              unfold PM.read
              rw [List.filter_append, List.filter_cons_of_pos (by simp [nz]), List.filter_nil, List.map_append]
              rfl
            rw [this]
            exact paired_snoc ((ext_upd hp2).termsT hy) ⟨p2, b, rfl, upd_same, (ext_upd hp2).at hb3⟩
        · have nz : look D k = 0 := by
            have z2 : decide (V.int (look D k) = V.int 0) = true := by simpa using z
            exact V.int.inj (of_decide_eq_true z2)
          refine ⟨s3, ?_⟩
          rw [tk]
          have : PM.read D (ks.take i ++ [k]) = PM.read D (ks.take i) := by
            unfold PM.read
            rw [List.filter_append, List.filter_cons_of_neg (by simp [nz]), List.filter_nil, List.append_nil]
          rw [this]
          exact hy
    · obtain ⟨s3, hy⟩ := hP
      have ek : PM.read D (ks.take (bs.map V.ref).length) = canon ts := by
        rw [List.length_map, ← hb.length, List.take_length]
        exact PM.read_canon hn he hp (hs.imp fun h => lex_lt.mp h)
      rw [ek] at hy
      intro p hp2
      have e3 : Ext H H3 := e2.trans s3
      exact q p _ (e3.new hp2) ⟨ys, upd_same, (ext_upd hp2).termsT hy⟩ (e3.free hp2)
/-- hands back a new tuple of the terms ts -/
def NewP (H : Hp) (Q : VK) (ts : List Trm) : Prop := ∀ p H', Ext H H' → PolyT H' p ts → H p = none → Q (.ref p) H'
/-- a list or a tuple of terms comes in -/
def spPoly (T : Top K mg) : Sp := fun vs H Q _ => ∃ (a : Addr) (xs : List V) (ts : List Trm), vs = [.ref a] ∧ (SqL K H a xs ∨ SqT K H a xs) ∧ Terms K H xs ts ∧ ts.length < 1000000 ∧ Tg T H ∧ NewP H Q (canon ts)
theorem gather_len (ts : List Trm) : (gather ts).length ≤ ts.length := by
  have := PM.length_gather_go ts []
  simpa [gather] using this
theorem gather_snoc (ts : List Trm) (t : Trm) : gather (ts ++ [t]) = addTo (gather ts) t := by
  unfold gather
  rw [List.foldl_append]
  rfl
theorem ok_polynomial (T : Top K mg) (B : Tb T base) : FnOk P w K mg base CX0 3 T.f_polynomial T.d_polynomial ["terms"] (spPoly T) := by
  refine T.F_polynomial.ok sc_polynomial (fun vs H Q E h => ?_) (fun cdv A outer s H vs Q E hr h => ?_)
  · obtain ⟨a, xs, ts, rfl, _⟩ := h
    rfl
  · obtain ⟨a, xs, ts, rfl, ha, hts, hlen, G, q⟩ := h
    refine ⟨_, (pss_cons (ps_set (i := 1) sc_polynomial.nd rfl (by first | exact .inl rfl | exact .inr rfl) pe_dnewT)
      (pss_cons (ps_for PassesOwn.never rfl (pi_seq (pv 0)) (pg_tup rfl (pgs_cons (pg_tup rfl (pgs_cons (pg_name (i := 2) sc_polynomial.nd rfl (by first | exact .inl rfl | exact .inr rfl)) (pgs_cons (pg_name (i := 3) sc_polynomial.nd rfl (by first | exact .inl rfl | exact .inr rfl)) pgs_nil))) (pgs_cons (pg_name (i := 4) sc_polynomial.nd rfl (by first | exact .inl rfl | exact .inr rfl)) pgs_nil))) (pss_one (ps_dput (hu_of hr) (pv 1) (pe_tup (pa_cons (pv 2) (pa_cons (pv 3) pa_nil))) (pe_op op_add (pe_dget2 (hu_of hr) (pv 1) (pe_tup (pa_cons (pv 2) (pa_cons (pv 3) pa_nil))) pe_int ⟨rfl, rfl, rfl, rfl⟩) (pv 4)) rfl)))
      (pss_one (ps_ret (pe_call (ok_in_order T B) (hr.mono (by decide)) (by rfl) T.g_in_order T.F_in_order.kp T.b_in_order .nil pass0 (pa_cons (pv 1) pa_nil)))))), ?_⟩
    intro d hd
    have e1 : Ext H (upd H d (.dT [])) := ext_upd hd
    have hxl := hts.length
    refine ⟨_, rfl, a, rfl, for_seq (xs := xs) ha (fun i σ H1 => (∃ x y z, σ = [some (.ref a), some (.ref d), x, y, z]) ∧ Ext H H1 ∧ H1 d = some (.dT (kvsOf (gather (ts.take i))))) ⟨⟨_, _, _, rfl⟩, e1, upd_same⟩ (fun i σ H1 _ h => h.2.1) (fun i x σ H1 hi hP => ?_) (fun σ H1 hP => ?_)⟩
    · obtain ⟨⟨x1, x2, x3, rfl⟩, s1, hd1⟩ := hP
      obtain ⟨t, ht, a1, b1, rfl, h1, h2⟩ := paired_at hts hi
      refine ⟨a1, _, rfl, s1.tup h1, rfl, _, _, rfl, ?_⟩
      refine ⟨b1, _, rfl, s1.tup h2, rfl, _, _, rfl, _, _, rfl, rfl, _, _, rfl, rfl, ?_⟩
      refine ⟨_, rfl, d, rfl, .inr ⟨_, .inl hd1⟩, _, rfl, _, rfl, sl2, fun p hp => ?_⟩
      have hd2 : upd H1 p (.tup [.int t.1.1, .int t.1.2]) d = some (.dT (kvsOf (gather (ts.take i)))) := (ext_upd hp).dt hd1
      refine ⟨_, DGet.t hd2 (k := pairKey t.1) upd_same, _, rfl, look (gather (ts.take i)) t.1, t.2, getD_kvs _ _, rfl, ?_⟩
      refine ⟨_, rfl, _, rfl, _, rfl, sl2, fun p2 hp2 => ⟨d, _, rfl, DPut.t ((ext_upd hp2).dt hd2) (k := pairKey t.1) upd_same ?_, ?_⟩⟩
      · have l1 := gather_len (ts.take i)
        have l2 : (ts.take i).length ≤ ts.length := by rw [List.length_take]; omega
        rw [length_kvs]
        exact sl_lt (by omega)
      · refine ⟨⟨_, _, _, rfl⟩, ((s1.new hp).new hp2).own hd, ?_⟩
        rw [upd_same, put_kvs, take_snoc ht, gather_snoc]
        rfl
    · obtain ⟨⟨x1, x2, x3, rfl⟩, s1, hd1⟩ := hP
      have l1 := gather_len ts
      rw [hxl, List.take_length] at hd1
      refine ⟨_, rfl, d, gather ts, ts, rfl, hd1, PM.gather_nodup ts, PM.gather_eqv ts, by omega, G.ext s1, fun p H2 s2 hp h0 => q p H2 (s1.trans s2) hp (s1.free h0)⟩
/-- two polynomials come in -/
def spPlus (T : Top K mg) (f : List Trm → List Trm → List Trm) : Sp := fun vs H Q _ => ∃ (a b : Addr) (p q : List Trm), vs = [.ref a, .ref b] ∧ PolyAt K H a p ∧ PolyAt K H b q ∧ p.length + q.length < 1000000 ∧ Tg T H ∧ NewP H Q (canon (f p q))
theorem terms_app {H : Hp} {xs ys : List V} {p q : List Trm} (h : Terms K H xs p) (k : Terms K H ys q) : Terms K H (xs ++ ys) (p ++ q) := paired_app h k
theorem terms_nil {H : Hp} {p : List Trm} (h : Terms K H [] p) : p = [] := by
  cases h
  rfl
theorem terms_nil' {H : Hp} {xs : List V} (h : Terms K H xs []) : xs = [] := by
  cases h
  rfl
/-- p + q as an argument of polynomial -/
theorem cat_poly (T : Top K mg) {H : Hp} {Q : VK} {E : XK} {a b : Addr} {xs ys : List V} {p q : List Trm} (h1 : SqT K H a xs) (h2 : Terms K H xs p) (k1 : SqT K H b ys) (k2 : Terms K H ys q) (hl : p.length + q.length < 1000000) (G : Tg T H) (r : NewP H Q (canon (p ++ q))) :
    rCatA K (.ref a) (.ref b) H fun v H1 => spPoly (K := K) T [v] H1 Q E := by
  have l1 := h2.length
  have l2 := k2.length
  refine ⟨a, b, xs, ys, rfl, rfl, h1, k1, sl_of (by omega), fun e => ?_, fun e1 e2 => ?_, fun e1 e2 c hc => ?_⟩
  · subst e
    have := terms_nil h2
    subst this
    exact ⟨b, ys, q, rfl, .inr k1, k2, by omega, G, r⟩
  · subst e2
    have := terms_nil k2
    subst this
    rw [List.append_nil] at r
    exact ⟨a, xs, p, rfl, .inr h1, h2, by omega, G, r⟩
  · have e := ext_upd (o := .tup (xs ++ ys)) hc
    exact ⟨c, xs ++ ys, p ++ q, rfl, .inr (SqT.of upd_same), e.terms (terms_app h2 k2), by rw [List.length_append]; omega, G.ext e, fun p2 H2 s2 h n => r p2 H2 (e.trans s2) h (e.free n)⟩
theorem ok_plus (T : Top K mg) (B : Tb T base) : FnOk P w K mg base CX0 4 T.f_plus T.d_plus ["p", "q"] (spPlus T (· ++ ·)) := by
  refine T.F_plus.ok sc_plus (fun vs H Q E h => ?_) (fun cdv A outer s H vs Q E hr h => ?_)
  · obtain ⟨a, b, p, q, rfl, _⟩ := h
    rfl
  · obtain ⟨a, b, p, q, rfl, ⟨xs, h1, h2⟩, ⟨ys, k1, k2⟩, hl, G, r⟩ := h
    refine ⟨_, (pss_one (ps_ret (pe_call (ok_polynomial T B) (hr.mono (by decide)) (by rfl) T.g_polynomial T.F_polynomial.kp T.b_polynomial .nil pass0 (pa_cons (pe_op op_catA (pv 0) (pv 1)) pa_nil)))), ?_⟩
    exact ⟨_, rfl, _, rfl, cat_poly (E := E) T h1 h2 k1 k2 hl G r⟩
def mid (z : Int) : Prop := z.natAbs < 2 ^ 1900
theorem mid_mul {x y : Int} (hx : mid x) (hy : mid y) : CMulW x y := wide_mul hx hy (by decide) (by decide) (by decide)
/-- two polynomials of no more than a million products -/
def spTimes (T : Top K mg) : Sp := fun vs H Q _ => ∃ (a b : Addr) (p q : List Trm), vs = [.ref a, .ref b] ∧ PolyAt K H a p ∧ PolyAt K H b q ∧ p.length * q.length < 1000000 ∧ (∀ t ∈ p, mid t.2) ∧ (∀ t ∈ q, mid t.2) ∧ Tg T H ∧ NewP H Q (canon (mulT p q))
def rowT (x : Trm) (q : List Trm) : List Trm := q.map fun y => (addE x.1 y.1, x.2 * y.2)
theorem mul_snoc (p q : List Trm) (x : Trm) : mulT (p ++ [x]) q = mulT p q ++ rowT x q := by
  unfold mulT rowT
  rw [List.flatMap_append]
  simp
theorem len_part (p q : List Trm) (i j : Nat) (x : Trm) (hi : p[i]? = some x) : (mulT (p.take i) q ++ rowT x (q.take j)).length ≤ p.length * q.length := by
  have h : i < p.length := (List.getElem?_eq_some_iff.mp hi).1
  unfold rowT
  rw [List.length_append, PM.length_mul, List.length_map, List.length_take, List.length_take]
  have h1 : min i p.length = i := by omega
  rw [h1]
  have h2 : (i + 1) * q.length ≤ p.length * q.length := Nat.mul_le_mul_right _ h
  rw [Nat.add_mul, Nat.one_mul] at h2
  omega
theorem ok_times (T : Top K mg) (B : Tb T base) : FnOk P w K mg base CX0 3 T.f_times T.d_times ["p", "q"] (spTimes T) := by
  refine T.F_times.ok sc_times (fun vs H Q E h => ?_) (fun cdv A outer s H vs Q E hr h => ?_)
  · obtain ⟨a, b, p, q, rfl, _⟩ := h
    rfl
  · obtain ⟨a, b, p, q, rfl, ⟨xs, h1, h2⟩, ⟨ys, k1, k2⟩, hl, hmp, hmq, G, r⟩ := h
    refine ⟨_, (pss_cons (ps_set (i := 2) sc_times.nd rfl (by first | exact .inl rfl | exact .inr rfl) pe_dnewT)
      (pss_cons (ps_for PassesOwn.never rfl (pi_tup (pv 0)) (pg_tup rfl (pgs_cons (pg_tup rfl (pgs_cons (pg_name (i := 3) sc_times.nd rfl (by first | exact .inl rfl | exact .inr rfl)) (pgs_cons (pg_name (i := 4) sc_times.nd rfl (by first | exact .inl rfl | exact .inr rfl)) pgs_nil))) (pgs_cons (pg_name (i := 5) sc_times.nd rfl (by first | exact .inl rfl | exact .inr rfl)) pgs_nil))) (pss_one (ps_for PassesOwn.never rfl (pi_tup (pv 1)) (pg_tup rfl (pgs_cons (pg_tup rfl (pgs_cons (pg_name (i := 6) sc_times.nd rfl (by first | exact .inl rfl | exact .inr rfl)) (pgs_cons (pg_name (i := 7) sc_times.nd rfl (by first | exact .inl rfl | exact .inr rfl)) pgs_nil))) (pgs_cons (pg_name (i := 8) sc_times.nd rfl (by first | exact .inl rfl | exact .inr rfl)) pgs_nil))) (pss_cons (ps_set (i := 9) sc_times.nd rfl (by first | exact .inl rfl | exact .inr rfl) (pe_tup (pa_cons (pe_op op_add (pv 3) (pv 6)) (pa_cons (pe_op op_add (pv 4) (pv 7)) pa_nil))))
      (pss_one (ps_dput (hu_of hr) (pv 2) (pv 9) (pe_op op_add (pe_dget2 (hu_of hr) (pv 2) (pv 9) pe_int ⟨rfl, rfl, rfl, rfl⟩) (pe_op op_mulW (pv 5) (pv 8))) rfl))))))
      (pss_one (ps_ret (pe_call (ok_in_order T B) (hr.mono (by decide)) (by rfl) T.g_in_order T.F_in_order.kp T.b_in_order .nil pass0 (pa_cons (pv 2) pa_nil)))))), ?_⟩
    intro d hd
    have l1 := h2.length
    have l2 := k2.length
    refine ⟨_, rfl, a, rfl, ⟨xs, (ext_upd hd).tup h1⟩, for_tup (xs := xs) (fun i σ H1 => (∃ x1 x2 x3 x4 x5 x6 x7, σ = [some (.ref a), some (.ref b), some (.ref d), x1, x2, x3, x4, x5, x6, x7]) ∧ Ext H H1 ∧ H1 d = some (.dT (kvsOf (gather (mulT (p.take i) q)))))
      ⟨⟨_, _, _, _, _, _, _, rfl⟩, ext_upd hd, upd_same⟩ (fun i σ H1 _ h => h.2.1.tup h1) (fun i x σ H1 hi hP => ?_) (fun σ H1 hP => ?_)⟩
    · obtain ⟨⟨x1, x2, x3, x4, x5, x6, x7, rfl⟩, s1, hd1⟩ := hP
      obtain ⟨t, ht, a1, b1, rfl, g1, g2⟩ := paired_at h2 hi
      refine ⟨a1, _, rfl, s1.tup g1, rfl, _, _, rfl, ?_⟩
      refine ⟨b1, _, rfl, s1.tup g2, rfl, _, _, rfl, _, _, rfl, rfl, _, _, rfl, rfl, ?_⟩
      have ep : mulT (p.take (i + 1)) q = mulT (p.take i) q ++ rowT t q := by rw [take_snoc ht, mul_snoc]
      refine ⟨_, rfl, b, rfl, ⟨ys, s1.tup k1⟩, for_tup (xs := ys) (fun j σ H2 => (∃ y1 y2 y3 y4, σ = [some (.ref a), some (.ref b), some (.ref d), some (.int t.1.1), some (.int t.1.2), some (.int t.2), y1, y2, y3, y4]) ∧ Ext H H2 ∧ H2 d = some (.dT (kvsOf (gather (mulT (p.take i) q ++ rowT t (q.take j))))))
        ⟨⟨_, _, _, _, rfl⟩, s1, by rw [List.take_zero, show rowT t [] = [] from rfl, List.append_nil]; exact hd1⟩ (fun j σ H2 _ h => h.2.1.tup k1) (fun j y σ H2 hj hP2 => ?_) (fun σ H2 hP2 => ?_)⟩
      · obtain ⟨⟨y1, y2, y3, y4, rfl⟩, s2, hd2⟩ := hP2
        obtain ⟨u, hu, c1, e1, rfl, m1, m2⟩ := paired_at k2 hj
        refine ⟨c1, _, rfl, s2.tup m1, rfl, _, _, rfl, ?_⟩
        refine ⟨e1, _, rfl, s2.tup m2, rfl, _, _, rfl, _, _, rfl, rfl, _, _, rfl, rfl, ?_⟩
        have mt := mid_mul (hmp t (List.mem_of_getElem? ht)) (hmq u (List.mem_of_getElem? hu))
        refine ⟨_, rfl, _, rfl, _, _, rfl, rfl, _, rfl, _, rfl, _, _, rfl, rfl, sl2, fun p2 hp2 => ?_⟩
        have hd3 := (ext_upd (o := .tup [.int (t.1.1 + u.1.1), .int (t.1.2 + u.1.2)]) hp2).dt hd2
        refine ⟨_, rfl, d, rfl, .inr ⟨_, .inl hd3⟩, _, rfl, _, DGet.t hd3 (k := pairKey (addE t.1 u.1)) upd_same, _, rfl, _, rfl, _, _, rfl, rfl, mt, ?_⟩
        refine ⟨look (gather (mulT (p.take i) q ++ rowT t (q.take j))) (addE t.1 u.1), t.2 * u.2, getD_kvs _ _, rfl, ?_⟩
        refine ⟨_, rfl, _, rfl, d, _, rfl, DPut.t hd3 (k := pairKey (addE t.1 u.1)) upd_same ?_, ?_⟩
        · have l3 := gather_len (mulT (p.take i) q ++ rowT t (q.take j))
          have l4 := len_part p q i j t ht
          rw [length_kvs]
          exact sl_lt (by omega)
        · refine ⟨⟨_, _, _, _, rfl⟩, (s2.new hp2).own hd, ?_⟩
          rw [upd_same, put_kvs, take_snoc hu]
          have e9 : rowT t (q.take j ++ [u]) = rowT t (q.take j) ++ [(addE t.1 u.1, t.2 * u.2)] := by
            unfold rowT
            rw [List.map_append]
            rfl
          rw [e9, ← List.append_assoc, gather_snoc]
          rfl
      · obtain ⟨⟨y1, y2, y3, y4, rfl⟩, s2, hd2⟩ := hP2
        refine ⟨⟨_, _, _, _, _, _, _, rfl⟩, s2, ?_⟩
        rw [l2, List.take_length] at hd2
        rw [ep]
        exact hd2
    · obtain ⟨⟨x1, x2, x3, x4, x5, x6, x7, rfl⟩, s1, hd1⟩ := hP
      rw [l1, List.take_length] at hd1
      have l3 := gather_len (mulT p q)
      rw [PM.length_mul] at l3
      exact ⟨_, rfl, d, gather (mulT p q), mulT p q, rfl, hd1, PM.gather_nodup _, PM.gather_eqv _, by omega, G.ext s1, fun p2 H2 s2 hp h0 => r p2 H2 (s1.trans s2) hp (s1.free h0)⟩
/-! ### the law's cell of the script -/
def cellZ (ns : List Int) (k : Nat) : Int := ns.getD k 0
def spCellZ (K : PySem.W.Frag) : Sp := fun vs H Q _ => ∃ (l : Addr) (ns : List Int) (k : Nat), vs = [.ref l, .int (k : Int)] ∧ SqL K H l (ns.map V.int) ∧ Q (.int (cellZ ns k)) H
theorem ok_law_cell (T : Top K mg) : FnOk P w K mg base CX0 1 T.f_law_cell T.d_law_cell ["script", "k"] (spCellZ K) := by
  refine T.F_law_cell.ok sc_law_cell (fun vs H Q E h => ?_) (fun cdv A outer s H vs Q E hr h => ?_)
  · obtain ⟨l, ns, k, rfl, _⟩ := h
    rfl
  · obtain ⟨l, ns, k, rfl, hS, q⟩ := h
    refine ⟨_, (pss_cons (ps_if (pt_cmpR op_lt (pv 1) (pe_callB call_len_seq (by rfl) T.m_len (by decide +kernel) (pa_cons (pv 0) pa_nil)) (nomark _)) (pss_one (ps_ret (pe_callTy call_int1 (by rfl) T.m_int (by decide +kernel) (pa_cons (pe_ix ix_list (pv 0) (pv 1) (fun _ _ => rfl)) pa_nil)))) pss_nil)
      (pss_one (ps_ret pe_int))), ?_⟩
    refine ⟨_, rfl, _, rfl, l, _, rfl, .inl hS, _, _, rfl, rfl, _, rfl, ?_⟩
    refine ite2 (fun e => ?_) (fun e => ?_)
    · have hk : k < ns.length := by
        have := of_decide_eq_true e
        rw [List.length_map] at this
        omega
      refine ⟨_, rfl, _, rfl, l, _, _, .int ns[k], rfl, rfl, hS, ?_, .inl ⟨_, rfl, ?_⟩⟩
      · refine atI_nat ?_
        rw [List.getElem?_map, List.getElem?_eq_getElem hk]
        rfl
      · have : cellZ ns k = ns[k] := by
          unfold cellZ
          rw [List.getD_eq_getElem?_getD, List.getElem?_eq_getElem hk]
          rfl
        rw [← this]
        exact q
    · have hk : ¬ k < ns.length := fun z => e (by
        refine decide_eq_true ?_
        rw [List.length_map]
        omega)
      have : cellZ ns k = 0 := by
        unfold cellZ
        rw [List.getD_eq_getElem?_getD, List.getElem?_eq_none (by omega)]
        rfl
      show Q (.int 0) H
      rw [← this]
      exact q
/-! ### data that stands in the heap -/
mutual
theorem dp_same {K : PySem.W.Frag} {H H' : Hp} (s : Same H H') : ∀ {v : V} {d : PyData}, Dp K H v d → Dp K H' v d
  | _, _, .non => .non
  | _, _, .bl b => .bl b
  | _, _, .int i => .int i
  | _, _, .str x => .str x
  | _, _, .lst h t => .lst (s.seq h) (dpAll_same s t)
  | _, _, .tup h t => .tup (s.tup h) (dpAll_same s t)
theorem dpAll_same {K : PySem.W.Frag} {H H' : Hp} (s : Same H H') : ∀ {vs : List V} {ds : List PyData}, DpAll K H vs ds → DpAll K H' vs ds
  | _, _, .nil => .nil
  | _, _, .cons h t => .cons (dp_same s h) (dpAll_same s t)
end
theorem dpAll_len {K : PySem.W.Frag} {H : Hp} : ∀ {vs : List V} {ds : List PyData}, DpAll K H vs ds → vs.length = ds.length
  | _, _, .nil => rfl
  | _, _, .cons _ t => congrArg (· + 1) (dpAll_len t)
theorem dpAll_get {K : PySem.W.Frag} {H : Hp} : ∀ {vs : List V} {ds : List PyData} {i : Nat} {v : V}, DpAll K H vs ds → vs[i]? = some v → ∃ d, ds[i]? = some d ∧ d ∈ ds ∧ Dp K H v d
  | _, _, i, v, .nil, h => by simp at h
  | _, d :: ds, 0, v, .cons a t, h => by
    simp only [List.getElem?_cons_zero, Option.some.injEq] at h
    subst h
    exact ⟨d, rfl, List.mem_cons_self, a⟩
  | _, d :: ds, i + 1, v, .cons a t, h => by
    simp only [List.getElem?_cons_succ] at h
    obtain ⟨e, h1, h2, h3⟩ := dpAll_get t h
    exact ⟨e, by simpa using h1, List.mem_cons_of_mem _ h2, h3⟩
theorem dpAll_of {α : Type} {K : PySem.W.Frag} {H : Hp} {f : α → PyData} {R : V → α → Prop} (hR : ∀ v x, R v x → Dp K H v (f x)) : ∀ {vs : List V} {xs : List α}, Paired R vs xs → DpAll K H vs (xs.map f)
  | _, _, .nil => .nil
  | _, _, .cons h t => .cons (hR _ _ h) (dpAll_of hR t)
theorem sqt_ty {K : PySem.W.Frag} {H : Hp} {a : Addr} {xs : List V} (h : SqT K H a xs) : TyX K H (.ref a) (.type "tuple") := by
  rcases h with (h | ⟨o, h⟩) | ⟨o, its, n, h, hc, _⟩
  · exact .base (.tup h)
  · exact .fTuple h
  · exact .kTuple h hc
theorem sql_ty {K : PySem.W.Frag} {H : Hp} {a : Addr} {xs : List V} (h : SqL K H a xs) : TyX K H (.ref a) (.type "list") := by
  rcases h with (h | ⟨o, h⟩) | ⟨o, its, n, h, hc, _⟩
  · exact .base (.lst h)
  · exact .base (.frz h)
  · exact .kList h hc
/-- nested tuples of ints, at most n - 1 deep -/
def tupD : Nat → PyData → Prop
  | 0, _ => False
  | _ + 1, .int _ => True
  | n + 1, .tuple ds => ds.length < 1000000 ∧ ∀ x ∈ ds, tupD n x
  | _ + 1, _ => False
def spTup (K : PySem.W.Frag) (n : Nat) : Sp := fun vs H Q _ => ∃ v d, vs = [v] ∧ Dp K H v d ∧ tupD n d ∧ ∀ H', Same H H' → Q (.bl true) H'
theorem ok_law_tuples (T : Top K mg) : ∀ n, FnOk P w K mg base CX0 (n + 1) T.f_law_tuples T.d_law_tuples ["thing"] (spTup K n)
  | 0 => T.F_law_tuples.ok sc_law_tuples (fun vs H Q E h => by obtain ⟨v, d, _, _, h, _⟩ := h; exact h.elim) (fun cdv A outer s H vs Q E hr h => by obtain ⟨v, d, _, _, h, _⟩ := h; exact h.elim)
  | n + 1 => by
    have ih := ok_law_tuples T n
    refine T.F_law_tuples.ok sc_law_tuples (fun vs H Q E h => ?_) (fun cdv A outer s H vs Q E hr h => ?_)
    · obtain ⟨v, d, rfl, _⟩ := h
      rfl
    · obtain ⟨v, d, rfl, hd, ht, q⟩ := h
      refine ⟨_, (pss_cons (ps_if (pt_val (pe_callB call_isi (by rfl) T.m_isinstance (by decide +kernel) (pa_cons (pv 0) (pa_cons (pe_bltn (v := .ty "tuple") (by rfl) T.m_tuple boot_tuple rfl) pa_nil)))) (pss_one (ps_ret (pe_callB (cr_all rfl) (by rfl) T.m_all (by decide +kernel) (pa_cons (pe_lc (own := [("part", 1)]) (g := gName 1) (tt := tYes) rfl sc_law_tuples.nd (pi_tup (pv 0)) (blkOk_by (own := [("part", 1)]) (N := n_law_tuples) (sc := defScope s_law_tuples) (by decide +kernel)) (fun _ _ _ _ _ => (pg_name (i := 1) sc_law_tuples.nd rfl (by first | exact .inl rfl | exact .inr rfl))) (fun _ _ _ _ _ => pts_nil) (fun _ _ _ _ _ => (pe_call ih hr (by rfl) T.g_law_tuples T.F_law_tuples.kp T.b_law_tuples .nil pass0 (pa_cons (pv 1) pa_nil)))) pa_nil)))) pss_nil)
      (pss_one (ps_ret (pe_and (pe_callB call_isi (by rfl) T.m_isinstance (by decide +kernel) (pa_cons (pv 0) (pa_cons (pe_bltn (v := .ty "int") (by rfl) T.m_int boot_int rfl) pa_nil))) (pe_one (pe_not (pe_callB call_isi (by rfl) T.m_isinstance (by decide +kernel) (pa_cons (pv 0) (pa_cons (pe_bltn (v := .ty "bool") (by rfl) T.m_bool boot_bool rfl) pa_nil))))))))), ?_⟩
      cases d with
      | int i =>
        cases hd
        refine ⟨_, rfl, _, _, _, _, _, rfl, .ty _, .base (.int i), kit_ty (r := false) (by decide +kernel), _, rfl, iteF ?_⟩
        refine ⟨_, rfl, _, _, _, _, _, rfl, .ty _, .base (.int i), kit_ty (r := true) (by decide +kernel), _, rfl, iteT ?_⟩
        exact ⟨_, rfl, _, _, _, _, _, rfl, .ty _, .base (.int i), kit_ty (r := false) (by decide +kernel), _, rfl, q H (Same.refl H)⟩
      | tuple ds =>
        cases hd with
        | @tup a xs _ hx hds =>
        refine ⟨_, rfl, _, _, _, _, _, rfl, .ty _, sqt_ty hx, kit_ty (r := true) (by decide +kernel), _, rfl, iteT ?_⟩
        refine ⟨_, rfl, a, rfl, ⟨_, hx⟩, fun D hD => lc_tup (xs := xs) (fun i H' => Same H H' ∧ H' D = some (.lst ((List.replicate i true).map V.bl)) ∧ i ≤ xs.length) ⟨same_upd hD, upd_same, Nat.zero_le _⟩ (fun i H' _ h => h.1.tup hx) (fun i x H' hi hP => ?_) (fun H' hP => ?_)⟩
        · obtain ⟨s1, hl, hix⟩ := hP
          obtain ⟨d, _, hm, hdx⟩ := dpAll_get hds hi
          have hil : i < xs.length := (List.getElem?_eq_some_iff.mp hi).1
          have hlen := dpAll_len hds
          have hz := ht.1
          refine ⟨rfl, _, rfl, x, d, rfl, dp_same s1 hdx, ht.2 d hm, fun H2 s2 => ⟨_, s2 _ _ hl, ?_, fun b o e => ?_, ?_, hil⟩⟩
          · rw [List.length_map, List.length_replicate]
            exact sl_lt (by omega)
          · rw [upd_ne (ne_of_none e hD)]
            exact s2 _ _ (s1 _ _ e)
          · rw [upd_same, List.replicate_succ', List.map_append]
            rfl
        · obtain ⟨s1, hl, _⟩ := hP
          refine ⟨D, List.replicate xs.length true, rfl, SqL.of hl, ?_⟩
          have e : (List.replicate xs.length true).all id = true := by
            rw [List.all_eq_true]
            intro x hx
            rw [List.eq_of_mem_replicate hx]
            rfl
          rw [e]
          exact q H' s1
      | none => exact ht.elim
      | bool b => exact ht.elim
      | str x => exact ht.elim
      | list x => exact ht.elim
      | dict x => exact ht.elim
theorem pos_lit {z : Int} {n : Nat} (h : z = ((n + 1 : Nat) : Int)) : 0 < z := by omega
def spMix : Sp := fun vs H Q _ => ∃ c k : Int, vs = [.int c, .int k] ∧ ∀ m : Int, 0 ≤ m → Q (.int m) H
theorem ok_law_mix (T : Top K mg) : FnOk P w K mg base CX0 1 T.f_law_mix T.d_law_mix ["cell", "k"] spMix := by
  refine T.F_law_mix.ok sc_law_mix (fun vs H Q E h => ?_) (fun cdv A outer s H vs Q E hr h => ?_)
  · obtain ⟨c, k, rfl, _⟩ := h
    rfl
  · obtain ⟨c, k, rfl, q⟩ := h
    refine ⟨_, (pss_cons (ps_set (i := 2) sc_law_mix.nd rfl (by first | exact .inl rfl | exact .inr rfl) (pe_op op_mod (pe_callTy call_int1 (by rfl) T.m_int (by decide +kernel) (pa_cons (pe_op op_add (pe_op op_add (pe_op op_mul (pv 0) pe_int) (pe_op op_mul (pv 1) pe_int)) pe_int) pa_nil)) pe_int))
      (pss_cons (ps_set (i := 2) sc_law_mix.nd rfl (by first | exact .inl rfl | exact .inr rfl) (pe_op op_mod (pe_callTy call_int1 (by rfl) T.m_int (by decide +kernel) (pa_cons (pe_op op_add (pe_op op_add (pe_op op_mul (pv 2) pe_int) (pe_op op_mul (pv 1) pe_int)) pe_int) pa_nil)) pe_int))
      (pss_one (ps_ret (pe_op op_fdiv (pv 2) pe_int))))), ?_⟩
    refine ⟨_, rfl, _, _, rfl, rfl, .inr ⟨by decide, by decide⟩, _, rfl, _, _, rfl, rfl, .inr ⟨by decide, by decide⟩, _, _, rfl, rfl, _, _, rfl, rfl, .inl ⟨_, rfl, _, _, rfl, rfl, pos_lit rfl, ?_⟩⟩
    refine ⟨_, rfl, _, _, rfl, rfl, .inr ⟨by decide, by decide⟩, _, rfl, _, _, rfl, rfl, .inr ⟨by decide, by decide⟩, _, _, rfl, rfl, _, _, rfl, rfl, .inl ⟨_, rfl, _, _, rfl, rfl, pos_lit rfl, ?_⟩⟩
    refine ⟨_, rfl, _, _, rfl, rfl, ⟨by decide, by decide⟩, q _ ?_⟩
    refine Int.ediv_nonneg (Int.emod_nonneg _ (by decide)) (by decide)
/-- some n numbers from 0 up to below b -/
def spRow (K : PySem.W.Frag) : Sp := fun vs H Q _ => ∃ (c b : Int) (n : Nat), vs = [.int c, .int (n : Int), .int b] ∧ n ≤ 1000 ∧ 0 < b ∧ b < 1000 ∧
  ∀ l H' (rs : List Int), Ext H H' → H l = none → H' l = some (.lst (rs.map V.int)) → rs.length = n → (∀ r ∈ rs, 0 ≤ r ∧ r < b) → Q (.ref l) H'
theorem ok_law_row (T : Top K mg) : FnOk P w K mg base CX0 2 T.f_law_row T.d_law_row ["cell", "count", "bound"] (spRow K) := by
  refine T.F_law_row.ok sc_law_row (fun vs H Q E h => ?_) (fun cdv A outer s H vs Q E hr h => ?_)
  · obtain ⟨c, b, n, rfl, _⟩ := h
    rfl
  · obtain ⟨c, b, n, rfl, hn, hb, hb2, q⟩ := h
    refine ⟨_, (pss_cons (ps_set (i := 3) sc_law_row.nd rfl (by first | exact .inl rfl | exact .inr rfl) (pe_lst pa_nil))
      (pss_cons (ps_set (i := 4) sc_law_row.nd rfl (by first | exact .inl rfl | exact .inr rfl) (pe_callB call_abs (by rfl) T.m_abs (by decide +kernel) (pa_cons (pv 0) pa_nil)))
      (pss_cons (ps_for PassesOwn.never rfl (pi_range1 (by rfl) T.m_range (pa_cons (pv 1) pa_nil)) (pg_name (i := 5) sc_law_row.nd rfl (by first | exact .inl rfl | exact .inr rfl)) (pss_one (ps_if (pt_cmpR op_ge (pe_callB call_abs (by rfl) T.m_abs (by decide +kernel) (pa_cons (pv 0) pa_nil)) pe_int (nomark _)) (pss_cons (ps_expr (pe_bm PySem.F.plainAttrs_list PySem.F.slot_list_append PySem.F.type_list_append mt_append (pv 3) (pa_cons (pe_op op_mod (pe_callTy call_int1 (by rfl) T.m_int (by decide +kernel) (pa_cons (pv 4) pa_nil)) (pv 2)) pa_nil)))
      (pss_one (ps_set (i := 4) sc_law_row.nd rfl (by first | exact .inl rfl | exact .inr rfl) (pe_op op_fdivZ (pv 4) (pv 2))))) (pss_one (ps_expr (pe_bm PySem.F.plainAttrs_list PySem.F.slot_list_append PySem.F.type_list_append mt_append (pv 3) (pa_cons (pe_op op_mod (pe_callTy call_int1 (by rfl) T.m_int (by decide +kernel) (pa_cons (pe_call (ok_law_mix T) (hr.mono (by decide)) (by rfl) T.g_law_mix T.F_law_mix.kp T.b_law_mix .nil pass0 (pa_cons (pv 0) (pa_cons (pv 5) pa_nil))) pa_nil)) (pv 2)) pa_nil)))))))
      (pss_one (ps_ret (pv 3)))))), ?_⟩
    refine ⟨by rw [sizeLine_eq]; simp, fun l hl => ?_⟩
    refine ⟨_, rfl, c, rfl, ?_⟩
    refine ⟨_, rfl, _, rfl, by omega, by omega, for_range (n := n) (fun i σ H1 => (∃ (x : Int) (y : Option V) (rs : List Int), σ = [some (.int c), some (.int (n : Int)), some (.int b), some (.ref l), some (.int x), y] ∧ Ext H H1 ∧ H1 l = some (.lst (rs.map V.int)) ∧ rs.length = i ∧ ∀ r ∈ rs, 0 ≤ r ∧ r < b))
      ⟨_, _, [], rfl, ext_upd hl, upd_same, rfl, fun r m => by simp at m⟩ (fun i σ H1 hi hP => ?_) (fun σ H1 hP => ?_)⟩
    · obtain ⟨x, y, rs, rfl, s1, hl1, hlen, hrs⟩ := hP
      have step : ∀ m : Int, ∃ rs', rs' = rs ++ [m % b] ∧ rs'.length = i + 1 ∧ ∀ r ∈ rs', 0 ≤ r ∧ r < b := fun m => ⟨_, rfl, by rw [List.length_append, hlen]; rfl, fun r hr => by
        rcases List.mem_append.mp hr with hr | hr
        · exact hrs r hr
        · rw [List.mem_singleton.mp hr]
          exact ⟨Int.emod_nonneg _ (by omega), Int.emod_lt_of_pos _ hb⟩⟩
      have cnt : (rs.map V.int).length < sizeLine := sl_lt (by rw [List.length_map]; omega)
      have app : ∀ m : Int, rs.map V.int ++ [V.int (m % b)] = (rs ++ [m % b]).map V.int := fun m => by rw [List.map_append]; rfl
      refine ⟨_, rfl, c, rfl, _, _, rfl, rfl, _, rfl, iteB (fun z => ?_) (fun z => ?_)⟩
      · refine ⟨_, rfl, .inl ⟨rfl, _, SqL.of hl1⟩, _, rfl, .inl ⟨_, rfl, _, rfl, _, _, rfl, rfl, hb, l, _, _, rfl, rfl, hl1, cnt, ?_⟩⟩
        refine ⟨_, rfl, _, rfl, _, _, rfl, rfl, ⟨by omega, ?_⟩, ?_⟩
        · refine Nat.lt_of_lt_of_le (PySem.Flt.log2_lt_of (k := 10) (by decide) ?_) (by decide)
          omega
        · obtain ⟨rs', e1, e2, e3⟩ := step x
          subst e1
          exact ⟨_, _, _, rfl, s1.own hl, by rw [upd_same, app], e2, e3⟩
      · refine ⟨_, rfl, .inl ⟨rfl, _, SqL.of hl1⟩, _, rfl, _, rfl, c, _, rfl, fun m hm => .inl ⟨_, rfl, _, rfl, _, _, rfl, rfl, hb, l, _, _, rfl, rfl, hl1, cnt, ?_⟩⟩
        obtain ⟨rs', e1, e2, e3⟩ := step m
        subst e1
        exact ⟨_, _, _, rfl, s1.own hl, by rw [upd_same, app], e2, e3⟩
    · obtain ⟨x, y, rs, rfl, s1, hl1, hlen, hrs⟩ := hP
      exact ⟨_, rfl, q l H1 rs s1 hl hl1 hlen hrs⟩
/-! ### the pairs of vertices -/
def rowP (n u : Nat) : List (Int × Int) := (List.range (n - (u + 1))).map fun j => ((u : Int), ((u + 1 + j : Nat) : Int))
def prs (n : Nat) : Nat → List (Int × Int)
  | 0 => []
  | i + 1 => prs n i ++ rowP n i
def ltK (x y : Int × Int) : Prop := x.1 < y.1 ∨ (x.1 = y.1 ∧ x.2 < y.2)
theorem mem_row {n u : Nat} {x : Int × Int} (h : x ∈ rowP n u) : x.1 = u ∧ (u : Int) < x.2 ∧ x.2 < n := by
  obtain ⟨j, hj, rfl⟩ := List.mem_map.mp h
  have := List.mem_range.mp hj
  exact ⟨rfl, by show (u : Int) < ((u + 1 + j : Nat) : Int); omega, by show ((u + 1 + j : Nat) : Int) < n; omega⟩
theorem mem_prs {n : Nat} {x : Int × Int} : ∀ {i : Nat}, x ∈ prs n i → 0 ≤ x.1 ∧ x.1 < i ∧ x.1 < x.2 ∧ x.2 < n
  | 0, h => by cases h
  | i + 1, h => by
    rcases List.mem_append.mp h with h | h
    · have := mem_prs h
      omega
    · have := mem_row h
      omega
theorem prs_asc (n : Nat) : ∀ i, (prs n i).Pairwise ltK
  | 0 => .nil
  | i + 1 => by
    refine List.pairwise_append.mpr ⟨prs_asc n i, ?_, fun x hx y hy => ?_⟩
    · unfold rowP
      rw [List.pairwise_map]
      refine (List.pairwise_lt_range (n := n - (i + 1))).imp fun {a b} h => ?_
      refine .inr ⟨rfl, ?_⟩
      show ((i + 1 + a : Nat) : Int) < ((i + 1 + b : Nat) : Int)
      omega
    · have h1 := mem_prs hx
      have h2 := mem_row hy
      exact .inl (by omega)
theorem prs_cnt : ∀ n, n ≤ 7 → 2 * (prs n n).length ≤ n * (n - 1) := by decide
theorem prs_len : ∀ n, n ≤ 7 → (prs n n).length ≤ 21 := by decide
/-- an edge known to be a tuple -/
def EdgeT (H : Hp) (v : V) (e : Eg) : Prop := ∃ a, v = .ref a ∧ H a = some (.tup [.int e.1, .int e.2.1, .int e.2.2])
theorem edges_at {H : Hp} {xs : List V} {es : List Eg} (h : Paired (EdgeT H) xs es) : Paired (EdgeAt K H) xs es := paired_imp (fun _ _ ⟨a, e, h⟩ => ⟨a, e, SqT.of h⟩) h
theorem _root_.EXT.Ext.edgesT {H H' : Hp} (s : Ext H H') {xs : List V} {es : List Eg} (h : Paired (EdgeT H) xs es) : Paired (EdgeT H') xs es := paired_imp (fun _ _ ⟨a, e, h⟩ => ⟨a, e, s.at h⟩) h
theorem edgesT_upd {H : Hp} {D : Addr} {o : HO} {acc : List V} {xs : List V} {es : List Eg} (hD : H D = some (.lst acc)) (h : Paired (EdgeT H) xs es) : Paired (EdgeT (upd H D o)) xs es :=
  paired_imp (fun _ _ ⟨a, e, h⟩ => ⟨a, e, by rw [upd_ne (fun z => by rw [z, hD] at h; cases h)]; exact h⟩) h
/-- pairs known to be tuples -/
def PrT (H : Hp) (v : V) (k : Int × Int) : Prop := ∃ a, v = .ref a ∧ H a = some (.tup [.int k.1, .int k.2])
theorem _root_.EXT.Ext.prs {H H' : Hp} (s : Ext H H') {xs : List V} {ks : List (Int × Int)} (h : Paired (PrT H) xs ks) : Paired (PrT H') xs ks := paired_imp (fun _ _ ⟨a, e, h⟩ => ⟨a, e, s.at h⟩) h
theorem prs_upd {H : Hp} {D : Addr} {o : HO} {acc : List V} {xs : List V} {ks : List (Int × Int)} (hD : H D = some (.lst acc)) (h : Paired (PrT H) xs ks) : Paired (PrT (upd H D o)) xs ks :=
  paired_imp (fun _ _ ⟨a, e, h⟩ => ⟨a, e, by rw [upd_ne (fun z => by rw [z, hD] at h; cases h)]; exact h⟩) h
/-- fields and edges as the law draws them -/
structure Drawn (most : Int) (fs : List Int) (es : List Eg) : Prop where
  one : 1 ≤ fs.length
  most : (fs.length : Int) ≤ most
  small : ∀ f ∈ fs, -2 ≤ f ∧ f ≤ 2
  len : es.length ≤ 21
  ok : ∀ e ∈ es, okE fs.length e
  asc : es.Pairwise ltEg
  cnt : 2 * es.length ≤ fs.length * (fs.length - 1)
theorem coup_at (r : Int) (h0 : 0 ≤ r) (h6 : r < 12) : ∃ c : Int, atI [V.int 1, .int (-1), .int 0, .int 2, .int 1, .int 0, .int (-2), .int 3, .int 0, .int 1, .int (-1), .int 0] r = some (.int c) ∧ -2 ≤ c ∧ c ≤ 3 := by
  have : r = 0 ∨ r = 1 ∨ r = 2 ∨ r = 3 ∨ r = 4 ∨ r = 5 ∨ r = 6 ∨ r = 7 ∨ r = 8 ∨ r = 9 ∨ r = 10 ∨ r = 11 := by omega
  rcases this with rfl | rfl | rfl | rfl | rfl | rfl | rfl | rfl | rfl | rfl | rfl | rfl <;> exact ⟨_, rfl, by decide, by decide⟩
def spSpins (K : PySem.W.Frag) : Sp := fun vs H Q _ => ∃ (a : Addr) (ns : List Int) (first : Nat) (most kind : Int), vs = [.ref a, .int (first : Int), .int most, .int kind] ∧ SqL K H a (ns.map V.int) ∧ 1 ≤ most ∧ most ≤ 7 ∧
  ∀ l H' fb eb fs xs es, Ext H H' → H l = none → H' l = some (.tup [.ref fb, .ref eb]) → H fb = none → H' fb = some (.lst (fs.map V.int)) → H eb = none → H' eb = some (.lst xs) → Paired (EdgeT H') xs es → Drawn most fs es → Q (.ref l) H'
theorem ok_law_spins (T : Top K mg) : FnOk P w K mg base CX0 3 T.f_law_spins T.d_law_spins ["script", "first", "most", "kind"] (spSpins K) := by
  refine T.F_law_spins.ok sc_law_spins (fun vs H Q E h => ?_) (fun cdv A outer s H vs Q E hr h => ?_)
  · obtain ⟨a, ns, first, most, kind, rfl, _⟩ := h
    rfl
  obtain ⟨a, ns, first, most, kind, rfl, hS, hm1, hm7, q⟩ := h
  refine ⟨_, (pss_cons (ps_set (i := 4) sc_law_spins.nd rfl (by first | exact .inl rfl | exact .inr rfl) (pe_op op_add pe_int (pe_op op_mod (pe_call (ok_law_cell T) (hr.mono (by decide)) (by rfl) T.g_law_cell T.F_law_cell.kp T.b_law_cell .nil pass0 (pa_cons (pv 0) (pa_cons (pv 1) pa_nil))) (pv 2))))
      (pss_cons (ps_set (i := 5) sc_law_spins.nd rfl (by first | exact .inl rfl | exact .inr rfl) (pe_op op_rep (pe_lst (pa_cons pe_int pa_nil)) (pv 4)))
      (C8.pss_cut (ps_if (pt_cmpR op_lt (pv 3) pe_int (nomark _)) (pss_one (ps_setLc (i := 5) (own := [("digit", 6)]) (g := gName 6) (tt := tYes) rfl sc_law_spins.nd rfl rfl (sw_true rfl rfl rfl (by decide +kernel)) (pi_list (pe_call (ok_law_row T) (hr.mono (by decide)) (by rfl) T.g_law_row T.F_law_row.kp T.b_law_row .nil pass0 (pa_cons (pe_call (ok_law_cell T) (hr.mono (by decide)) (by rfl) T.g_law_cell T.F_law_cell.kp T.b_law_cell .nil pass0 (pa_cons (pv 0) (pa_cons (pe_op op_add (pv 1) pe_int) pa_nil))) (pa_cons (pv 4) (pa_cons pe_int pa_nil))))) (blkOk_by (own := [("digit", 6)]) (N := n_law_spins) (sc := defScope s_law_spins) (by decide +kernel)) (fun _ _ _ _ _ => (pg_name (i := 6) sc_law_spins.nd rfl (by first | exact .inl rfl | exact .inr rfl))) (fun _ _ _ _ _ => pts_nil) (fun _ _ _ _ _ => (pe_op op_sub (pv 6) pe_int)))) pss_nil)
      (pss_cons (ps_set (i := 7) sc_law_spins.nd rfl (by first | exact .inl rfl | exact .inr rfl) (pe_lst pa_nil))
      (C8.pss_cut (ps_for PassesOwn.never rfl (pi_range1 (by rfl) T.m_range (pa_cons (pv 4) pa_nil)) (pg_name (i := 8) sc_law_spins.nd rfl (by first | exact .inl rfl | exact .inr rfl)) (pss_one (ps_aug (i := 7) sc_law_spins.nd rfl (by first | exact .inl rfl | exact .inr rfl) (pe_lc (own := [("v", 9)]) (g := gName 9) (tt := tYes) rfl sc_law_spins.nd (pi_range2 (by rfl) T.m_range (pa_cons (pe_op op_add (pv 8) pe_int) (pa_cons (pv 4) pa_nil))) (blkOk_by (own := [("v", 9)]) (N := n_law_spins) (sc := defScope s_law_spins) (by decide +kernel)) (fun _ _ _ _ _ => (pg_name (i := 9) sc_law_spins.nd rfl (by first | exact .inl rfl | exact .inr rfl))) (fun _ _ _ _ _ => pts_nil) (fun _ _ _ _ _ => (pe_tup (pa_cons (pv 8) (pa_cons (pv 9) pa_nil))))) iop_ext)))
      (pss_cons (ps_set (i := 10) sc_law_spins.nd rfl (by first | exact .inl rfl | exact .inr rfl) (pe_lst pa_nil))
      (pss_cons (ps_set (i := 11) sc_law_spins.nd rfl (by first | exact .inl rfl | exact .inr rfl) (pe_call (ok_law_row T) (hr.mono (by decide)) (by rfl) T.g_law_row T.F_law_row.kp T.b_law_row .nil pass0 (pa_cons (pe_call (ok_law_cell T) (hr.mono (by decide)) (by rfl) T.g_law_cell T.F_law_cell.kp T.b_law_cell .nil pass0 (pa_cons (pv 0) (pa_cons (pe_op op_add (pv 1) pe_int) pa_nil))) (pa_cons (pe_callB call_len_seq (by rfl) T.m_len (by decide +kernel) (pa_cons (pv 7) pa_nil)) (pa_cons pe_int pa_nil)))))
      (pss_cons (ps_for PassesOwn.never rfl (pi_range1 (by rfl) T.m_range (pa_cons (pe_callB call_len_seq (by rfl) T.m_len (by decide +kernel) (pa_cons (pv 7) pa_nil)) pa_nil)) (pg_name (i := 12) sc_law_spins.nd rfl (by first | exact .inl rfl | exact .inr rfl)) (pss_cons (ps_set (i := 13) sc_law_spins.nd rfl (by first | exact .inl rfl | exact .inr rfl) (pe_ix ix_tup (pe_tup (pa_cons pe_int (pa_cons (pe_un un_neg pe_int) (pa_cons pe_int (pa_cons pe_int (pa_cons pe_int (pa_cons pe_int (pa_cons (pe_un un_neg pe_int) (pa_cons pe_int (pa_cons pe_int (pa_cons pe_int (pa_cons (pe_un un_neg pe_int) (pa_cons pe_int pa_nil))))))))))))) (pe_ix ix_list (pv 11) (pv 12) (fun _ _ => rfl)) (fun _ _ => rfl)))
      (pss_one (ps_if (pt_cmpR op_ne (pv 13) pe_int (nomark _)) (pss_one (ps_expr (pe_bm PySem.F.plainAttrs_list PySem.F.slot_list_append PySem.F.type_list_append mt_append (pv 10) (pa_cons (pe_tup (pa_cons (pe_ix ix_tup (pe_ix ix_list (pv 7) (pv 12) (fun _ _ => rfl)) pe_int (fun _ _ => rfl)) (pa_cons (pe_ix ix_tup (pe_ix ix_list (pv 7) (pv 12) (fun _ _ => rfl)) pe_int (fun _ _ => rfl)) (pa_cons (pe_ifExp (pt_cmpR op_in_seq (pv 3) (pe_tup (pa_cons pe_int (pa_cons pe_int pa_nil))) (by rfl)) (pe_callB call_abs (by rfl) T.m_abs (by decide +kernel) (pa_cons (pv 13) pa_nil)) (pv 13)) pa_nil)))) pa_nil)))) pss_nil))))
      (pss_one (ps_ret (pe_tup (pa_cons (pv 5) (pa_cons (pv 10) pa_nil))))))))))))), ?_⟩
  -- count
  refine ⟨_, rfl, _, rfl, a, ns, first, rfl, hS, _, rfl, _, _, rfl, rfl, (show 0 < most by omega), _, _, rfl, rfl, ?_⟩
  obtain ⟨n, hn, hn7⟩ : ∃ n : Nat, 1 + cellZ ns first % most = ((n + 1 : Nat) : Int) ∧ ((n + 1 : Nat) : Int) ≤ most := by
    have h1 := Int.emod_nonneg (cellZ ns first) (show most ≠ 0 by omega)
    have h2 := Int.emod_lt_of_pos (cellZ ns first) (show 0 < most by omega)
    exact ⟨(cellZ ns first % most).toNat, by omega, by omega⟩
  have hn8 : n ≤ 6 := by omega
  have ec : V.int (1 + cellZ ns first % most) = V.int ((n + 1 : Nat) : Int) := by rw [hn]
  refine ⟨by rw [sizeLine_eq]; simp, fun l0 hl0 => ⟨_, rfl, l0, _, [V.int 0], rfl, rfl, upd_same, by omega, by omega, ?_, fun f0 hf0 => ?_⟩⟩
  · rw [hn, sizeLine_eq]
    show 1 * (((n + 1 : Nat) : Int)).toNat ≤ _
    omega
  have s0 : Ext H (upd (upd H l0 (.lst [V.int 0])) f0 (.lst (List.replicate (1 + cellZ ns first % most).toNat [V.int 0]).flatten)) := (ext_upd hl0).new hf0
  have nf0 : H f0 = none := (ext_upd hl0).free hf0
  have hfl : upd (upd H l0 (.lst [V.int 0])) f0 (.lst (List.replicate (1 + cellZ ns first % most).toNat [V.int 0]).flatten) f0 = some (.lst ((List.replicate (n + 1) (0 : Int)).map V.int)) := by
    rw [upd_same, hn]
    have : ((n + 1 : Nat) : Int).toNat = n + 1 := by omega
    rw [this, List.map_replicate]
    have e : ∀ k, (List.replicate k [V.int 0]).flatten = List.replicate k (V.int 0) := fun k => by
      induction k with
      | zero => rfl
      | succ k ih => rw [List.replicate_succ, List.flatten_cons, ih, List.replicate_succ]; rfl
    rw [e]
  generalize upd (upd H l0 (.lst [V.int 0])) f0 (.lst (List.replicate (1 + cellZ ns first % most).toNat [V.int 0]).flatten) = H1 at *
  refine ⟨fun σ H2 => ∃ (fb : Addr) (fs : List Int), σ = [some (.ref a), some (.int (first : Int)), some (.int most), some (.int kind), some (.int ((n + 1 : Nat) : Int)), some (.ref fb), none, none, none, none, none, none, none, none] ∧ Ext H H2 ∧ H fb = none ∧ H2 fb = some (.lst (fs.map V.int)) ∧ fs.length = n + 1 ∧ ∀ f ∈ fs, -2 ≤ f ∧ f ≤ 2, ?_, ?_⟩
  · refine ⟨_, rfl, _, _, rfl, rfl, _, rfl, ite2 (fun _ => ?_) (fun _ => ?_)⟩
    · refine ⟨_, rfl, _, rfl, _, _, rfl, rfl, a, ns, first + 1, rfl, s0.seq hS, _, rfl, cellZ ns (first + 1), 5, n + 1, by rw [← ec]; rfl, by omega, by decide, by decide, fun l H2 rs s2 nl hl lrs hrs => ?_⟩
      have s02 := s0.trans s2
      refine ⟨l, rfl, ⟨_, SqL.of hl⟩, fun D hD => lc_list (xs := rs.map V.int) (fun i H3 => Ext H2 H3 ∧ H3 D = some (.lst (((rs.take i).map fun r => r - 2).map V.int))) ⟨ext_upd hD, upd_same⟩ (fun i H3 _ h => SqL.of (h.1.lst hl)) (fun i x H3 hi hP => ?_) (fun H3 hP => ?_)⟩
      · obtain ⟨s3, hz⟩ := hP
        rw [List.getElem?_map] at hi
        cases hr2 : rs[i]? with
        | none => rw [hr2] at hi; cases hi
        | some r =>
          rw [hr2] at hi
          cases hi
          refine ⟨rfl, _, rfl, _, _, rfl, rfl, _, hz, ?_, s3.own hD, ?_⟩
          · rw [List.length_map, List.length_map, List.length_take]
            exact sl_lt (by omega)
          · rw [upd_same, take_snoc hr2, List.map_append, List.map_append]
            rfl
      · obtain ⟨s3, hz⟩ := hP
        rw [List.length_map, List.take_length] at hz
        refine ⟨D, rs.map fun r => r - 2, ?_, s02.trans s3, s02.free hD, hz, by rw [List.length_map]; exact lrs, fun f m => ?_⟩
        · rw [← ec]
          rfl
        · obtain ⟨r, hr3, rfl⟩ := List.mem_map.mp m
          have := hrs r hr3
          omega
    · refine ⟨f0, List.replicate (n + 1) 0, ?_, s0, nf0, hfl, List.length_replicate, fun f m => ?_⟩
      · rw [← ec]
        rfl
      · rw [List.eq_of_mem_replicate m]
        decide
  rintro σ H2 ⟨fb, fs, rfl, s2, nfb, hfb, lfs, sfs⟩
  -- pairs
  refine ⟨by rw [sizeLine_eq]; simp, fun pl hpl => ?_⟩
  have npl : H pl = none := s2.free hpl
  refine ⟨fun σ H3 => ∃ (u : Option V) (xs : List V), σ = [some (.ref a), some (.int (first : Int)), some (.int most), some (.int kind), some (.int ((n + 1 : Nat) : Int)), some (.ref fb), none, some (.ref pl), u, none, none, none, none, none] ∧ Ext H2 H3 ∧ H3 pl = some (.lst xs) ∧ Paired (PrT H3) xs (prs (n + 1) (n + 1)), ?_, ?_⟩
  · refine ⟨_, rfl, _, rfl, by omega, by omega, for_range (n := n + 1) (fun i σ H3 => ∃ (u : Option V) (xs : List V), σ = [some (.ref a), some (.int (first : Int)), some (.int most), some (.int kind), some (.int ((n + 1 : Nat) : Int)), some (.ref fb), none, some (.ref pl), u, none, none, none, none, none] ∧ Ext H2 H3 ∧ H3 pl = some (.lst xs) ∧ Paired (PrT H3) xs (prs (n + 1) i) ∧ xs.length ≤ 7 * i)
      ⟨_, [], rfl, ext_upd hpl, upd_same, .nil, Nat.zero_le _⟩ (fun i σ H3 hi hP => ?_) (fun σ H3 hP => ?_)⟩
    · obtain ⟨u, xs, rfl, s3, hxs, hpr, lxs⟩ := hP
      have rl : (rowP (n + 1) i).length ≤ 6 := by
        unfold rowP
        rw [List.length_map, List.length_range]
        omega
      refine ⟨_, rfl, _, rfl, _, _, rfl, rfl, _, rfl, _, _, rfl, ⟨by omega, by omega, by omega, by omega⟩, fun D hD => lc_range (lo := 0 + (i : Int) + 1) (n := (((n + 1 : Nat) : Int) - (0 + (i : Int) + 1)).toNat) (fun j H4 => Ext H3 H4 ∧ ∃ ys, H4 D = some (.lst ys) ∧ Paired (PrT H4) ys ((rowP (n + 1) i).take j)) ⟨ext_upd hD, [], upd_same, .nil⟩ (fun j H4 hj hP => ?_) (fun H4 hP => ?_)⟩
      · obtain ⟨s4, ys, hys, hp4⟩ := hP
        have hj : j < n + 1 - (i + 1) := by omega
        have hg : (rowP (n + 1) i)[j]? = some (0 + (i : Int), 0 + (i : Int) + 1 + (j : Int)) := by
          unfold rowP
          rw [List.getElem?_map, List.getElem?_range hj]
          show some ((i : Int), ((i + 1 + j : Nat) : Int)) = _
          congr 1
          refine Prod.ext ?_ ?_
          · show (i : Int) = 0 + i
            omega
          · show ((i + 1 + j : Nat) : Int) = 0 + (i : Int) + 1 + j
            omega
        refine ⟨rfl, _, rfl, _, rfl, sl2, fun p hp => ?_⟩
        have hys2 := (ext_upd (o := .tup [V.int (0 + (i : Int)), .int (0 + (i : Int) + 1 + (j : Int))]) hp).lst hys
        refine ⟨ys, hys2, ?_, (s4.new hp).own hD, ys ++ [.ref p], upd_same, ?_⟩
        · have l4 := hp4.length
          rw [List.length_take] at l4
          exact sl_lt (by omega)
        · rw [take_snoc hg]
          exact prs_upd hys2 (paired_snoc ((ext_upd hp).prs hp4) ⟨p, rfl, upd_same⟩)
      · obtain ⟨s4, ys, hys, hp4⟩ := hP
        have el : (((n + 1 : Nat) : Int) - (0 + (i : Int) + 1)).toNat = (rowP (n + 1) i).length := by
          unfold rowP
          rw [List.length_map, List.length_range]
          omega
        rw [el, List.take_length] at hp4
        have hx4 := s4.lst hxs
        have npl2 : H2 pl = none := hpl
        refine ⟨pl, D, xs, ys, rfl, rfl, hx4, hys, ?_, ?_⟩
        · have := hp4.length
          exact sl_of (by omega)
        · refine ⟨_, _, rfl, (s3.trans s4).own npl2, upd_same, ?_, ?_⟩
          · exact prs_upd hx4 (paired_app (s4.prs hpr) hp4)
          · have := hp4.length
            rw [List.length_append]
            omega
    · obtain ⟨u, xs, rfl, s3, hxs, hpr, _⟩ := hP
      exact ⟨u, xs, rfl, s3, hxs, hpr⟩
  rintro σ H3 ⟨u, ps, rfl, s3, hps, hpr⟩
  -- edges, digits
  have lp := hpr.length
  have lp21 : (prs (n + 1) (n + 1)).length ≤ 21 := prs_len (n + 1) (by omega)
  have s03 := s2.trans s3
  have nfb3 : H3 fb = some (.lst (fs.map V.int)) := s3.lst hfb
  refine ⟨by rw [sizeLine_eq]; simp, fun e0 he0 => ?_⟩
  have ne0 : H e0 = none := s03.free he0
  have x4 : Ext H3 (upd H3 e0 (.lst [])) := ext_upd he0
  have he1 : upd H3 e0 (.lst []) e0 = some (.lst []) := upd_same
  generalize upd H3 e0 (.lst []) = H4 at *
  have s04 := s03.trans x4
  refine ⟨_, rfl, _, rfl, _, _, rfl, rfl, a, ns, first + 2, rfl, s04.seq hS, _, rfl, pl, _, rfl, .inl (SqL.of (x4.lst hps)), cellZ ns (first + 2), 12, ps.length, rfl, by omega, by decide, by decide, fun dl H5 rs s5 nd hd ld hrs => ?_⟩
  have s05 := s04.trans s5
  have x5 := x4.trans s5
  have n1 : fb ≠ e0 := ne_of_none nfb3 he0
  have n2 : pl ≠ e0 := ne_of_none hps he0
  have n3 : dl ≠ e0 := (ne_of_none he1 nd).symm
  refine ⟨_, rfl, pl, _, rfl, .inl (SqL.of (x5.lst hps)), _, rfl, by omega, by omega, for_range (n := ps.length) (fun k σ H6 => ∃ (w1 w2 : Option V) (xs : List V) (es : List Eg), σ = [some (.ref a), some (.int (first : Int)), some (.int most), some (.int kind), some (.int ((n + 1 : Nat) : Int)), some (.ref fb), none, some (.ref pl), u, none, some (.ref e0), some (.ref dl), w1, w2] ∧ Ext H H6 ∧
      H6 fb = some (.lst (fs.map V.int)) ∧ H6 pl = some (.lst ps) ∧ Paired (PrT H6) ps (prs (n + 1) (n + 1)) ∧ H6 dl = some (.lst (rs.map V.int)) ∧ H6 e0 = some (.lst xs) ∧ Paired (EdgeT H6) xs es ∧ (es.map fun e => (e.1, e.2.1)).Sublist ((prs (n + 1) (n + 1)).take k) ∧ ∀ e ∈ es, e.2.2 ≠ 0 ∧ -9 ≤ e.2.2 ∧ e.2.2 ≤ 9)
    ⟨_, _, [], [], rfl, s05, x5.lst nfb3, x5.lst hps, x5.prs hpr, hd, s5.lst he1, .nil, List.nil_sublist _, fun e m => by simp at m⟩ (fun k σ H6 hk hP => ?_) (fun σ H6 hP => ?_)⟩
  · obtain ⟨w1, w2, xs, es, rfl, s6, f6, p6, pr6, d6, e6, ee6, sub, good⟩ := hP
    have hkp : k < ps.length := by
      have : (k : Int) < ps.length := by omega
      omega
    obtain ⟨pk, hpk⟩ : ∃ v, ps[k]? = some v := ⟨_, List.getElem?_eq_getElem hkp⟩
    obtain ⟨⟨pu, pw⟩, hprk, pa, rfl, hpa⟩ := paired_at pr6 hpk
    obtain ⟨r, hrk⟩ : ∃ r, rs[k]? = some r := ⟨_, List.getElem?_eq_getElem (by omega)⟩
    have hr12 := hrs r (List.mem_of_getElem? hrk)
    obtain ⟨c, hc, hc3⟩ := coup_at r hr12.1 hr12.2
    have lxs : xs.length ≤ 21 := by
      have h1 := ee6.length
      have h2 := sub.length_le
      rw [List.length_map, List.length_take] at h2
      omega
    have atk : ∀ {α : Type} {zs : List α} {z : α}, zs[k]? = some z → atI zs (0 + (k : Int)) = some z := fun h => by
      rw [Int.zero_add]
      exact atI_nat h
    refine ⟨_, rfl, _, rfl, _, rfl, by rw [sizeLine_eq]; simp, fun tp htp => ?_⟩
    have y1 := ext_upd (o := .tup [V.int 1, .int (-1), .int 0, .int 2, .int 1, .int 0, .int (-2), .int 3, .int 0, .int 1, .int (-1), .int 0]) htp
    refine ⟨_, rfl, _, rfl, dl, rs.map V.int, _, .int r, rfl, rfl, SqL.of (y1.lst d6), atk (by rw [List.getElem?_map, hrk]; rfl), tp, _, r, .int c, rfl, rfl, SqT.of upd_same, hc, ?_⟩
    generalize upd H6 tp (.tup [V.int 1, .int (-1), .int 0, .int 2, .int 1, .int 0, .int (-2), .int 3, .int 0, .int 1, .int (-1), .int 0]) = H7 at *
    have subk : (es.map fun e => (e.1, e.2.1)).Sublist ((prs (n + 1) (n + 1)).take (k + 1)) := by
      rw [take_snoc hprk]
      exact sub.trans (List.sublist_append_left _ _)
    refine ⟨_, rfl, rfl, _, rfl, iteB (fun z => ?_) (fun z => ?_)⟩
    · have cz : c ≠ 0 := fun w => by
        rw [w] at z
        cases z
      refine ⟨_, rfl, .inl ⟨rfl, _, SqL.of (y1.lst e6)⟩, _, rfl, _, rfl, pl, ps, _, _, rfl, rfl, SqL.of (y1.lst p6), atk hpk, pa, _, 0, _, rfl, rfl, SqT.of (y1.at hpa), atI_nat (j := 0) rfl,
        _, rfl, _, rfl, pl, ps, _, _, rfl, rfl, SqL.of (y1.lst p6), atk hpk, pa, _, 1, _, rfl, rfl, SqT.of (y1.at hpa), atI_nat (j := 1) rfl, _, rfl, sl2, fun q1 hq1 => ?_⟩
      have y2 := y1.trans (ext_upd (o := .tup [V.int 1, .int 3]) hq1)
      refine ⟨q1, _, rfl, .inr (SqT.of upd_same), rfl, rfl, _, rfl, ?_⟩
      generalize upd H7 q1 (.tup [V.int 1, .int 3]) = H8 at *
      have key : ∀ c' : Int, c' ≠ 0 → -9 ≤ c' → c' ≤ 9 → ∀ p3, H8 p3 = none → Ext H6 (upd H8 p3 (.tup [.int pu, .int pw, .int c'])) ∧ (∀ e ∈ es ++ [(pu, pw, c')], e.2.2 ≠ 0 ∧ -9 ≤ e.2.2 ∧ e.2.2 ≤ 9) ∧ ((es ++ [(pu, pw, c')]).map fun e => (e.1, e.2.1)).Sublist ((prs (n + 1) (n + 1)).take (k + 1)) := fun c' h1 h2 h3 p3 hp3 => by
        refine ⟨y2.new hp3, fun e m => ?_, ?_⟩
        · rcases List.mem_append.mp m with m | m
          · exact good e m
          · rw [List.mem_singleton.mp m]
            exact ⟨h1, h2, h3⟩
        · rw [take_snoc hprk, List.map_append]
          exact sub.append (List.Sublist.refl _)
      refine iteB (fun _ => ?_) (fun _ => ?_)
      · refine ⟨_, rfl, c, rfl, by rw [sizeLine_eq]; simp, fun p3 hp3 => ?_⟩
        obtain ⟨y3, g3, sb3⟩ := key (if c < 0 then -c else c) (by split <;> omega) (by split <;> omega) (by split <;> omega) p3 hp3
        have ee := y3.lst e6
        refine ⟨e0, xs, .ref p3, rfl, rfl, ee, sl_lt (by omega), _, _, xs ++ [.ref p3], _, rfl, (s6.trans y3).own ne0, ?_, ?_, ?_, ?_, upd_same, edgesT_upd ee (paired_snoc (y3.edgesT ee6) ⟨p3, rfl, upd_same⟩), sb3, g3⟩
        · rw [upd_ne n1]
          exact y3.lst f6
        · rw [upd_ne n2]
          exact y3.lst p6
        · exact prs_upd ee (y3.prs pr6)
        · rw [upd_ne n3]
          exact y3.lst d6
      · refine ⟨_, rfl, by rw [sizeLine_eq]; simp, fun p3 hp3 => ?_⟩
        obtain ⟨y3, g3, sb3⟩ := key c cz (by omega) (by omega) p3 hp3
        have ee := y3.lst e6
        refine ⟨e0, xs, .ref p3, rfl, rfl, ee, sl_lt (by omega), _, _, xs ++ [.ref p3], _, rfl, (s6.trans y3).own ne0, ?_, ?_, ?_, ?_, upd_same, edgesT_upd ee (paired_snoc (y3.edgesT ee6) ⟨p3, rfl, upd_same⟩), sb3, g3⟩
        · rw [upd_ne n1]
          exact y3.lst f6
        · rw [upd_ne n2]
          exact y3.lst p6
        · exact prs_upd ee (y3.prs pr6)
        · rw [upd_ne n3]
          exact y3.lst d6
    · exact ⟨_, _, xs, es, rfl, s6.trans y1, y1.lst f6, y1.lst p6, y1.prs pr6, y1.lst d6, y1.lst e6, y1.edgesT ee6, subk, good⟩
  · obtain ⟨w1, w2, xs, es, rfl, s6, f6, p6, pr6, d6, e6, ee6, sub, good⟩ := hP
    rw [lp, List.take_length] at sub
    refine ⟨_, rfl, _, rfl, sl2, fun l hl => ?_⟩
    have y1 := ext_upd (o := .tup [V.ref fb, .ref e0]) hl
    refine q l _ fb e0 fs xs es (s6.new hl) (s6.free hl) upd_same nfb (y1.lst f6) ne0 (y1.lst e6) (y1.edgesT ee6) ⟨by omega, by rw [lfs]; exact hn7, sfs, ?_, fun e m => ?_, ?_, ?_⟩
    · have h2 := sub.length_le
      rw [List.length_map] at h2
      omega
    · have h1 := mem_prs (sub.subset (List.mem_map.mpr ⟨e, m, rfl⟩))
      obtain ⟨g1, g2, g3⟩ := good e m
      rw [lfs]
      exact ⟨h1.1, h1.2.2.1, h1.2.2.2, g1, g2, g3⟩
    · have h1 := (prs_asc (n + 1) (n + 1)).sublist sub
      rw [List.pairwise_map] at h1
      exact h1
    · have h2 := sub.length_le
      rw [List.length_map] at h2
      rw [lfs]
      exact Nat.le_trans (Nat.mul_le_mul_left 2 h2) (prs_cnt (n + 1) (by omega))
/-! ### data that may be laid -/
def Gd (n : Nat) (d : PyData) : Prop := d.canLay0 = true ∧ d.depth ≤ n
theorem gd_int (i : Int) : Gd 3 (.int i) := ⟨by simp [PyData.canLay0], by simp [PyData.depth]⟩
theorem gd_all {n : Nat} : ∀ {ds : List PyData}, (∀ x ∈ ds, Gd n x) → PyData.canLayAll0 ds = true ∧ PyData.depthAll ds ≤ n
  | [], _ => ⟨by simp [PyData.canLayAll0], by simp [PyData.depthAll]⟩
  | d :: ds, h => by
    obtain ⟨h1, h2⟩ := h d List.mem_cons_self
    obtain ⟨h3, h4⟩ := gd_all fun x m => h x (List.mem_cons_of_mem _ m)
    simp only [PyData.canLayAll0, PyData.depthAll, h1, h3, Bool.and_self, true_and]
    omega
theorem gd_tup {n : Nat} {ds : List PyData} (h : ∀ x ∈ ds, Gd n x) : Gd (n + 1) (.tuple ds) := by
  obtain ⟨h1, h2⟩ := gd_all h
  refine ⟨by simp only [PyData.canLay0, h1], ?_⟩
  simp only [PyData.depth]
  omega
theorem gd_lst {n : Nat} {ds : List PyData} (h : ∀ x ∈ ds, Gd n x) : Gd (n + 1) (.list ds) := by
  obtain ⟨h1, h2⟩ := gd_all h
  refine ⟨by simp only [PyData.canLay0, h1], ?_⟩
  simp only [PyData.depth]
  omega
theorem Gd.up {n m : Nat} {d : PyData} (h : Gd n d) (k : n ≤ m) : Gd m d := ⟨h.1, Nat.le_trans h.2 k⟩
theorem Gd.sh {n : Nat} {d : PyData} (h : Gd n d) (k : n ≤ 64 := by decide) : SeqAt.shaped d = true := by
  unfold SeqAt.shaped
  rw [h.1, Bool.true_and]
  exact decide_eq_true (Nat.le_trans h.2 k)
theorem eqv_self {n : Nat} {d : PyData} (h : Gd n d) : PyData.eqv d d = true := SeqAt.eqv_refl d h.1
/-! orders, places, what leaves: the mathematics -/
/-- a dict from the ints of a list -/
def dkv (f : Int → V) (os : List Int) : List (Key × V) := os.map fun v => ((Sum.inl v : Key), f v)
theorem dkv_len (f : Int → V) (os : List Int) : (dkv f os).length = os.length := List.length_map _
theorem dkv_get {f : Int → V} {v : Int} : ∀ {os : List Int}, v ∈ os → valV (dkv f os) (Sum.inl v) = some (f v)
  | [], h => by simp at h
  | w :: os, h => by
    by_cases e : w = v
    · subst e
      exact valV_pos rfl
    · rw [show dkv f (w :: os) = ((Sum.inl w : Key), f w) :: dkv f os from rfl, valV_neg (fun z => e (Sum.inl.inj z))]
      exact dkv_get ((List.mem_cons.mp h).resolve_left fun z => e z.symm)
theorem dkv_none {f : Int → V} {v : Int} : ∀ {os : List Int}, v ∉ os → valV (dkv f os) (Sum.inl v) = none
  | [], _ => rfl
  | w :: os, h => by
    rw [show dkv f (w :: os) = ((Sum.inl w : Key), f w) :: dkv f os from rfl, valV_neg (fun z => h (by rw [Sum.inl.inj z]; exact List.mem_cons_self))]
    exact dkv_none fun m => h (List.mem_cons_of_mem _ m)
theorem dkv_any {f : Int → V} {v : Int} {os : List Int} : ((dkv f os).any fun kv => decide (kv.1 = (Sum.inl v : Key))) = decide (v ∈ os) := by
  unfold dkv
  rw [List.any_map]
  by_cases h : v ∈ os
  · rw [decide_eq_true h]
    exact List.any_eq_true.mpr ⟨v, h, by simp⟩
  · rw [decide_eq_false h]
    refine List.any_eq_false.mpr fun w m => ?_
    simp only [Function.comp, decide_eq_true_eq]
    exact fun z => h (by rw [← Sum.inl.inj z]; exact m)
theorem dkv_put {f : Int → V} {v : Int} {y : V} {os : List Int} (h : v ∈ os) : putK (dkv f os) (Sum.inl v) y = dkv (fun w => if w = v then y else f w) os := by
  unfold putK
  rw [dkv_any, decide_eq_true h, if_pos rfl]
  unfold dkv
  rw [List.map_map]
  refine List.map_congr_left fun w _ => ?_
  show (if (Sum.inl w : Key) = Sum.inl v then ((Sum.inl w : Key), y) else ((Sum.inl w : Key), f w)) = ((Sum.inl w : Key), if w = v then y else f w)
  by_cases e : w = v
  · rw [if_pos (by rw [e]), if_pos e]
  · rw [if_neg (fun z => e (Sum.inl.inj z)), if_neg e]
theorem dkv_new {f : Int → V} {v : Int} {os : List Int} (h : v ∉ os) : putK (dkv f os) (Sum.inl v) (f v) = dkv f (os ++ [v]) := by
  unfold putK
  rw [dkv_any, decide_eq_false h, if_neg (by decide)]
  unfold dkv
  rw [List.map_append]
  rfl
theorem dkv_congr {f g : Int → V} {os : List Int} (h : ∀ v ∈ os, f v = g v) : dkv f os = dkv g os := List.map_congr_left fun v m => by rw [h v m]
theorem at_int {os : List Int} {i : Nat} {x : V} (h : (os.map V.int)[i]? = some x) : ∃ v, os[i]? = some v ∧ x = .int v := by
  rw [List.getElem?_map] at h
  cases hv : os[i]? with
  | none => rw [hv] at h; cases h
  | some v =>
    rw [hv] at h
    cases h
    exact ⟨v, rfl, rfl⟩
def mx (i j : Int) : Int := if j > i then j else i
theorem mx_le {i j k : Int} : mx i j ≤ k ↔ i ≤ k ∧ j ≤ k := by
  unfold mx
  split <;> omega
def pl (os : List Int) (v : Int) : Int := (os.idxOf v : Int)
def laterE (os : List Int) (e : Int × Int) : Int := mx (pl os e.1) (pl os e.2)
/-- one edge more -/
def lvStep (os : List Int) (f : Int → Int) (e : Int × Int) : Int → Int :=
  let g := fun w => if w = e.1 then mx (f e.1) (laterE os e) else f w
  fun w => if w = e.2 then mx (g e.2) (laterE os e) else g w
def lvF (os : List Int) (es : List (Int × Int)) : Int → Int := es.foldl (lvStep os) (pl os)
theorem lvF_snoc (os : List Int) (es : List (Int × Int)) (e : Int × Int) : lvF os (es ++ [e]) = lvStep os (lvF os es) e := by
  unfold lvF
  rw [List.foldl_append]
  rfl
theorem lvStep_le {os : List Int} {f : Int → Int} {e : Int × Int} {v k : Int} : lvStep os f e v ≤ k ↔ f v ≤ k ∧ ((e.1 = v ∨ e.2 = v) → laterE os e ≤ k) := by
  unfold lvStep
  by_cases h2 : v = e.2
  · by_cases h1 : e.2 = e.1
    · simp only [h2, h1, if_true, mx_le]
      constructor
      · exact fun h => ⟨h.1.1, fun _ => h.2⟩
      · exact fun h => ⟨⟨h.1, h.2 (.inl trivial)⟩, h.2 (.inl trivial)⟩
    · simp only [h2, if_true, if_neg h1, mx_le]
      constructor
      · exact fun h => ⟨h.1, fun _ => h.2⟩
      · exact fun h => ⟨h.1, h.2 (.inr trivial)⟩
  · by_cases h1 : v = e.1
    · simp only [if_neg h2, h1, if_true, mx_le]
      rw [if_neg (by rw [← h1]; exact h2), mx_le]
      constructor
      · exact fun h => ⟨h.1, fun _ => h.2⟩
      · exact fun h => ⟨h.1, h.2 (.inl trivial)⟩
    · simp only [if_neg h2, if_neg h1]
      exact ⟨fun h => ⟨h, fun z => absurd z (by rintro (z | z); exact h1 z.symm; exact h2 z.symm)⟩, fun h => h.1⟩
theorem lvF_le {os : List Int} {v k : Int} (es : List (Int × Int)) : lvF os es v ≤ k ↔ pl os v ≤ k ∧ ∀ e ∈ es, (e.1 = v ∨ e.2 = v) → laterE os e ≤ k := by
  have key : ∀ (es : List (Int × Int)) (f : Int → Int), es.foldl (lvStep os) f v ≤ k ↔ f v ≤ k ∧ ∀ e ∈ es, (e.1 = v ∨ e.2 = v) → laterE os e ≤ k := fun es => by
    induction es with
    | nil => exact fun f => ⟨fun h => ⟨h, fun e m => by simp at m⟩, fun h => h.1⟩
    | cons e es ih =>
      intro f
      rw [List.foldl_cons, ih, lvStep_le]
      constructor
      · rintro ⟨⟨h1, h2⟩, h3⟩
        exact ⟨h1, fun e' m => (List.mem_cons.mp m).elim (fun z => z ▸ h2) (h3 e')⟩
      · rintro ⟨h1, h2⟩
        exact ⟨⟨h1, h2 e List.mem_cons_self⟩, fun e' m => h2 e' (List.mem_cons_of_mem _ m)⟩
  exact key es _
/-- the indexes of the edges that come at a vertex -/
def backs (os : List Int) (es : List (Int × Int)) (v : Int) : List Int := ((es.zipIdx).filter fun p => decide (laterE os p.1 = pl os v)).map fun p => (p.2 : Int)
theorem backs_snoc (os : List Int) (es : List (Int × Int)) (e : Int × Int) (v : Int) : backs os (es ++ [e]) v = backs os es v ++ (if laterE os e = pl os v then [(es.length : Int)] else []) := by
  unfold backs
  rw [List.zipIdx_append, List.filter_append, List.map_append]
  congr 1
  simp only [List.zipIdx_cons, List.zipIdx_nil, Nat.zero_add, List.filter_cons, List.filter_nil]
  split
  · rename_i h
    rw [if_pos (of_decide_eq_true h)]
    rfl
  · rename_i h
    rw [if_neg (fun z => h (decide_eq_true z))]
    rfl
/-- the steps along an order -/
abbrev Stp := Int × List Int × List Int
def stepOf (os : List Int) (es : List (Int × Int)) (i : Nat) (v : Int) : Stp := (v, backs os es v, os.filter fun w => decide (lvF os es w = (i : Int)))
def stepsOf (os : List Int) (es : List (Int × Int)) : List Stp := os.mapIdx fun i v => stepOf os es i v
theorem idx_at {os : List Int} (hn : os.Nodup) {i : Nat} {v : Int} (h : os[i]? = some v) : os.idxOf v = i := by
  obtain ⟨hi, rfl⟩ := List.getElem?_eq_some_iff.mp h
  exact hn.idxOf_getElem i hi
theorem idx_lt {os : List Int} {v : Int} (h : v ∈ os) : os.idxOf v < os.length := List.idxOf_lt_length_of_mem h
theorem at_idx {os : List Int} {v : Int} (h : v ∈ os) : os[os.idxOf v]? = some v := by
  rw [List.getElem?_eq_getElem (idx_lt h)]
  congr 1
  exact List.getElem_idxOf (idx_lt h)
theorem take_new {os : List Int} (hn : os.Nodup) {i : Nat} {v : Int} (h : os[i]? = some v) : v ∉ os.take i := fun m => by
  obtain ⟨j, hj⟩ := List.mem_iff_getElem?.mp m
  rw [List.getElem?_take] at hj
  split at hj
  · have h1 := idx_at hn hj
    have h2 := idx_at hn h
    omega
  · cases hj
/-- spins at p -/
structure SpAt (T : Top K mg) (H : Hp) (p : Addr) (fs : List Int) (es : List Eg) : Prop where
  gf : goodF fs
  ge : goodE fs.length es
  ex : ∃ dx fb eb ys, H p = some (.ins T.C_Spins dx [("fields", .ref fb), ("edges", .ref eb)]) ∧ SqT K H fb (fs.map V.int) ∧ SqT K H eb ys ∧ Paired (EdgeAt K H) ys es
theorem SpAt.up {T : Top K mg} {H H' : Hp} {p : Addr} {fs : List Int} {es : List Eg} (h : SpAt T H p fs es) (s : Ext H H') : SpAt T H' p fs es := by
  obtain ⟨g1, g2, dx, fb, eb, ys, h1, h2, h3, h4⟩ := h
  exact ⟨g1, g2, dx, fb, eb, ys, s.keep p _ h1 (fun _ z => by cases z), s.tup h2, s.tup h3, s.edges h4⟩
/-- the vertices 0 .. n - 1 -/
def rng (n : Nat) : List Int := (List.range n).map Int.ofNat
theorem rng_len (n : Nat) : (rng n).length = n := by
  unfold rng
  rw [List.length_map, List.length_range]
theorem rng_nodup (n : Nat) : (rng n).Nodup := by
  unfold rng
  rw [List.Nodup, List.pairwise_map]
  exact (List.nodup_range (n := n)).imp fun h z => h (Int.ofNat.inj z)
theorem mem_rng {n : Nat} {v : Int} : v ∈ rng n ↔ 0 ≤ v ∧ v < n := by
  unfold rng
  constructor
  · intro h
    obtain ⟨k, hk, rfl⟩ := List.mem_map.mp h
    have := List.mem_range.mp hk
    exact ⟨Int.natCast_nonneg k, by show (k : Int) < n; omega⟩
  · rintro ⟨h0, h1⟩
    exact List.mem_map.mpr ⟨v.toNat, List.mem_range.mpr (by omega), by show ((v.toNat : Nat) : Int) = v; omega⟩
theorem rng_sorted (n : Nat) : (rng n).Pairwise (· ≤ ·) := by
  unfold rng
  rw [List.pairwise_map]
  exact (List.pairwise_lt_range (n := n)).imp fun h => by show ((_ : Nat) : Int) ≤ ((_ : Nat) : Int); omega
def isOrd (n : Nat) (os : List Int) : Prop := os.Perm (rng n)
theorem isOrd_iff {n : Nat} {os ss : List Int} (hp : ss.Perm os) (hs : ss.Pairwise (· ≤ ·)) : ss = rng n ↔ isOrd n os := by
  constructor
  · rintro rfl
    exact hp.symm
  · intro h
    exact List.Perm.eq_of_pairwise (fun a b _ _ h1 h2 => Int.le_antisymm h1 h2) hs (rng_sorted n) (hp.trans h)
def intsL (l : List Int) : PyData := .list (l.map PyData.int)
theorem ints_dpa {H : Hp} : ∀ fs : List Int, DpAll K H (fs.map V.int) (fs.map PyData.int)
  | [] => .nil
  | f :: fs => .cons (.int f) (ints_dpa fs)
theorem eqvAll_ints : ∀ a b : List Int, PyData.eqvAll (a.map PyData.int) (b.map PyData.int) = decide (a = b)
  | [], [] => by simp [PyData.eqvAll]
  | [], _ :: _ => by simp [PyData.eqvAll]
  | _ :: _, [] => by simp [PyData.eqvAll]
  | x :: a, y :: b => by
    simp only [List.map_cons, PyData.eqvAll, PyData.eqv, eqvAll_ints a b, List.cons.injEq]
    by_cases h : x = y
    · simp [h]
    · simp [h]
theorem eqv_ints (a b : List Int) : PyData.eqv (intsL a) (intsL b) = decide (a = b) := by
  unfold intsL
  rw [PyData.eqv, eqvAll_ints]
theorem gd_intsL (l : List Int) : Gd 4 (intsL l) := gd_lst fun x m => by
  obtain ⟨i, _, rfl⟩ := List.mem_map.mp m
  exact gd_int i
theorem rgV_rng (n : Nat) : rgV 0 (n : Int) = (rng n).map V.int := by
  unfold rgV rng
  rw [List.map_map, Int.sub_zero, Int.toNat_natCast]
  refine List.map_congr_left fun i _ => ?_
  show V.int (0 + (i : Int)) = V.int (i : Int)
  rw [Int.zero_add]
def spCheck (T : Top K mg) : Sp := fun vs H Q E => ∃ (p oa : Addr) (fs : List Int) (es : List Eg) (os : List Int), vs = [.ref p, .ref oa] ∧ SpAt T H p fs es ∧ SqL K H oa (os.map V.int) ∧ os.length < 64 ∧
  (isOrd fs.length os → ∀ H', Ext H H' → Q .non H') ∧ (¬ isOrd fs.length os → ∀ H', Ext H H' → E (.ref T.f_InvalidOrder) none H')
theorem ok_check_order (T : Top K mg) : FnOk P w K mg base (L2.CX P w) 1 T.f_check_order T.d_check_order ["spins", "order"] (spCheck T) := by
  refine T.F_check_order.okX sc_check_order (fun vs H Q E h => ?_) (fun cdv A outer s H vs Q E hr h => ?_)
  · obtain ⟨p, oa, fs, es, os, rfl, _⟩ := h
    rfl
  obtain ⟨p, oa, fs, es, os, rfl, hp, ho, hl, q1, q2⟩ := h
  refine ⟨_, (pss_one (ps_if (pt_cmpR (op_neD hr.units) (pe_callB cr_sorted (by rfl) T.m_sorted (by decide +kernel) (pa_cons (pv 1) pa_nil)) (pe_listRg rfl (by rfl) T.m_list (prg_1 (by rfl) T.m_range (pe_callB call_len_seq (by rfl) T.m_len (by decide +kernel) (pa_cons (pe_fld (pv 0) rfl) pa_nil)))) (nomark _)) (pss_one (ps_raise rfl (takes_of rfl rfl rfl rfl) (pmk_own PySem.F.excBase_ValueError T.q_InvalidOrder T.g_InvalidOrder T.k_InvalidOrder (raises_own T.b_InvalidOrder T.y_InvalidOrder) (by rfl)))) pss_nil)), ?_⟩
  obtain ⟨gf, ge, dx, fb, eb, ys, h1, h2, h3, h4⟩ := hp
  refine ⟨_, rfl, oa, os, rfl, ho, hl, fun ss l hss hsp hl => ?_⟩
  have x1 := ext_upd (o := .lst (ss.map V.int)) hl
  refine ⟨_, rfl, p, T.C_Spins, dx, _, .ref fb, rfl, x1.keep p _ h1 (fun _ z => by cases z), T.cl_Spins, T.na_Spins_fields, rfl, fb, _, rfl, .inr (x1.tup h2), ?_⟩
  have en : (fs.map V.int).length = fs.length := List.length_map _
  have f12 := gf.2.1
  refine ⟨_, rfl, ⟨by decide, by decide, by omega, by omega, by omega⟩, fun q hq => ?_⟩
  have x2 := x1.new (o := .lst (rgV 0 ((fs.map V.int).length : Int))) hq
  have hrg : rgV 0 ((fs.map V.int).length : Int) = (rng fs.length).map V.int := by rw [en]; exact rgV_rng _
  refine ⟨intsL ss, intsL (rng fs.length), .lst (SqL.of ((ext_upd hq).lst upd_same)) (ints_dpa _), .lst (SqL.of (by rw [upd_same, hrg])) (ints_dpa _), (gd_intsL _).sh, (gd_intsL _).sh, _, rfl, iteB (fun z => ?_) (fun z => ?_)⟩
  · rw [eqv_ints] at z
    refine q2 (fun h => ?_) _ x2
    rw [decide_eq_true ((isOrd_iff hss hsp).mpr h)] at z
    cases z
  · rw [eqv_ints] at z
    refine q1 ((isOrd_iff hss hsp).mp ?_) _ x2
    simpa using z
def upA (ba : Int → Addr) (v : Int) (b : Addr) : Int → Addr := fun u => if u = v then b else ba u
theorem upA_self {ba : Int → Addr} {v : Int} {b : Addr} : upA ba v b v = b := if_pos rfl
theorem upA_ne {ba : Int → Addr} {v u : Int} {b : Addr} (h : u ≠ v) : upA ba v b u = ba u := if_neg h
theorem dget_dkv {H : Hp} {p : Addr} {f : Int → V} {os : List Int} {v : Int} (h : H p = some (.dK (dkv f os))) (m : v ∈ os) : DGet H p (.int v) (some (f v)) := by
  have := DGet.k (k := Sum.inl v) h
  rw [dkv_get m] at this
  exact this
/-- an edge that begins with two vertices -/
def EdgeU (K : PySem.W.Frag) (H : Hp) (v : V) (e : Int × Int) : Prop := ∃ a r, v = .ref a ∧ SqT K H a (V.int e.1 :: .int e.2 :: r)
theorem _root_.EXT.Ext.edgeU {H H' : Hp} (s : Ext H H') {xs : List V} {es : List (Int × Int)} (h : Paired (EdgeU K H) xs es) : Paired (EdgeU K H') xs es := paired_imp (fun _ _ ⟨a, r, e, h⟩ => ⟨a, r, e, s.tup h⟩) h
def StepAt (H : Hp) (v : V) (s : Stp) : Prop := ∃ a b c, v = .ref a ∧ H a = some (.tup [.int s.1, .ref b, .ref c]) ∧ H b = some (.lst (s.2.1.map V.int)) ∧ H c = some (.lst (s.2.2.map V.int))
theorem put_int {f : Int → Int} {u y : Int} {os : List Int} (h : u ∈ os) : putK (dkv (fun w => V.int (f w)) os) (Sum.inl u) (.int y) = dkv (fun w => .int (if w = u then y else f w)) os := by
  rw [dkv_put h]
  refine dkv_congr fun w _ => ?_
  by_cases e : w = u
  · rw [if_pos e, if_pos e]
  · rw [if_neg e, if_neg e]
theorem mx_or (i j : Int) : mx i j = i ∨ mx i j = j := by
  unfold mx
  split
  · exact .inr rfl
  · exact .inl rfl
theorem pl_inj {os : List Int} {v u : Int} (h : v ∈ os) (k : u ∈ os) (e : pl os u = pl os v) : v = u := by
  have e : os.idxOf u = os.idxOf v := Int.ofNat.inj e
  have h1 := at_idx h
  have h2 := at_idx k
  rw [e, h1] at h2
  exact Option.some.inj h2
theorem backs_len (os : List Int) (es : List (Int × Int)) (v : Int) : (backs os es v).length ≤ es.length := by
  unfold backs
  rw [List.length_map]
  refine Nat.le_trans (List.length_filter_le _ _) ?_
  rw [List.length_zipIdx]
  exact Nat.le_refl _
theorem rix_of {H : Hp} {a : Addr} {xs : List V} {i : Int} {v : V} {Q : VK} (h : Sq K H a xs) (hi : atI xs i = some v) (q : Q v H) : rIx K (.ref a) (.int i) H Q := by
  rcases h with h | h
  · exact .inl ⟨a, xs, i, v, rfl, rfl, h, hi, q⟩
  · exact .inr (.inl ⟨a, xs, i, v, rfl, rfl, h, hi, q⟩)
theorem cut2u {H : Hp} {a : Addr} {u v : V} {r : List V} {Q : VK} (h : SqT K H a (u :: v :: r)) (q : ∀ p H', Ext H H' → SqT K H' p [u, v] → Q (.ref p) H') : rSlA K (.ref a) none (some 2) H Q := by
  have e2 : HT.sIx (u :: v :: r).length (u :: v :: r).length (some 2) = 2 := by
    rw [show (some (2 : Int)) = some ((2 : Nat) : Int) from rfl, HT.sIx_nat]
    simp
  refine ⟨a, _, rfl, h, fun w => ?_, fun _ p hp => ?_⟩
  · have l := w.2
    rw [e2] at l
    have r0 : r = [] := by
      cases r with
      | nil => rfl
      | cons x r => simp at l
    subst r0
    exact q a H (Ext.refl H) h
  · refine q p _ (ext_upd hp) (SqT.of ?_)
    rw [upd_same]
    unfold cutV
    rw [e2, HT.sIx_none]
    rfl
/-- what stands behind t edges -/
structure Steps (H0 H : Hp) (os : List Int) (es : List (Int × Int)) (P L B : Addr) (ba : Int → Addr) (t : Nat) : Prop where
  ext : Ext H0 H
  p : H P = some (.dK (dkv (fun v => .int (pl os v)) os))
  l : H L = some (.dK (dkv (fun v => .int (lvF os (es.take t) v)) os))
  b : H B = some (.dK (dkv (fun v => .ref (ba v)) os))
  bl : ∀ v ∈ os, H (ba v) = some (.lst ((backs os (es.take t) v).map V.int)) ∧ H0 (ba v) = none
  inj : ∀ v ∈ os, ∀ u ∈ os, ba v = ba u → v = u
theorem Steps.up {H0 H H' : Hp} {os : List Int} {es : List (Int × Int)} {P L B : Addr} {ba : Int → Addr} {t : Nat} (h : Steps H0 H os es P L B ba t) (s : Ext H H') : Steps H0 H' os es P L B ba t :=
  ⟨h.ext.trans s, s.keep P _ h.p (fun _ z => by cases z), s.keep L _ h.l (fun _ z => by cases z), s.keep B _ h.b (fun _ z => by cases z), fun v m => ⟨s.lst (h.bl v m).1, (h.bl v m).2⟩, h.inj⟩
/-- a step, told apart from a list -/
def StepD (H0 : Hp) (D : Addr) (H : Hp) (v : V) (s : Stp) : Prop := ∃ a b c, v = .ref a ∧ H a = some (.tup [.int s.1, .ref b, .ref c]) ∧ H b = some (.lst (s.2.1.map V.int)) ∧ H c = some (.lst (s.2.2.map V.int)) ∧ b ≠ D ∧ c ≠ D ∧ H0 b = none ∧ H0 c = none
theorem StepD.up {D : Addr} {H0 H H' : Hp} {v : V} {s : Stp} (h : StepD H0 D H v s) (e : Ext H H') : StepD H0 D H' v s := by
  obtain ⟨a, b, c, e1, h1, h2, h3, n1, n2⟩ := h
  exact ⟨a, b, c, e1, e.at h1, e.lst h2, e.lst h3, n1, n2⟩
theorem StepD.set {D : Addr} {H0 H : Hp} {v : V} {s : Stp} {acc : List V} {o : HO} (hD : H D = some (.lst acc)) (h : StepD H0 D H v s) : StepD H0 D (upd H D o) v s := by
  obtain ⟨a, b, c, e1, h1, h2, h3, n1, n2, n3⟩ := h
  exact ⟨a, b, c, e1, by rw [upd_ne (fun z => by rw [z, hD] at h1; cases h1)]; exact h1, by rw [upd_ne n1]; exact h2, by rw [upd_ne n2]; exact h3, n1, n2, n3⟩
/-- a step whose lists are new -/
def StepN (H0 H : Hp) (v : V) (s : Stp) : Prop := ∃ a b c, v = .ref a ∧ H a = some (.tup [.int s.1, .ref b, .ref c]) ∧ H b = some (.lst (s.2.1.map V.int)) ∧ H c = some (.lst (s.2.2.map V.int)) ∧ H0 b = none ∧ H0 c = none
def spSteps (K : PySem.W.Frag) : Sp := fun vs H Q _ => ∃ (ea oa : Addr) (xs : List V) (es : List (Int × Int)) (os : List Int), vs = [.ref ea, .ref oa] ∧ SqT K H ea xs ∧ Paired (EdgeU K H) xs es ∧ Sq K H oa (os.map V.int) ∧ os.Nodup ∧ (∀ e ∈ es, e.1 ∈ os ∧ e.2 ∈ os) ∧ es.length < 1000000 ∧ os.length < 1000000 ∧
  ∀ l H' ys, Ext H H' → H l = none → H' l = some (.lst ys) → Paired (StepN H H') ys (stepsOf os es) → Q (.ref l) H'
theorem ok_steps_along (T : Top K mg) : FnOk P w K mg base CX0 1 T.f_steps_along T.d_steps_along ["edges", "order"] (spSteps K) := by
  refine T.F_steps_along.ok sc_steps_along (fun vs H Q E h => ?_) (fun cdv A outer s H vs Q E hr h => ?_)
  · obtain ⟨ea, oa, xs, es, os, rfl, _⟩ := h
    rfl
  obtain ⟨ea, oa, xs, es, os, rfl, hx, he, ho, hn, hin, le, lo, q⟩ := h
  refine ⟨_, (pss_cons (ps_set (i := 2) sc_steps_along.nd rfl (by first | exact .inl rfl | exact .inr rfl) (pe_dc (own := [("place", 3), ("vertex", 4)]) (g := gTup K 2 (gCons (gName 3) (gCons (gName 4) gNil))) (tt := tYes) rfl sc_steps_along.nd (pi_enumS rfl (by rfl) T.m_enumerate (pa_cons (pv 1) pa_nil)) (blkOk_by (own := [("place", 3), ("vertex", 4)]) (N := n_steps_along) (sc := defScope s_steps_along) (by decide +kernel)) (fun _ _ _ _ _ => (pg_tup rfl (pgs_cons (pg_name (i := 3) sc_steps_along.nd rfl (by first | exact .inl rfl | exact .inr rfl)) (pgs_cons (pg_name (i := 4) sc_steps_along.nd rfl (by first | exact .inl rfl | exact .inr rfl)) pgs_nil)))) (fun _ _ _ _ _ => pts_nil) (fun _ _ _ _ _ => (pv 4)) (fun _ _ _ _ _ => (pv 3))))
      (pss_cons (ps_set (i := 5) sc_steps_along.nd rfl (by first | exact .inl rfl | exact .inr rfl) (pe_dc (own := [("vertex", 4)]) (g := gName 4) (tt := tYes) rfl sc_steps_along.nd (pi_seqW (pv 1)) (blkOk_by (own := [("vertex", 4)]) (N := n_steps_along) (sc := defScope s_steps_along) (by decide +kernel)) (fun _ _ _ _ _ => (pg_name (i := 4) sc_steps_along.nd rfl (by first | exact .inl rfl | exact .inr rfl))) (fun _ _ _ _ _ => pts_nil) (fun _ _ _ _ _ => (pv 4)) (fun _ _ _ _ _ => (pe_dget (hu_of hr) (pv 2) (pv 4) (fun _ _ => rfl)))))
      (pss_cons (ps_set (i := 6) sc_steps_along.nd rfl (by first | exact .inl rfl | exact .inr rfl) (pe_dc (own := [("vertex", 4)]) (g := gName 4) (tt := tYes) rfl sc_steps_along.nd (pi_seqW (pv 1)) (blkOk_by (own := [("vertex", 4)]) (N := n_steps_along) (sc := defScope s_steps_along) (by decide +kernel)) (fun _ _ _ _ _ => (pg_name (i := 4) sc_steps_along.nd rfl (by first | exact .inl rfl | exact .inr rfl))) (fun _ _ _ _ _ => pts_nil) (fun _ _ _ _ _ => (pv 4)) (fun _ _ _ _ _ => (pe_lst pa_nil))))
      (pss_cons (ps_for PassesOwn.never rfl (pi_enumS rfl (by rfl) T.m_enumerate (pa_cons (pv 0) pa_nil)) (pg_tup rfl (pgs_cons (pg_name (i := 7) sc_steps_along.nd rfl (by first | exact .inl rfl | exact .inr rfl)) (pgs_cons (pg_name (i := 8) sc_steps_along.nd rfl (by first | exact .inl rfl | exact .inr rfl)) pgs_nil))) (pss_cons (ps_asg (pe_slice sl_tupA (pv 8) po_none (po_some pe_int)) (pg_tup rfl (pgs_cons (pg_name (i := 9) sc_steps_along.nd rfl (by first | exact .inl rfl | exact .inr rfl)) (pgs_cons (pg_name (i := 10) sc_steps_along.nd rfl (by first | exact .inl rfl | exact .inr rfl)) pgs_nil))))
      (pss_cons (ps_set (i := 11) sc_steps_along.nd rfl (by first | exact .inl rfl | exact .inr rfl) (pe_callB (call_max2 rfl) (by rfl) T.m_max (by decide +kernel) (pa_cons (pe_dget (hu_of hr) (pv 2) (pv 9) (fun _ _ => rfl)) (pa_cons (pe_dget (hu_of hr) (pv 2) (pv 10) (fun _ _ => rfl)) pa_nil))))
      (pss_cons (ps_expr (pe_bm PySem.F.plainAttrs_list PySem.F.slot_list_append PySem.F.type_list_append mt_append (pe_dget (hu_of hr) (pv 6) (pe_ix ix_seq (pv 1) (pv 11) (fun _ _ => rfl)) (fun _ _ => rfl)) (pa_cons (pv 7) pa_nil)))
      (pss_cons (ps_dput (hu_of hr) (pv 5) (pv 9) (pe_callB (call_max2 rfl) (by rfl) T.m_max (by decide +kernel) (pa_cons (pe_dget (hu_of hr) (pv 5) (pv 9) (fun _ _ => rfl)) (pa_cons (pv 11) pa_nil))) rfl)
      (pss_one (ps_dput (hu_of hr) (pv 5) (pv 10) (pe_callB (call_max2 rfl) (by rfl) T.m_max (by decide +kernel) (pa_cons (pe_dget (hu_of hr) (pv 5) (pv 10) (fun _ _ => rfl)) (pa_cons (pv 11) pa_nil))) rfl)))))))
      (pss_one (ps_ret (pe_lc (own := [("place", 3), ("vertex", 4)]) (g := gTup K 2 (gCons (gName 3) (gCons (gName 4) gNil))) (tt := tYes) rfl sc_steps_along.nd (pi_enumS rfl (by rfl) T.m_enumerate (pa_cons (pv 1) pa_nil)) (blkOk_by (own := [("place", 3), ("vertex", 4)]) (N := n_steps_along) (sc := defScope s_steps_along) (by decide +kernel)) (fun _ _ _ _ _ => (pg_tup rfl (pgs_cons (pg_name (i := 3) sc_steps_along.nd rfl (by first | exact .inl rfl | exact .inr rfl)) (pgs_cons (pg_name (i := 4) sc_steps_along.nd rfl (by first | exact .inl rfl | exact .inr rfl)) pgs_nil)))) (fun _ _ _ _ _ => pts_nil) (fun _ _ _ _ _ => (pe_tup (pa_cons (pv 4) (pa_cons (pe_dget (hu_of hr) (pv 6) (pv 4) (fun _ _ => rfl)) (pa_cons (pe_lc (own := [("other", 12)]) (g := gName 12) (wi := iSeqW K _) rfl sc_steps_along.nd (pi_seqW (pv 1)) (blkOk_by (own := [("other", 12)]) (by rfl)) (fun _ _ _ _ _ => (pg_name (i := 12) sc_steps_along.nd rfl (by first | exact .inl rfl | exact .inr rfl))) (fun _ _ _ _ _ => pts_one (pt_cmpR op_eq (pe_dget (hu_of hr) (pv 5) (pv 12) (fun _ _ => rfl)) (pv 3) (nomark _))) (fun _ _ _ _ _ => (pv 12))) pa_nil)))))))))))), ?_⟩
  have lom : (os.map V.int).length = os.length := List.length_map _
  -- places
  refine ⟨_, rfl, oa, _, H, rfl, Ext.refl H, ho, fun J wJ P hP => w_enum wJ (fun i H1 => Ext H H1 ∧ H1 P = some (.dK (dkv (fun v => .int (pl os v)) (os.take i)))) ⟨ext_upd hP, upd_same⟩ (fun i H1 _ h => h.1) (fun i x t H1 hi hPv ht => ?_) (fun H1 hPv => ?_)⟩
  · obtain ⟨s1, hP1⟩ := hPv
    obtain ⟨v, hv, rfl⟩ := at_int hi
    have x1 := ext_upd (o := .tup [V.int (i : Int), .int v]) ht
    refine ⟨t, _, rfl, SqT.of upd_same, rfl, _, _, rfl, _, _, rfl, rfl, rfl, _, rfl, _, rfl, _, Sum.inl v, rfl, x1.keep P _ hP1 (fun _ z => by cases z), ?_, (s1.trans x1).own hP, ?_⟩
    · rw [dkv_len, List.length_take]
      exact sl_lt (by omega)
    · rw [upd_same, take_snoc hv]
      have e : (V.int (i : Int)) = (fun v => V.int (pl os v)) v := by
        show V.int (i : Int) = V.int ((os.idxOf v : Nat) : Int)
        rw [idx_at hn hv]
      rw [e, dkv_new (take_new hn hv)]
  obtain ⟨s1, hP1⟩ := hPv
  rw [lom, List.take_length] at hP1
  -- leaving
  refine ⟨_, rfl, oa, _, H, rfl, s1, ho, fun J2 w2 L hL => w_seq w2 (fun i H2 => Ext H1 H2 ∧ H2 L = some (.dK (dkv (fun v => .int (pl os v)) (os.take i)))) ⟨ext_upd hL, upd_same⟩ (fun i H2 _ h => s1.trans h.1) (fun i x H2 hi hPv => ?_) (fun H2 hPv => ?_)⟩
  · obtain ⟨s2, hL2⟩ := hPv
    obtain ⟨v, hv, rfl⟩ := at_int hi
    have hvm := List.mem_of_getElem? hv
    refine ⟨rfl, _, rfl, _, rfl, _, rfl, P, .int (pl os v), rfl, dget_dkv (s2.keep P _ hP1 (fun _ z => by cases z)) hvm, _, Sum.inl v, rfl, hL2, ?_, s2.own hL, ?_⟩
    · rw [dkv_len, List.length_take]
      exact sl_lt (by omega)
    · rw [upd_same, take_snoc hv]
      exact congrArg (fun d => some (HO.dK d)) (dkv_new (f := fun v => V.int (pl os v)) (take_new hn hv))
  obtain ⟨s2, hL2⟩ := hPv
  rw [lom, List.take_length] at hL2
  have hP2 := s2.keep P _ hP1 (fun _ z => by cases z)
  have nPL : P ≠ L := fun z => by rw [z] at hP1; rw [hL] at hP1; cases hP1
  -- backward
  refine ⟨_, rfl, oa, _, H, rfl, s1.trans s2, ho, fun J3 w3 B hB => w_seq w3 (fun i H3 => Ext H2 H3 ∧ ∃ ba : Int → Addr, H3 B = some (.dK (dkv (fun v => .ref (ba v)) (os.take i))) ∧ (∀ v ∈ os.take i, H3 (ba v) = some (.lst []) ∧ H2 (ba v) = none) ∧ ∀ v ∈ os.take i, ∀ u ∈ os.take i, ba v = ba u → v = u)
    ⟨ext_upd hB, fun _ => 0, upd_same, fun v m => by simp at m, fun v m => by simp at m⟩ (fun i H3 _ h => (s1.trans s2).trans h.1) (fun i x H3 hi hPv => ?_) (fun H3 hPv => ?_)⟩
  · obtain ⟨s3, ba, hB3, hba, hinj⟩ := hPv
    obtain ⟨v, hv, rfl⟩ := at_int hi
    have hvn := take_new hn hv
    refine ⟨rfl, _, rfl, by rw [sizeLine_eq]; simp, fun b hb => ?_⟩
    have x3 := ext_upd (o := .lst []) hb
    have hB4 := x3.keep B _ hB3 (fun _ z => by cases z)
    have nbB : b ≠ B := fun z => by rw [z] at hb; rw [hb] at hB3; cases hB3
    have key : ∀ u ∈ os.take i, upA ba v b u = ba u := fun u m => upA_ne fun z => hvn (by rw [← z]; exact m)
    refine ⟨_, Sum.inl v, rfl, hB4, ?_, (s3.trans x3).own hB, upA ba v b, ?_, fun u m => ?_, fun u1 m1 u2 m2 e => ?_⟩
    · rw [dkv_len, List.length_take]
      exact sl_lt (by omega)
    · rw [upd_same, take_snoc hv, ← dkv_new hvn]
      have e1 : dkv (fun u => V.ref (upA ba v b u)) (os.take i) = dkv (fun u => .ref (ba u)) (os.take i) := dkv_congr fun u m => by rw [key u m]
      rw [e1, upA_self]
    · rw [take_snoc hv] at m
      rcases List.mem_append.mp m with m | m
      · show upd _ B _ (if u = v then b else ba u) = _ ∧ H2 (if u = v then b else ba u) = none
        show upd _ B _ (upA ba v b u) = _ ∧ H2 (upA ba v b u) = none
        rw [key u m]
        obtain ⟨g1, g2⟩ := hba u m
        refine ⟨?_, g2⟩
        rw [upd_ne (fun z => by rw [z] at g1; rw [hB3] at g1; cases g1)]
        exact x3.lst g1
      · have m := List.mem_singleton.mp m
        subst m
        show upd _ B _ (upA ba u b u) = _ ∧ H2 (upA ba u b u) = none
        rw [upA_self, upd_ne nbB, upd_same]
        exact ⟨rfl, s3.free hb⟩
    · have old : ∀ u ∈ os.take (i + 1), u = v ∨ u ∈ os.take i := fun u m => by
        rw [take_snoc hv] at m
        rcases List.mem_append.mp m with m | m
        · exact .inr m
        · exact .inl (List.mem_singleton.mp m)
      have nb : ∀ u ∈ os.take i, ba u ≠ b := fun u m z => by
        have := (hba u m).1
        rw [z, hb] at this
        cases this
      rcases old u1 m1 with rfl | m1' <;> rcases old u2 m2 with rfl | m2'
      · rfl
      · rw [upA_self, key u2 m2'] at e
        exact absurd e.symm (nb u2 m2')
      · rw [upA_self, key u1 m1'] at e
        exact absurd e (nb u1 m1')
      · rw [key u1 m1', key u2 m2'] at e
        exact hinj u1 m1' u2 m2' e
  obtain ⟨s3, ba, hB3, hba, hinj⟩ := hPv
  rw [lom, List.take_length] at hB3 hba hinj
  have hP3 := s3.keep P _ hP2 (fun _ z => by cases z)
  have hL3 := s3.keep L _ hL2 (fun _ z => by cases z)
  have nLB : L ≠ B := fun z => by rw [z] at hL2; rw [hB] at hL2; cases hL2
  have nPB : P ≠ B := fun z => by rw [z] at hP2; rw [hB] at hP2; cases hP2
  have s03 := (s1.trans s2).trans s3
  have hL0 : H L = none := s1.free hL
  have hB0 : H B = none := (s1.trans s2).free hB
  have hba0 : ∀ v ∈ os, H (ba v) = none := fun v m => (s1.trans s2).free (hba v m).2
  -- the edges
  have hlx := he.length
  refine ⟨_, rfl, ea, _, H, rfl, s03, .inr hx, fun J4 w4 => for_enum w4 (fun t σ H4 => (∃ y7 y8 y9 y10 y11, σ = [some (.ref ea), some (.ref oa), some (.ref P), none, none, some (.ref L), some (.ref B), y7, y8, y9, y10, y11, none]) ∧ Steps H H4 os es P L B ba t) ⟨⟨_, _, _, _, _, rfl⟩, s03, hP3, hL3, hB3, fun v m => ⟨(hba v m).1, hba0 v m⟩, hinj⟩ (fun t σ H4 _ h => h.2.ext) (fun t x tt σ H4 hi hPv ht => ?_) (fun σ H4 hPv => ?_)⟩
  · obtain ⟨⟨y7, y8, y9, y10, y11, rfl⟩, S⟩ := hPv
    obtain ⟨⟨u, v⟩, het, ae, r, rfl, hae⟩ := paired_at he hi
    have hm := hin _ (List.mem_of_getElem? het)
    have hu : u ∈ os := hm.1
    have hv : v ∈ os := hm.2
    have x1 := ext_upd (o := .tup [V.int (t : Int), .ref ae]) ht
    have S := S.up x1
    refine ⟨tt, _, rfl, SqT.of upd_same, rfl, _, _, rfl, _, _, rfl, rfl, ?_⟩
    generalize upd H4 tt (.tup [V.int (t : Int), .ref ae]) = H5 at *
    have lpos : os.length < 1000000 := lo
    obtain ⟨x, hxm, hlx2⟩ : ∃ x, x ∈ os ∧ laterE os (u, v) = pl os x := by
      rcases mx_or (pl os u) (pl os v) with e | e
      · exact ⟨u, hu, e⟩
      · exact ⟨v, hv, e⟩
    -- u, v = edge[:2]
    refine ⟨_, rfl, 2, rfl, cut2u (S.ext.tup hae) fun p2 H6 s6 hp2 => ⟨p2, _, rfl, hp2, rfl, _, _, rfl, _, _, rfl, rfl, ?_⟩⟩
    have S := S.up s6
    -- later
    refine ⟨_, rfl, _, rfl, P, .int (pl os u), rfl, dget_dkv S.p hu, _, rfl, _, rfl, P, .int (pl os v), rfl, dget_dkv S.p hv, _, _, rfl, ?_⟩
    have eq1 : V.int (if pl os v > pl os u then pl os v else pl os u) = V.int (laterE os (u, v)) := rfl
    -- backward
    obtain ⟨bx1, bx2⟩ := S.bl x hxm
    have lb := backs_len os (es.take t) x
    rw [List.length_take] at lb
    refine ⟨_, rfl, _, rfl, _, rfl, rix_of (S.ext.sq ho) (show atI (os.map V.int) (laterE os (u, v)) = some (.int x) by rw [hlx2]; exact atI_nat (by rw [List.getElem?_map, at_idx hxm]; rfl)) ⟨B, .ref (ba x), rfl, dget_dkv S.b hxm, .inl ⟨rfl, _, SqL.of bx1⟩, _, rfl, ba x, _, _, rfl, rfl, bx1, sl_lt (by rw [List.length_map]; omega), ?_⟩⟩
    have nPb : P ≠ ba x := fun z => by have := S.p; rw [z, bx1] at this; cases this
    have nLb : L ≠ ba x := fun z => by have := S.l; rw [z, bx1] at this; cases this
    have nBb : B ≠ ba x := fun z => by have := S.b; rw [z, bx1] at this; cases this
    have hL6 := S.l
    have c1 : upd H6 (ba x) (.lst ((backs os (es.take t) x).map V.int ++ [V.int (t : Int)])) L = some (.dK (dkv (fun w => .int (lvF os (es.take t) w)) os)) := by
      rw [upd_ne nLb]
      exact hL6
    have c2 : upd H6 (ba x) (.lst ((backs os (es.take t) x).map V.int ++ [V.int (t : Int)])) P = some (.dK (dkv (fun v => .int (pl os v)) os)) := by
      rw [upd_ne nPb]
      exact S.p
    have c3 : upd H6 (ba x) (.lst ((backs os (es.take t) x).map V.int ++ [V.int (t : Int)])) B = some (.dK (dkv (fun v => .ref (ba v)) os)) := by
      rw [upd_ne nBb]
      exact S.b
    have c4 : ∀ w ∈ os, upd H6 (ba x) (.lst ((backs os (es.take t) x).map V.int ++ [V.int (t : Int)])) (ba w) = some (.lst ((backs os (es.take (t + 1)) w).map V.int)) ∧ H (ba w) = none := fun w m => by
      obtain ⟨w1, w2⟩ := S.bl w m
      refine ⟨?_, w2⟩
      have ltk : (es.take t).length = t := by
        rw [List.length_take]
        have := (List.getElem?_eq_some_iff.mp het).1
        omega
      rw [take_snoc het, backs_snoc, ltk, hlx2]
      by_cases e : w = x
      · subst e
        rw [upd_same, if_pos rfl, List.map_append]
        rfl
      · rw [upd_ne (fun z => e (S.inj w m x hxm z)), if_neg (fun z => e (pl_inj m hxm z)), List.append_nil]
        exact w1
    have c5 : Ext H (upd H6 (ba x) (.lst ((backs os (es.take t) x).map V.int ++ [V.int (t : Int)]))) := S.ext.own bx2
    have cinj := S.inj
    generalize upd H6 (ba x) (.lst ((backs os (es.take t) x).map V.int ++ [V.int (t : Int)])) = H7 at *
    -- leaving
    refine ⟨_, rfl, _, rfl, L, .int (lvF os (es.take t) u), rfl, dget_dkv c1 hu, _, rfl, _, _, rfl, ?_⟩
    refine ⟨_, rfl, _, rfl, L, _, rfl, DPut.k (k := Sum.inl u) c1 (by rw [dkv_len]; exact sl_lt lpos), ?_⟩
    rw [put_int hu]
    have d1 : upd H7 L (.dK (dkv (fun w => .int (if w = u then (if laterE os (u, v) > lvF os (es.take t) u then laterE os (u, v) else lvF os (es.take t) u) else lvF os (es.take t) w)) os)) L = _ := upd_same
    have nP : P ≠ L := nPL
    have nL : ∀ w ∈ os, ba w ≠ L := fun w m z => by
      have := (c4 w m).1
      rw [z, c1] at this
      cases this
    refine ⟨_, rfl, _, rfl, L, .int (if v = u then (if laterE os (u, v) > lvF os (es.take t) u then laterE os (u, v) else lvF os (es.take t) u) else lvF os (es.take t) v), rfl, dget_dkv d1 hv, _, rfl, _, _, rfl, ?_⟩
    refine ⟨_, rfl, _, rfl, L, _, rfl, DPut.k (k := Sum.inl v) d1 (by rw [dkv_len]; exact sl_lt lpos), ?_⟩
    rw [put_int hv]
    refine ⟨⟨_, _, _, _, _, rfl⟩, ⟨(c5.own hL0).own hL0, ?_, ?_, ?_, fun w m => ⟨?_, (c4 w m).2⟩, cinj⟩⟩
    · rw [upd_ne nP, upd_ne nP]
      exact c2
    · rw [upd_same, take_snoc het, lvF_snoc]
      rfl
    · rw [upd_ne nLB.symm, upd_ne nLB.symm]
      exact c3
    · rw [upd_ne (nL w m), upd_ne (nL w m)]
      exact (c4 w m).1
  · obtain ⟨⟨y7, y8, y9, y10, y11, rfl⟩, S⟩ := hPv
    rw [hlx] at S
    have te : es.take es.length = es := List.take_length
    have hbk := S.bl
    have hlv := S.l
    rw [te] at hbk hlv
    refine ⟨_, rfl, oa, _, H, rfl, S.ext, ho, fun J5 w5 D hD => w_enum w5 (fun i H5 => Ext H4 H5 ∧ ∃ ys, H5 D = some (.lst ys) ∧ Paired (StepD H D H5) ys ((stepsOf os es).take i)) ⟨ext_upd hD, [], upd_same, .nil⟩ (fun i H5 _ h => S.ext.trans h.1) (fun i x tt H5 hi hPv ht => ?_) (fun H5 hPv => ?_)⟩
    · obtain ⟨s5, ys, hy, hys⟩ := hPv
      obtain ⟨v, hv, rfl⟩ := at_int hi
      have hvm := List.mem_of_getElem? hv
      have x1 := ext_upd (o := .tup [V.int (i : Int), .int v]) ht
      have s6 := s5.trans x1
      refine ⟨tt, _, rfl, SqT.of upd_same, rfl, _, _, rfl, _, _, rfl, rfl, ?_⟩
      have hy1 := x1.lst hy
      have hys1 : Paired (StepD H D (upd H5 tt (.tup [V.int (i : Int), .int v]))) ys ((stepsOf os es).take i) := paired_imp (fun _ _ h => h.up x1) hys
      generalize upd H5 tt (.tup [V.int (i : Int), .int v]) = H6 at *
      have S6 := S.up s6
      refine ⟨rfl, _, rfl, _, rfl, _, rfl, B, .ref (ba v), rfl, dget_dkv S6.b hvm, _, rfl, oa, _, H, rfl, S6.ext, ho, fun J6 w6 C hC => w_seq w6 (fun j H7 => Ext H6 H7 ∧ H7 C = some (.lst (((os.take j).filter fun w => decide (lvF os es w = (i : Int))).map V.int))) ⟨ext_upd hC, upd_same⟩ (fun j H7 _ h => S6.ext.trans h.1) (fun j y H7 hj hPv => ?_) (fun H7 hPv => ?_)⟩
      · obtain ⟨s7, hC7⟩ := hPv
        obtain ⟨o, hov, rfl⟩ := at_int hj
        have hom := List.mem_of_getElem? hov
        have S7 := S6.up s7
        have hl7 := S7.l
        rw [te] at hl7
        refine ⟨rfl, _, rfl, _, rfl, L, .int (lvF os es o), rfl, dget_dkv hl7 hom, _, rfl, rfl, _, rfl, iteB (fun z => ?_) (fun z => ?_)⟩
        · have z : lvF os es o = (i : Int) := V.int.inj (of_decide_eq_true z)
          refine ⟨_, rfl, _, hC7, ?_, s7.own hC, ?_⟩
          · have h1 := List.length_filter_le (fun w => decide (lvF os es w = (i : Int))) (os.take j)
            rw [List.length_take] at h1
            rw [List.length_map]
            exact sl_lt (by omega)
          · rw [upd_same, take_snoc hov, List.filter_append, List.filter_cons_of_pos (by simpa using z), List.filter_nil, List.map_append]
            rfl
        · have z : ¬ lvF os es o = (i : Int) := fun e => by
            rw [e] at z
            simp at z
          refine ⟨s7, ?_⟩
          rw [take_snoc hov, List.filter_append, List.filter_cons_of_neg (by simpa using z), List.filter_nil, List.append_nil]
          exact hC7
      · obtain ⟨s7, hC7⟩ := hPv
        rw [lom, List.take_length] at hC7
        have S7 := S6.up s7
        obtain ⟨g1, g2⟩ := S7.bl v hvm
        rw [te] at g1
        have hy7 := s7.lst hy1
        refine ⟨by rw [sizeLine_eq]; simp, fun p hp => ?_⟩
        have x8 := ext_upd (o := .tup [V.int v, .ref (ba v), .ref C]) hp
        have hy8 := x8.lst hy7
        have hst : (stepsOf os es)[i]? = some (stepOf os es i v) := by
          unfold stepsOf
          rw [List.getElem?_mapIdx, hv]
          rfl
        have ly := hys1.length
        rw [List.length_take] at ly
        have ls : (stepsOf os es).length = os.length := List.length_mapIdx
        have nbD : ba v ≠ D := fun z => by
          have := (S.bl v hvm).1
          rw [z, hD] at this
          cases this
        have nCD : C ≠ D := fun z => by rw [z, hy1] at hC; cases hC
        refine ⟨ys, hy8, sl_lt (by omega), (((s6.trans s7).trans x8)).own hD, ys ++ [.ref p], upd_same, ?_⟩
        rw [take_snoc hst]
        have hys8 : Paired (StepD H D _) ys ((stepsOf os es).take i) := paired_imp (fun _ _ h => (h.up (s7.trans x8))) hys1
        exact paired_snoc (paired_imp (fun _ _ h => h.set hy8) hys8) (StepD.set hy8 ⟨p, ba v, C, rfl, upd_same, x8.lst g1, x8.lst hC7, nbD, nCD, hba0 v hvm, S6.ext.free hC⟩)
    · obtain ⟨s5, ys, hy, hys⟩ := hPv
      have ls : (stepsOf os es).length = os.length := List.length_mapIdx
      rw [lom, ← ls, List.take_length] at hys
      exact q D H5 ys (S.ext.trans s5) (S.ext.free hD) hy (paired_imp (fun _ _ ⟨a, b, c, e, h1, h2, h3, _, _, h4, h5⟩ => ⟨a, b, c, e, h1, h2, h3, h4, h5⟩) hys)
def prsOf (es : List Eg) : List (Int × Int) := es.map fun e => (e.1, e.2.1)
theorem edgeU_of {H : Hp} : ∀ {xs : List V} {es : List Eg}, Paired (EdgeAt K H) xs es → Paired (EdgeU K H) xs (prsOf es)
  | _, _, .nil => .nil
  | _, _, .cons ⟨a, e, h⟩ t => .cons ⟨a, _, e, h⟩ (edgeU_of t)
/-- how many stand on the frontier behind k steps, and the greatest number so far -/
def szR (os : List Int) (us : List (Int × Int)) : Nat → Int
  | 0 => 0
  | k + 1 => szR os us k + (1 - ((os.filter fun w => decide (lvF os us w = (k : Int))).length : Int))
def wdR (os : List Int) (us : List (Int × Int)) : Nat → Int
  | 0 => 0
  | k + 1 => mx (wdR os us k) (szR os us (k + 1))
theorem isOrd_nodup {n : Nat} {os : List Int} (h : isOrd n os) : os.Nodup := h.nodup_iff.mpr (rng_nodup n)
theorem isOrd_mem {n : Nat} {os : List Int} (h : isOrd n os) {v : Int} : v ∈ os ↔ 0 ≤ v ∧ v < n := by
  rw [h.mem_iff]
  exact mem_rng
theorem isOrd_in {n : Nat} {os : List Int} {es : List Eg} (h : isOrd n os) (g : goodE n es) : ∀ e ∈ prsOf es, e.1 ∈ os ∧ e.2 ∈ os := fun e m => by
  obtain ⟨x, mx, rfl⟩ := List.mem_map.mp m
  obtain ⟨h1, h2, h3, _⟩ := g.2.1 x mx
  exact ⟨(isOrd_mem h).mpr ⟨h1, by omega⟩, (isOrd_mem h).mpr ⟨by show 0 ≤ x.2.1; omega, h3⟩⟩
/-! ### the law's width -/
theorem filt_succ {f : Int → Int} (k : Nat) : ∀ os : List Int, (os.filter fun w => decide (f w < ((k + 1 : Nat) : Int))).length = (os.filter fun w => decide (f w < (k : Int))).length + (os.filter fun w => decide (f w = (k : Int))).length
  | [] => rfl
  | w :: os => by
    have ih := filt_succ (f := f) k os
    rw [List.filter_cons, List.filter_cons, List.filter_cons]
    rcases Int.lt_trichotomy (f w) k with h | h | h
    · rw [if_pos (by simp; omega), if_pos (by simpa using h), if_neg (by simp; omega)]
      simp only [List.length_cons]
      omega
    · rw [if_pos (by simp; omega), if_neg (by simp; omega), if_pos (by simpa using h)]
      simp only [List.length_cons]
      omega
    · rw [if_neg (by simp; omega), if_neg (by simp; omega), if_neg (by simp; omega)]
      exact ih
theorem szR_eq (os : List Int) (us : List (Int × Int)) (hn : ∀ w, 0 ≤ lvF os us w) : ∀ k : Nat, szR os us k = (k : Int) - ((os.filter fun w => decide (lvF os us w < (k : Int))).length : Int)
  | 0 => by
    have : os.filter (fun w => decide (lvF os us w < ((0 : Nat) : Int))) = [] := List.filter_eq_nil_iff.mpr fun w _ => by
      have := hn w
      simp
      omega
    rw [this]
    rfl
  | k + 1 => by
    rw [szR, szR_eq os us hn k, filt_succ]
    omega
theorem lvF_ge {os : List Int} {us : List (Int × Int)} {v : Int} : pl os v ≤ lvF os us v := ((lvF_le us).mp (Int.le_refl _)).1
/-- those of the first k that have an edge to one that is not among them -/
def meetF (os : List Int) (us : List (Int × Int)) (k : Nat) : List Int := os.filter fun w => decide (pl os w < (k : Int) ∧ (k : Int) ≤ lvF os us w)
theorem filt_two {f g : Int → Int} (k : Int) (h : ∀ w, g w ≤ f w) : ∀ os : List Int, (os.filter fun w => decide (g w < k)).length = (os.filter fun w => decide (f w < k)).length + (os.filter fun w => decide (g w < k ∧ k ≤ f w)).length
  | [] => rfl
  | w :: os => by
    have ih := filt_two k h os
    have hw := h w
    rw [List.filter_cons, List.filter_cons, List.filter_cons]
    by_cases h1 : g w < k
    · by_cases h2 : f w < k
      · rw [if_pos (by simpa using h1), if_pos (by simpa using h2), if_neg (by simp; omega)]
        simp only [List.length_cons]
        omega
      · rw [if_pos (by simpa using h1), if_neg (by simpa using h2), if_pos (by simp; omega)]
        simp only [List.length_cons]
        omega
    · rw [if_neg (by simpa using h1), if_neg (by simp; omega), if_neg (by simp; omega)]
      exact ih
theorem take_mem {os : List Int} (hn : os.Nodup) {k : Nat} {w : Int} : w ∈ os.take k ↔ w ∈ os ∧ pl os w < (k : Int) := by
  constructor
  · intro m
    refine ⟨List.mem_of_mem_take m, ?_⟩
    obtain ⟨j, hj⟩ := List.mem_iff_getElem?.mp m
    rw [List.getElem?_take] at hj
    split at hj
    · have := idx_at hn hj
      show ((os.idxOf w : Nat) : Int) < k
      omega
    · cases hj
  · rintro ⟨m, h⟩
    have h : ((os.idxOf w : Nat) : Int) < k := h
    refine List.mem_iff_getElem?.mpr ⟨os.idxOf w, ?_⟩
    rw [List.getElem?_take, if_pos (by omega)]
    exact at_idx m
theorem same_len {a b : List Int} (ha : a.Nodup) (hb : b.Nodup) (h : ∀ w, w ∈ a ↔ w ∈ b) : a.length = b.length := ((List.perm_ext_iff_of_nodup ha hb).mpr h).length_eq
theorem szR_meet {os : List Int} {us : List (Int × Int)} (hn : os.Nodup) {k : Nat} (hk : k ≤ os.length) : szR os us k = ((meetF os us k).length : Int) := by
  have h0 : ∀ w, 0 ≤ lvF os us w := fun w => Int.le_trans (Int.natCast_nonneg _) lvF_ge
  rw [szR_eq os us h0]
  have h1 := filt_two (f := lvF os us) (g := pl os) (k : Int) (fun w => lvF_ge) os
  have h2 : (os.filter fun w => decide (pl os w < (k : Int))).length = (os.take k).length := same_len (hn.filter _) (hn.sublist (List.take_sublist _ _)) fun w => by
    rw [take_mem hn, List.mem_filter]
    simp
  rw [List.length_take] at h2
  unfold meetF
  omega
/-- an edge leads out of the first k -/
def crosses (ins : List Int) (e : Int × Int) : Prop := (e.1 ∈ ins ∧ e.2 ∉ ins) ∨ (e.1 ∉ ins ∧ e.2 ∈ ins)
def innerE (ins : List Int) (e : Int × Int) : Int := if e.1 ∈ ins then e.1 else e.2
theorem meet_iff {os : List Int} {us : List (Int × Int)} (hn : os.Nodup) (hin : ∀ e ∈ us, e.1 ∈ os ∧ e.2 ∈ os) {k : Nat} {w : Int} :
    w ∈ meetF os us k ↔ ∃ e ∈ us, crosses (os.take k) e ∧ innerE (os.take k) e = w := by
  unfold meetF
  rw [List.mem_filter, decide_eq_true_eq]
  constructor
  · rintro ⟨m, h1, h2⟩
    have h3 : ¬ lvF os us w ≤ (k : Int) - 1 := by omega
    rw [lvF_le] at h3
    have h4 : ∃ e ∈ us, (e.1 = w ∨ e.2 = w) ∧ ¬ laterE os e ≤ (k : Int) - 1 := by
      refine Classical.byContradiction fun c => h3 ⟨by omega, fun e me hw => Classical.byContradiction fun d => c ⟨e, me, hw, d⟩⟩
    obtain ⟨e, me, hw, hl⟩ := h4
    unfold laterE at hl
    rw [mx_le] at hl
    obtain ⟨m1, m2⟩ := hin e me
    refine ⟨e, me, ?_⟩
    rcases hw with rfl | rfl
    · have i1 : e.1 ∈ os.take k := (take_mem hn).mpr ⟨m, h1⟩
      have i2 : e.2 ∉ os.take k := fun z => hl ⟨by omega, by have := ((take_mem hn).mp z).2; omega⟩
      exact ⟨.inl ⟨i1, i2⟩, if_pos i1⟩
    · have i1 : e.2 ∈ os.take k := (take_mem hn).mpr ⟨m, h1⟩
      have i2 : e.1 ∉ os.take k := fun z => hl ⟨by have := ((take_mem hn).mp z).2; omega, by omega⟩
      exact ⟨.inr ⟨i2, i1⟩, if_neg i2⟩
  · rintro ⟨e, me, hc, rfl⟩
    obtain ⟨m1, m2⟩ := hin e me
    rcases hc with ⟨i1, i2⟩ | ⟨i1, i2⟩
    · have ei : innerE (os.take k) e = e.1 := if_pos i1
      rw [ei]
      have h1 := ((take_mem hn).mp i1).2
      refine ⟨m1, h1, ?_⟩
      have h2 : ¬ pl os e.2 < (k : Int) := fun z => i2 ((take_mem hn).mpr ⟨m2, z⟩)
      have h3 : ¬ lvF os us e.1 ≤ (k : Int) - 1 := fun z => by
        have := (((lvF_le us).mp z).2 e me (.inl rfl))
        unfold laterE at this
        rw [mx_le] at this
        omega
      omega
    · have ei : innerE (os.take k) e = e.2 := if_neg i1
      rw [ei]
      have h1 := ((take_mem hn).mp i2).2
      refine ⟨m2, h1, ?_⟩
      have h2 : ¬ pl os e.1 < (k : Int) := fun z => i1 ((take_mem hn).mpr ⟨m1, z⟩)
      have h3 : ¬ lvF os us e.2 ≤ (k : Int) - 1 := fun z => by
        have := (((lvF_le us).mp z).2 e me (.inr rfl))
        unfold laterE at this
        rw [mx_le] at this
        omega
      omega
/-- the greatest of the first k counts, as the law goes -/
def lwR (os : List Int) (us : List (Int × Int)) : Nat → Int
  | 0 => 0
  | k + 1 => mx (lwR os us k) ((meetF os us k).length : Int)
theorem lw_wd {os : List Int} {us : List (Int × Int)} (hn : os.Nodup) : ∀ k, k ≤ os.length → lwR os us (k + 1) = wdR os us k
  | 0, _ => by
    show mx 0 ((meetF os us 0).length : Int) = 0
    rw [← szR_meet hn (Nat.zero_le _)]
    rfl
  | k + 1, h => by
    rw [lwR, lw_wd hn k (by omega), ← szR_meet hn h]
    rfl
theorem seqIdx {n k : Nat} (h : k < n) : seqIndex? (k : Int) n = some k := by
  unfold seqIndex?
  have h0 : ¬ (k : Int) < 0 := by omega
  simp only [if_neg h0]
  simp [h]
/-! ### numbers of some kind in the heap, and their sums and products -/
def IsTp (u : HO) : Prop := (∃ xs, u = .tup xs) ∨ ∃ o xs, u = .frz o (.tup xs)
/-- tuples stay -/
def Keep (H H' : Hp) : Prop := ∀ b u, H b = some u → IsTp u → H' b = some u
theorem Keep.refl (H : Hp) : Keep H H := fun _ _ e _ => e
theorem Keep.trans {H H1 H2 : Hp} (a : Keep H H1) (b : Keep H1 H2) : Keep H H2 := fun c u e n => b c u (a c u e n) n
theorem _root_.EXT.Ext.kp {H H' : Hp} (s : Ext H H') : Keep H H' := fun b u e n => s.keep b u e fun ps z => by
  subst z
  rcases n with ⟨_, z⟩ | ⟨_, _, z⟩ <;> cases z
theorem keep_upd {H : Hp} {d : Addr} {u o : HO} (h : H d = some u) (n : ¬ IsTp u) : Keep H (upd H d o) := fun b x e nx => by
  rw [upd_ne (fun z => ?_)]
  · exact e
  · rw [z, h] at e
    cases e
    exact n nx
theorem keep_new {H : Hp} {d : Addr} {o : HO} (h : H d = none) : Keep H (upd H d o) := (ext_upd h).kp
theorem ntp_dk {kvs : List (Key × V)} : ¬ IsTp (.dK kvs) := fun h => by rcases h with ⟨_, z⟩ | ⟨_, _, z⟩ <;> cases z
theorem ntp_lst {xs : List V} : ¬ IsTp (.lst xs) := fun h => by rcases h with ⟨_, z⟩ | ⟨_, _, z⟩ <;> cases z
theorem ntp_frk {o : Obj} {kvs : List (Key × V)} : ¬ IsTp (.frz o (.dK kvs)) := fun h => by rcases h with ⟨_, z⟩ | ⟨_, _, z⟩ <;> cases z
theorem Keep.tup {H H' : Hp} (s : Keep H H') {a : Addr} {xs : List V} (h : SqT K H a xs) : SqT K H' a xs := by
  rcases h with (h | ⟨o, h⟩) | h
  · exact .inl (.inl (s _ _ h (.inl ⟨_, rfl⟩)))
  · exact .inl (.inr ⟨o, s _ _ h (.inr ⟨_, _, rfl⟩)⟩)
  · exact .inr h
/-- a lock is let go -/
theorem ext_unlock {H H' : Hp} {d : Addr} {u : HO} {o : Obj} (h : H d = some u) (n : ∀ ps, u ≠ .tbl ps) (s : Ext (upd H d (.frz o u)) H') : Ext H (upd H' d u) := by
  refine ⟨fun b x e nx => ?_, fun b ps e => ?_⟩
  · by_cases z : b = d
    · rw [z, h] at e
      cases e
      rw [z, upd_same]
    · rw [upd_ne z]
      exact s.keep b x (by rw [upd_ne z]; exact e) nx
  · have z : b ≠ d := fun z => by
      rw [z, h] at e
      cases e
      exact n _ rfl
    obtain ⟨qs, g1, g2⟩ := s.tabs b ps (by rw [upd_ne z]; exact e)
    exact ⟨qs, by rw [upd_ne z]; exact g1, g2⟩
/-- a kind of numbers: how they stand, how large they are behind some steps -/
structure Ar (K : PySem.W.Frag) (α : Type) where
  S : MT.Sr α
  Val : Hp → V → α → Prop
  keep : ∀ {H H' : Hp} {v : V} {x : α}, Keep H H' → Val H v x → Val H' v x
  Sz : Nat → Nat → α → Prop
  sz_le : ∀ {i X Y : Nat} {x : α}, X ≤ Y → Sz i X x → Sz i Y x
  sz_add : ∀ {i X Y : Nat} {x y : α}, Sz i X x → Sz i Y y → Sz i (X + Y) (S.add x y)
  sz_mul : ∀ {i X Y : Nat} {x y : α}, Sz i X x → Sz 1 Y y → Sz (i + 1) (X * Y) (S.mul x y)
  sz_zero : ∀ i, Sz i 0 S.zero
section
variable {α : Type} (A : Ar K α) (G : Hp → Prop)
def spA : Sp := fun vs H Q _ => ∃ (v1 v2 : V) (x y : α) (i X Y : Nat), vs = [v1, v2] ∧ A.Val H v1 x ∧ A.Val H v2 y ∧ A.Sz i X x ∧ A.Sz i Y y ∧ i ≤ 20 ∧ X + Y ≤ 2 ^ 1000 ∧ G H ∧ ∀ v H', Ext H H' → A.Val H' v (A.S.add x y) → Q v H'
def spM : Sp := fun vs H Q _ => ∃ (v1 v2 : V) (x y : α) (i X Y : Nat), vs = [v1, v2] ∧ A.Val H v1 x ∧ A.Val H v2 y ∧ A.Sz i X x ∧ A.Sz 1 Y y ∧ i ≤ 20 ∧ X ≤ 2 ^ 1000 ∧ Y ≤ 2 ^ 1000 ∧ G H ∧ ∀ v H', Ext H H' → A.Val H' v (A.S.mul x y) → Q v H'
/-- an entry of a dict -/
def KvA (H : Hp) (kv : Key × V) (e : Nat × α) : Prop := kv.1 = Sum.inl ((e.1 : Nat) : Int) ∧ A.Val H kv.2 e.2
def KvsA (H : Hp) (kvs : List (Key × V)) (l : List (Nat × α)) : Prop := Paired (KvA A H) kvs l
variable {A G}
theorem KvsA.kp {H H' : Hp} (s : Keep H H') {kvs : List (Key × V)} {l : List (Nat × α)} (h : KvsA A H kvs l) : KvsA A H' kvs l := paired_imp (fun _ _ ⟨a, b⟩ => ⟨a, A.keep s b⟩) h
theorem inl_inj {a b : Nat} (h : (Sum.inl ((a : Nat) : Int) : Key) = Sum.inl ((b : Nat) : Int)) : a = b := by
  have := Sum.inl.inj h
  omega
theorem kvs_get {H : Hp} {zv : V} (hz : A.Val H zv A.S.zero) (m : Nat) : ∀ {kvs : List (Key × V)} {l : List (Nat × α)}, KvsA A H kvs l → A.Val H ((valV kvs (Sum.inl ((m : Nat) : Int))).getD zv) (MT.getA A.S l m)
  | _, _, .nil => hz
  | _, _, .cons (a := kv) (b := e) ⟨h1, h2⟩ t => by
    obtain ⟨k, v⟩ := kv
    have h1 : k = Sum.inl ((e.1 : Nat) : Int) := h1
    subst h1
    rw [MT.get_cons]
    by_cases z : e.1 = m
    · rw [if_pos z, valV_pos (by rw [z])]
      exact h2
    · rw [if_neg z, valV_neg (fun q => z (inl_inj q))]
      exact kvs_get hz m t
theorem kvs_val {H : Hp} {m : Nat} : ∀ {kvs : List (Key × V)} {l : List (Nat × α)}, KvsA A H kvs l → m ∈ MT.keysA l → ∃ v, valV kvs (Sum.inl ((m : Nat) : Int)) = some v ∧ A.Val H v (MT.getA A.S l m)
  | _, _, .nil, h => by cases h
  | _, _, .cons (a := kv) (b := e) (l₁ := kvs) (l₂ := l) ⟨h1, h2⟩ t, h => by
    obtain ⟨k, v⟩ := kv
    have h1 : k = Sum.inl ((e.1 : Nat) : Int) := h1
    subst h1
    rw [MT.get_cons]
    by_cases z : e.1 = m
    · rw [if_pos z, valV_pos (by rw [z])]
      exact ⟨_, rfl, h2⟩
    · rw [if_neg z, valV_neg (fun q => z (inl_inj q))]
      refine kvs_val t ?_
      rcases List.mem_cons.mp (show m ∈ e.1 :: MT.keysA l from h) with q | q
      · exact absurd q.symm z
      · exact q
theorem any_kvs {H : Hp} (m : Nat) : ∀ {kvs : List (Key × V)} {l : List (Nat × α)}, KvsA A H kvs l → (kvs.any fun kv => decide (kv.1 = Sum.inl ((m : Nat) : Int))) = l.any fun p => decide (p.1 = m)
  | _, _, .nil => rfl
  | _, _, .cons (a := kv) (b := e) ⟨h1, h2⟩ t => by
    rw [List.any_cons, List.any_cons, any_kvs m t]
    congr 1
    refine decide_eq_decide.mpr ?_
    have h1 : kv.1 = Sum.inl ((e.1 : Nat) : Int) := h1
    rw [h1]
    exact ⟨fun z => inl_inj z, fun z => by rw [z]⟩
theorem map_kvs {H : Hp} {m : Nat} {v : V} {x : α} (hv : A.Val H v x) : ∀ {kvs : List (Key × V)} {l : List (Nat × α)}, KvsA A H kvs l → KvsA A H (kvs.map fun kv => if kv.1 = Sum.inl ((m : Nat) : Int) then (kv.1, v) else kv) (l.map fun p => if p.1 = m then (p.1, x) else p)
  | _, _, .nil => .nil
  | _, _, .cons (a := kv) (b := e) ⟨h1, h2⟩ t => by
    refine .cons ?_ (map_kvs hv t)
    have h1 : kv.1 = Sum.inl ((e.1 : Nat) : Int) := h1
    dsimp only
    by_cases z : e.1 = m
    · rw [if_pos z, if_pos (by rw [h1, z])]
      exact ⟨h1, hv⟩
    · rw [if_neg z, if_neg (fun q => z (inl_inj (h1.symm.trans q)))]
      exact ⟨h1, h2⟩
theorem kvs_put {H : Hp} {m : Nat} {v : V} {x : α} (hv : A.Val H v x) {kvs : List (Key × V)} {l : List (Nat × α)} (h : KvsA A H kvs l) : KvsA A H (putK kvs (Sum.inl ((m : Nat) : Int)) v) (MT.putA l m x) := by
  unfold putK MT.putA
  rw [any_kvs m h]
  by_cases z : (l.any fun p => decide (p.1 = m)) = true
  · rw [if_pos z, if_pos z]
    have e : (kvs.map fun kv => if kv.1 = Sum.inl ((m : Nat) : Int) then (kv.1, v) else kv) = kvs.map fun kv => if kv.1 = Sum.inl ((m : Nat) : Int) then (Sum.inl ((m : Nat) : Int), v) else kv := List.map_congr_left fun kv _ => by
      by_cases q : kv.1 = Sum.inl ((m : Nat) : Int)
      · rw [if_pos q, if_pos q, q]
      · rw [if_neg q, if_neg q]
    have g := map_kvs (m := m) hv h
    first
      | exact g
      | (rw [e] at g; exact g)
  · rw [if_neg z, if_neg z]
    exact paired_snoc h ⟨rfl, hv⟩
end
/-! ### polynomials as numbers -/
abbrev CP : Type := {p : List Trm // Canon p}
theorem cp_ext {p q : CP} (h : PM.Eqv p.1 q.1) : p = q := Subtype.ext (PM.canon_uniq p.2 q.2 h)
def cpS : MT.Sr CP where
  add p q := ⟨canon (p.1 ++ q.1), PM.canon_canon _⟩
  mul p q := ⟨canon (mulT p.1 q.1), PM.canon_canon _⟩
  zero := ⟨[], by simp [PM.Canon]⟩
  one := ⟨one, by simp [PM.Canon, PM.one]⟩
  add_comm a b := cp_ext ((PM.eqv_canon _).trans ((PM.Eqv.perm List.perm_append_comm).trans (PM.eqv_canon _).symm))
  add_assoc a b c := cp_ext ((PM.eqv_canon _).trans (((PM.eqv_canon _).append (.refl _)).trans ((by rw [List.append_assoc]; exact (PM.Eqv.refl a.1).append (PM.eqv_canon _).symm : PM.Eqv (a.1 ++ b.1 ++ c.1) (a.1 ++ canon (b.1 ++ c.1))).trans (PM.eqv_canon _).symm)))
  add_zero a := cp_ext ((PM.eqv_canon _).trans (by rw [List.append_nil]; exact .refl _))
  mul_assoc a b c := cp_ext ((PM.eqv_canon _).trans (((PM.eqv_canon _).mul (.refl _)).trans ((PM.mul_assoc _ _ _).trans (((PM.Eqv.refl a.1).mul (PM.eqv_canon _).symm).trans (PM.eqv_canon _).symm))))
  mul_comm a b := cp_ext ((PM.eqv_canon _).trans ((PM.mul_comm _ _).trans (PM.eqv_canon _).symm))
  mul_add a b c := cp_ext ((PM.eqv_canon _).trans (((PM.Eqv.refl a.1).mul (PM.eqv_canon _)).trans (((PM.mul_comm _ _).trans (by
    have : mulT (b.1 ++ c.1) a.1 = mulT b.1 a.1 ++ mulT c.1 a.1 := by
      unfold mulT
      rw [List.flatMap_append]
    rw [this]
    exact (((PM.mul_comm _ _).trans (PM.eqv_canon _).symm).append ((PM.mul_comm _ _).trans (PM.eqv_canon _).symm)))).trans (PM.eqv_canon _).symm)))
  mul_zero a := cp_ext ((PM.eqv_canon _).trans ((PM.mul_comm _ _).trans (.refl _)))
  mul_one a := cp_ext ((PM.eqv_canon _).trans ((PM.mul_comm _ _).trans (PM.one_mul _)))
theorem norm_le_len : ∀ {p : List Trm}, (∀ t ∈ p, t.2 ≠ 0) → p.length ≤ PM.norm p
  | [], _ => Nat.le_refl _
  | t :: p, h => by
    have h1 := h t (List.mem_cons_self ..)
    have h2 := norm_le_len (p := p) fun u m => h u (List.mem_cons_of_mem _ m)
    have : PM.norm (t :: p) = t.2.natAbs + PM.norm p := rfl
    rw [this, List.length_cons]
    omega
theorem mem_canon {t : Trm} : ∀ {ts : List Trm}, t ∈ canon ts → ∃ s ∈ ts, s.1 = t.1
  | [], h => by cases h
  | u :: ts, h => by
    rcases PM.mem_ins (show t ∈ PM.ins u (canon ts) from h) with e | h
    · exact ⟨u, List.mem_cons_self .., e.symm⟩
    · obtain ⟨s, hs, e⟩ := mem_canon h
      exact ⟨s, List.mem_cons_of_mem _ hs, e⟩
/-! ### canonical polynomials in the heap, by their norms -/
def cqA (K : PySem.W.Frag) : Ar K CP where
  S := cpS
  Val H v p := ∃ a, v = .ref a ∧ PolyAt K H a p.1
  keep := fun s ⟨a, e, xs, h1, h2⟩ => ⟨a, e, xs, s.tup h1, paired_imp (fun _ _ ⟨b, c, e2, g1, g2⟩ => ⟨b, c, e2, s.tup g1, s.tup g2⟩) h2⟩
  Sz _ X p := PM.norm p.1 ≤ X
  sz_le := fun h a => Nat.le_trans a h
  sz_add := fun a c => Nat.le_trans (PM.norm_canon _) (by rw [PM.norm_append]; exact Nat.add_le_add a c)
  sz_mul := fun a c => Nat.le_trans (PM.norm_canon _) (by rw [PM.norm_mul]; exact Nat.mul_le_mul a c)
  sz_zero := fun i => Nat.le_refl _
abbrev nrm (p : CP) : Nat := PM.norm p.1
theorem len_nrm (p : CP) : p.1.length ≤ nrm p := norm_le_len p.2.2
def spPlC (T : Top K mg) (f : CP → CP → CP) : Sp := fun vs H Q _ => ∃ (v1 v2 : V) (x y : CP), vs = [v1, v2] ∧ (cqA K).Val H v1 x ∧ (cqA K).Val H v2 y ∧ nrm x + nrm y < 1000000 ∧ Tg T H ∧ ∀ v H', Ext H H' → (cqA K).Val H' v (f x y) → Q v H'
theorem okC_plus (T : Top K mg) (B : Tb T base) : FnOk P w K mg base CX0 4 T.f_plus T.d_plus ["p", "q"] (spPlC T cpS.add) := (ok_plus T B).imp fun vs H Q E ⟨v1, v2, x, y, e, ⟨a, e1, hx⟩, ⟨b, e2, hy⟩, hb, g, q⟩ => by
  subst e1
  subst e2
  exact ⟨a, b, x.1, y.1, e, hx, hy, by have := len_nrm x; have := len_nrm y; omega, g, fun p H' s hp _ => q _ _ s ⟨p, rfl, hp.at⟩⟩
theorem nrm_at {p : CP} {t : Trm} (m : t ∈ p.1) : t.2.natAbs ≤ nrm p := PM.norm_mem m
theorem mil : 1000000 < 2 ^ 1900 := Nat.lt_of_lt_of_le (show 1000000 < 2 ^ 20 by decide) (Nat.pow_le_pow_right (by decide) (by decide))
def spTmC (T : Top K mg) : Sp := fun vs H Q _ => ∃ (v1 v2 : V) (x y : CP), vs = [v1, v2] ∧ (cqA K).Val H v1 x ∧ (cqA K).Val H v2 y ∧ nrm x * nrm y < 1000000 ∧ nrm x < 1000000 ∧ nrm y < 1000000 ∧ Tg T H ∧ ∀ v H', Ext H H' → (cqA K).Val H' v (cpS.mul x y) → Q v H'
theorem okC_times (T : Top K mg) (B : Tb T base) : FnOk P w K mg base CX0 3 T.f_times T.d_times ["p", "q"] (spTmC T) := (ok_times T B).imp fun vs H Q E ⟨v1, v2, x, y, e, ⟨a, e1, hx⟩, ⟨b, e2, hy⟩, hb, hx6, hy6, g, q⟩ => by
  subst e1
  subst e2
  refine ⟨a, b, x.1, y.1, e, hx, hy, Nat.lt_of_le_of_lt (Nat.mul_le_mul (len_nrm x) (len_nrm y)) hb, fun t m => ?_, fun t m => ?_, g, fun p H' s hp _ => q _ _ s ⟨p, rfl, hp.at⟩⟩
  · exact Nat.lt_of_le_of_lt (nrm_at m) (Nat.lt_trans hx6 mil)
  · exact Nat.lt_of_le_of_lt (nrm_at m) (Nat.lt_trans hy6 mil)
/-! states, costs, sums: the mathematics -/
def states : Nat → List (List Int)
  | 0 => [[]]
  | n + 1 => (states n).flatMap fun s => [s ++ [0], s ++ [1]]
def bits (st : List Int) : Prop := ∀ b ∈ st, b = 0 ∨ b = 1
theorem states_ok : ∀ (n : Nat), ∀ st ∈ states n, st.length = n ∧ bits st
  | 0, st, m => by
    rw [List.mem_singleton.mp m]
    exact ⟨rfl, fun b z => by cases z⟩
  | n + 1, st, m => by
    obtain ⟨s, hs, m⟩ := List.mem_flatMap.mp m
    obtain ⟨h1, h2⟩ := states_ok n s hs
    have key : ∀ x : Int, (x = 0 ∨ x = 1) → (s ++ [x]).length = n + 1 ∧ bits (s ++ [x]) := fun x hx => ⟨by rw [List.length_append, h1]; rfl, fun b z => by
      rcases List.mem_append.mp z with z | z
      · exact h2 b z
      · rw [List.mem_singleton.mp z]
        exact hx⟩
    simp only [List.mem_cons, List.not_mem_nil, or_false] at m
    rcases m with rfl | rfl
    · exact key 0 (.inl rfl)
    · exact key 1 (.inr rfl)
theorem length_states : ∀ n, (states n).length = 2 ^ n
  | 0 => rfl
  | n + 1 => by
    have : ∀ l : List (List Int), (l.flatMap fun s => [s ++ [0], s ++ [1]]).length = 2 * l.length := fun l => by
      induction l with
      | nil => rfl
      | cons s l ih =>
        rw [List.flatMap_cons, List.length_append, ih]
        simp only [List.length_cons, List.length_nil]
        omega
    rw [states, this, length_states n, Nat.pow_succ]
    omega
theorem states_add (n : Nat) : ∀ m, states (n + m) = (states n).flatMap fun s => (states m).map fun t => s ++ t
  | 0 => by
    have : ∀ l : List (List Int), (l.flatMap fun s => [s ++ []]) = l := fun l => by
      induction l with
      | nil => rfl
      | cons s l ih => rw [List.flatMap_cons, ih, List.append_nil]; rfl
    exact (this _).symm
  | m + 1 => by
    show (states (n + m)).flatMap _ = _
    rw [states_add n m, List.flatMap_assoc]
    congr 1
    funext s
    show _ = ((states m).flatMap fun t => [t ++ [0], t ++ [1]]).map _
    rw [List.map_flatMap, List.flatMap_map]
    congr 1
    funext t
    simp only [List.map_cons, List.map_nil, List.append_assoc]
def atS (st : List Int) (i : Int) : Int := st.getD i.toNat 0
def edgeC (es : List Eg) (st : List Int) : Int := ((es.filter fun e => decide (atS st e.1 ≠ atS st e.2.1)).map fun e => e.2.2).sum
def fieldC (fs st : List Int) : Int := (((fs.zip st).filter fun p => decide (p.2 = 1)).map fun p => p.1).sum
def costZ (fs : List Int) (es : List Eg) (st : List Int) : Int := edgeC es st + fieldC fs st
def termS (fs : List Int) (es : List Eg) (st : List Int) : Trm := ((costZ fs es st, st.sum), 1)
def zraw (fs : List Int) (es : List Eg) : List Trm := (states fs.length).map (termS fs es)
def shiftE (n : Int) (es : List Eg) : List Eg := es.map fun e => (e.1 + n, e.2.1 + n, e.2.2)
theorem atS_left {s t : List Int} {i : Int} (h0 : 0 ≤ i) (h1 : i < s.length) : atS (s ++ t) i = atS s i := by
  unfold atS
  rw [List.getD_eq_getElem?_getD, List.getD_eq_getElem?_getD, List.getElem?_append_left (by omega)]
theorem atS_right {s t : List Int} {i : Int} (h0 : 0 ≤ i) : atS (s ++ t) (i + s.length) = atS t i := by
  unfold atS
  rw [List.getD_eq_getElem?_getD, List.getD_eq_getElem?_getD, List.getElem?_append_right (by omega)]
  congr 2
  omega
theorem edgeC_left {es : List Eg} {s t : List Int} (h : ∀ e ∈ es, okE s.length e) : edgeC es (s ++ t) = edgeC es s := by
  unfold edgeC
  congr 2
  refine List.filter_congr fun e m => ?_
  obtain ⟨h1, h2, h3, _⟩ := h e m
  rw [atS_left h1 (by omega), atS_left (by omega) h3]
theorem edgeC_right {es : List Eg} {s t : List Int} {n : Int} (h : ∀ e ∈ es, okE n e) : edgeC (shiftE s.length es) (s ++ t) = edgeC es t := by
  unfold edgeC shiftE
  rw [List.filter_map, List.map_map]
  congr 1
  have : es.filter ((fun e : Eg => decide (atS (s ++ t) e.1 ≠ atS (s ++ t) e.2.1)) ∘ fun e => (e.1 + s.length, e.2.1 + s.length, e.2.2)) = es.filter fun e => decide (atS t e.1 ≠ atS t e.2.1) := by
    refine List.filter_congr fun e m => ?_
    obtain ⟨h1, h2, h3, _⟩ := h e m
    show decide (atS (s ++ t) (e.1 + s.length) ≠ atS (s ++ t) (e.2.1 + s.length)) = _
    rw [atS_right h1, atS_right (by omega)]
  rw [this]
  rfl
theorem costZ_app {fs ms s t : List Int} {es ls : List Eg} {n : Int} (hs : s.length = fs.length) (he : ∀ e ∈ es, okE fs.length e) (hl : ∀ e ∈ ls, okE n e) :
    costZ (fs ++ ms) (es ++ shiftE fs.length ls) (s ++ t) = costZ fs es s + costZ ms ls t := by
  have h1 : edgeC (es ++ shiftE fs.length ls) (s ++ t) = edgeC es s + edgeC ls t := by
    rw [← edgeC_left (es := es) (s := s) (t := t) (fun e m => by rw [hs]; exact he e m), ← edgeC_right (es := ls) (s := s) (t := t) hl, hs]
    unfold edgeC
    rw [List.filter_append, List.map_append, List.sum_append]
  have h2 : fieldC (fs ++ ms) (s ++ t) = fieldC fs s + fieldC ms t := by
    unfold fieldC
    rw [List.zip_append hs.symm, List.filter_append, List.map_append, List.sum_append]
  unfold costZ
  omega
theorem fm_congr {α β : Type} {f g : α → List β} : ∀ {l : List α}, (∀ x ∈ l, f x = g x) → l.flatMap f = l.flatMap g
  | [], _ => rfl
  | x :: l, h => by rw [List.flatMap_cons, List.flatMap_cons, h x List.mem_cons_self, fm_congr fun y m => h y (List.mem_cons_of_mem _ m)]
theorem zraw_app {fs ms : List Int} {es ls : List Eg} (he : ∀ e ∈ es, okE fs.length e) (hl : ∀ e ∈ ls, okE ms.length e) :
    zraw (fs ++ ms) (es ++ shiftE fs.length ls) = mulT (zraw fs es) (zraw ms ls) := by
  unfold zraw mulT
  rw [List.length_append, states_add, List.map_flatMap, List.flatMap_map]
  refine fm_congr fun s hs => ?_
  rw [List.map_map, List.map_map]
  refine List.map_congr_left fun t ht => ?_
  show termS _ _ (s ++ t) = (addE _ _, 1 * 1)
  unfold termS addE
  rw [costZ_app ((states_ok _ s hs).1) he hl, List.sum_append]
  rfl
theorem z_mul {fs ms : List Int} {es ls : List Eg} (he : ∀ e ∈ es, okE fs.length e) (hl : ∀ e ∈ ls, okE ms.length e) :
    canon (zraw (fs ++ ms) (es ++ shiftE fs.length ls)) = canon (mulT (canon (zraw fs es)) (canon (zraw ms ls))) := by
  rw [zraw_app he hl]
  exact PM.canon_congr (PM.Eqv.mul (PM.eqv_canon _).symm (PM.eqv_canon _).symm)
theorem length_zraw (fs : List Int) (es : List Eg) : (zraw fs es).length = 2 ^ fs.length := by
  unfold zraw
  rw [List.length_map, length_states]
/-- fields times spins -/
def dotC : List Int → List Int → Int
  | f :: fs, s :: st => f * s + dotC fs st
  | _, _ => 0
theorem dot_field : ∀ {fs st : List Int}, bits st → dotC fs st = fieldC fs st
  | [], st, _ => by unfold dotC fieldC; rfl
  | f :: fs, [], _ => by unfold dotC fieldC; rfl
  | f :: fs, s :: st, h => by
    have ih := dot_field (fs := fs) (st := st) fun b m => h b (List.mem_cons_of_mem _ m)
    have hs := h s List.mem_cons_self
    unfold fieldC at *
    rw [dotC, ih, List.zip_cons_cons, List.filter_cons]
    rcases hs with rfl | rfl
    · simp
    · simp
theorem dot_snoc {fs st : List Int} {f s : Int} : ∀ {k : Nat}, fs[k]? = some f → st[k]? = some s → dotC (fs.take (k + 1)) (st.take (k + 1)) = dotC (fs.take k) (st.take k) + f * s := by
  intro k
  induction k generalizing fs st with
  | zero =>
    intro h1 h2
    cases fs with
    | nil => simp at h1
    | cons a fs =>
      cases st with
      | nil => simp at h2
      | cons b st =>
        simp only [List.getElem?_cons_zero, Option.some.injEq] at h1 h2
        subst h1
        subst h2
        simp [dotC]
  | succ k ih =>
    intro h1 h2
    cases fs with
    | nil => simp at h1
    | cons a fs =>
      cases st with
      | nil => simp at h2
      | cons b st =>
        simp only [List.getElem?_cons_succ] at h1 h2
        have := ih h1 h2
        simp only [List.take_succ_cons, dotC, this]
        omega
theorem sum_bound {c : Int} : ∀ {l : List Int}, (∀ x ∈ l, -c ≤ x ∧ x ≤ c) → -(c * l.length) ≤ l.sum ∧ l.sum ≤ c * l.length
  | [], _ => by simp
  | x :: l, h => by
    obtain ⟨h1, h2⟩ := sum_bound (l := l) fun y m => h y (List.mem_cons_of_mem _ m)
    obtain ⟨h3, h4⟩ := h x List.mem_cons_self
    rw [List.sum_cons, List.length_cons]
    have : c * ((l.length + 1 : Nat) : Int) = c * l.length + c := by
      rw [Int.natCast_add, Int.mul_add]
      simp
    omega
theorem sumV_ints : ∀ l : List Int, sumV (l.map V.int) = l.sum
  | [] => rfl
  | x :: l => by
    rw [List.map_cons, List.sum_cons, ← sumV_ints l]
    rfl
/-! ### tables with any keys -/
end
end KP
namespace MG
section
variable {α β : Type} [DecidableEq β] (S : MT.Sr α)
def getA (l : List (β × α)) (m : β) : α := match l.find? (fun p => decide (p.1 = m)) with
  | some p => p.2
  | none => S.zero
def putA (l : List (β × α)) (m : β) (x : α) : List (β × α) := if l.any (fun p => decide (p.1 = m)) then l.map (fun p => if p.1 = m then (p.1, x) else p) else l ++ [(m, x)]
def addA (l : List (β × α)) (m : β) (y : α) : List (β × α) := putA l m (S.add (getA S l m) y)
def keysA (l : List (β × α)) : List β := l.map (·.1)
def dot (F : β → α) : List (β × α) → α
  | [] => S.zero
  | p :: t => S.add (S.mul p.2 (F p.1)) (dot F t)
theorem dot_app (F : β → α) : ∀ l k, dot S F (l ++ k) = S.add (dot S F l) (dot S F k)
  | [], k => (S.zero_add _).symm
  | p :: t, k => by
    show S.add _ (dot S F (t ++ k)) = S.add (S.add _ (dot S F t)) _
    rw [dot_app F t k, S.add_assoc]
theorem keys_put (l : List (β × α)) (m : β) (x : α) : keysA (putA l m x) = if m ∈ keysA l then keysA l else keysA l ++ [m] := by
  unfold putA
  by_cases h : (l.any fun p => decide (p.1 = m)) = true
  · have hm : m ∈ keysA l := by
      obtain ⟨p, hp, e⟩ := List.any_eq_true.mp h
      exact List.mem_map.mpr ⟨p, hp, of_decide_eq_true e⟩
    rw [if_pos h, if_pos hm]
    unfold keysA
    rw [List.map_map]
    refine List.map_congr_left fun p _ => ?_
    show (if p.1 = m then (p.1, x) else p).1 = p.1
    split <;> rfl
  · have hm : m ∉ keysA l := fun hm => by
      obtain ⟨p, hp, e⟩ := List.mem_map.mp hm
      exact h (List.any_eq_true.mpr ⟨p, hp, decide_eq_true e⟩)
    rw [if_neg h, if_neg hm]
    unfold keysA
    rw [List.map_append]
    rfl
theorem nodup_put {l : List (β × α)} (h : (keysA l).Nodup) (m : β) (x : α) : (keysA (putA l m x)).Nodup := by
  rw [keys_put]
  split
  · exact h
  · rename_i hm
    exact List.nodup_append.mpr ⟨h, by simp, fun a ha b hb e => hm (by rw [← List.mem_singleton.mp hb, ← e]; exact ha)⟩
theorem get_cons (p : β × α) (l : List (β × α)) (m : β) : getA S (p :: l) m = if p.1 = m then p.2 else getA S l m := by
  unfold getA
  by_cases e : p.1 = m
  · rw [if_pos e, List.find?_cons_of_pos (by rw [decide_eq_true e])]
  · rw [if_neg e, List.find?_cons_of_neg (by rw [decide_eq_false e]; decide)]
theorem get_none {l : List (β × α)} {m : β} (h : m ∉ keysA l) : getA S l m = S.zero := by
  induction l with
  | nil => rfl
  | cons p t ih =>
    rw [get_cons, if_neg (fun e => h (by rw [← e]; exact List.mem_cons_self ..)), ih fun e => h (List.mem_cons_of_mem _ e)]
theorem dot_set (F : β → α) {m : β} {y : α} : ∀ {l : List (β × α)}, (keysA l).Nodup → m ∈ keysA l → dot S F (l.map fun p => if p.1 = m then (p.1, S.add (getA S l m) y) else p) = S.add (dot S F l) (S.mul y (F m))
  | [], _, h => by cases h
  | p :: t, hn, hm => by
    obtain ⟨h1, h2⟩ := List.nodup_cons.mp (show (p.1 :: keysA t).Nodup from hn)
    rw [List.map_cons, get_cons]
    by_cases e : p.1 = m
    · rw [if_pos e, if_pos e]
      have ht : (t.map fun q => if q.1 = m then (q.1, S.add p.2 y) else q) = t := by
        refine (List.map_congr_left fun q hq => ?_).trans (List.map_id t)
        have : q.1 ≠ m := fun z => h1 (by rw [e, ← z]; exact List.mem_map.mpr ⟨q, hq, rfl⟩)
        rw [if_neg this]
        rfl
      rw [ht]
      show S.add (S.mul (S.add p.2 y) (F p.1)) (dot S F t) = S.add (S.add (S.mul p.2 (F p.1)) (dot S F t)) (S.mul y (F m))
      rw [S.add_mul, e, S.swap]
    · rw [if_neg e, if_neg e]
      have hm2 : m ∈ keysA t := by
        rcases List.mem_cons.mp (show m ∈ p.1 :: keysA t from hm) with z | z
        · exact absurd z.symm e
        · exact z
      show S.add (S.mul p.2 (F p.1)) (dot S F (t.map _)) = _
      rw [dot_set F h2 hm2, ← S.add_assoc]
      rfl
theorem dot_add (F : β → α) {l : List (β × α)} (hn : (keysA l).Nodup) (m : β) (y : α) : dot S F (addA S l m y) = S.add (dot S F l) (S.mul y (F m)) := by
  unfold addA putA
  by_cases h : (l.any fun p => decide (p.1 = m)) = true
  · have hm : m ∈ keysA l := by
      obtain ⟨p, hp, e⟩ := List.any_eq_true.mp h
      exact List.mem_map.mpr ⟨p, hp, of_decide_eq_true e⟩
    rw [if_pos h]
    exact dot_set S F hn hm
  · have hm : m ∉ keysA l := fun hm => by
      obtain ⟨p, hp, e⟩ := List.mem_map.mp hm
      exact h (List.any_eq_true.mpr ⟨p, hp, decide_eq_true e⟩)
    rw [if_neg h, get_none S hm, S.zero_add, dot_app]
    show S.add _ (S.add (S.mul y (F m)) S.zero) = _
    rw [S.add_zero]

end
end MG
namespace KP
open PySem PySem.Spec PyProof.Rows L2 EXT SDT GXP AUG
open PM (Trm Ex canon mulT look put gather keys addTo pw one addE Canon)
section
variable {P : Program} {w : World} {K : PySem.W.Frag} {mg : Str → Option Value} {base : Heap}
/-! ### a table carried along an order -/
section
variable {α : Type} (S : MT.Sr α) (mon : Int → Int → α)
structure FSt where
  price : List Int → Int → Int
  stay : List Nat
def tgtF (st : FSt) (k : List Int) (s : Int) : List Int := st.stay.map fun p => (k ++ [s]).getD p 0
def c1F (st : FSt) (p : List Int × α) (g : List (List Int × α)) (s : Int) : List (List Int × α) := MG.addA S g (tgtF st p.1 s) (S.mul p.2 (mon (st.price p.1 s) s))
def c2F (st : FSt) (g : List (List Int × α)) (p : List Int × α) : List (List Int × α) := c1F S mon st p (c1F S mon st p g 0) 1
def cStF (st : FSt) (T : List (List Int × α)) : List (List Int × α) := T.foldl (c2F S mon st) []
def WF : List FSt → List Int → α
  | [], _ => S.one
  | st :: r, k => S.add (S.mul (mon (st.price k 0) 0) (WF r (tgtF st k 0))) (S.mul (mon (st.price k 1) 1) (WF r (tgtF st k 1)))
theorem c1_dot (F : List Int → α) (st : FSt) (p : List Int × α) {g : List (List Int × α)} (h : (MG.keysA g).Nodup) (s : Int) : (MG.keysA (c1F S mon st p g s)).Nodup ∧ MG.dot S F (c1F S mon st p g s) = S.add (MG.dot S F g) (S.mul (S.mul p.2 (mon (st.price p.1 s) s)) (F (tgtF st p.1 s))) := ⟨MG.nodup_put h _ _, MG.dot_add S F h _ _⟩
theorem cSt_go (F : List Int → α) (st : FSt) : ∀ (T g : List (List Int × α)), (MG.keysA g).Nodup → (MG.keysA (T.foldl (c2F S mon st) g)).Nodup ∧ MG.dot S F (T.foldl (c2F S mon st) g) = S.add (MG.dot S F g) (MG.dot S (fun k => S.add (S.mul (mon (st.price k 0) 0) (F (tgtF st k 0))) (S.mul (mon (st.price k 1) 1) (F (tgtF st k 1)))) T)
  | [], g, h => ⟨h, (S.add_zero _).symm⟩
  | p :: T, g, h => by
    obtain ⟨n1, d1⟩ := c1_dot S mon F st p h 0
    obtain ⟨n2, d2⟩ := c1_dot S mon F st p n1 1
    obtain ⟨a, b⟩ := cSt_go F st T _ n2
    refine ⟨a, b.trans ?_⟩
    rw [d2, d1]
    show _ = S.add (MG.dot S F g) (S.add (S.mul p.2 (S.add (S.mul (mon (st.price p.1 0) 0) (F (tgtF st p.1 0))) (S.mul (mon (st.price p.1 1) 1) (F (tgtF st p.1 1))))) (MG.dot S _ T))
    rw [S.mul_add, ← S.mul_assoc, ← S.mul_assoc, ← S.add_assoc, ← S.add_assoc]
def runF (sts : List FSt) (T : List (List Int × α)) : List (List Int × α) := sts.foldl (fun T st => cStF S mon st T) T
theorem runF_snoc (sts : List FSt) (st : FSt) (T : List (List Int × α)) : runF S mon (sts ++ [st]) T = cStF S mon st (runF S mon sts T) := by
  unfold runF
  rw [List.foldl_append]
  rfl
theorem run_dot : ∀ (sts : List FSt) {T : List (List Int × α)}, (MG.keysA T).Nodup → (MG.keysA (runF S mon sts T)).Nodup ∧ MG.dot S (fun _ => S.one) (runF S mon sts T) = MG.dot S (WF S mon sts) T
  | [], T, h => ⟨h, rfl⟩
  | st :: r, T, h => by
    obtain ⟨a, b⟩ := cSt_go S mon (WF S mon r) st T [] (by simp [MG.keysA])
    obtain ⟨c, d⟩ := run_dot r a
    refine ⟨c, d.trans (b.trans ?_)⟩
    exact S.zero_add _
theorem keys_c2 {P : List Int → Prop} (st : FSt) (hP : ∀ k s, P (tgtF st k s)) : ∀ (T g : List (List Int × α)), (∀ k ∈ MG.keysA g, P k) → ∀ k ∈ MG.keysA (T.foldl (c2F S mon st) g), P k
  | [], _, h => h
  | p :: T, g, h => by
    refine keys_c2 st hP T _ fun k m => ?_
    unfold c2F c1F MG.addA at m
    rw [MG.keys_put] at m
    have h1 : ∀ k ∈ MG.keysA (MG.putA g (tgtF st p.1 0) (S.add (MG.getA S g (tgtF st p.1 0)) (S.mul p.2 (mon (st.price p.1 0) 0)))), P k := fun k m => by
      rw [MG.keys_put] at m
      split at m
      · exact h k m
      · rcases List.mem_append.mp m with m | m
        · exact h k m
        · rw [List.mem_singleton.mp m]
          exact hP _ _
    split at m
    · exact h1 k m
    · rcases List.mem_append.mp m with m | m
      · exact h1 k m
      · rw [List.mem_singleton.mp m]
        exact hP _ _
theorem dot_one_nil : ∀ {T : List (List Int × α)}, (MG.keysA T).Nodup → (∀ k ∈ MG.keysA T, k = []) → MG.dot S (fun _ => S.one) T = MG.getA S T []
  | [], _, _ => rfl
  | [p], _, h => by
    have e : p.1 = [] := h p.1 List.mem_cons_self
    rw [MG.get_cons, if_pos e]
    show S.add (S.mul p.2 S.one) S.zero = p.2
    rw [S.add_zero, S.mul_one]
  | p :: p' :: T, nd, h => by
    obtain ⟨n1, _⟩ := List.nodup_cons.mp (show (p.1 :: MG.keysA (p' :: T)).Nodup from nd)
    exact absurd (by rw [h p.1 List.mem_cons_self, ← h p'.1 (List.mem_cons_of_mem _ List.mem_cons_self)]; exact List.mem_cons_self) n1
/-- behind the last step, whose vertices all leave, the empty key has the sum -/
theorem run_end {sts : List FSt} {st : FSt} (he : st.stay = []) : MG.getA S (runF S mon (sts ++ [st]) [([], S.one)]) [] = WF S mon (sts ++ [st]) [] := by
  obtain ⟨a, b⟩ := run_dot S mon (sts ++ [st]) (T := [([], S.one)]) (by simp [MG.keysA])
  have hk : ∀ k ∈ MG.keysA (runF S mon (sts ++ [st]) [([], S.one)]), k = [] := by
    rw [runF_snoc]
    refine keys_c2 S mon (P := fun k => k = []) st (fun k s => ?_) _ _ (fun k m => absurd m List.not_mem_nil)
    unfold tgtF
    rw [he]
    rfl
  rw [← dot_one_nil S a hk, b]
  show S.add (S.mul S.one (WF S mon (sts ++ [st]) [])) S.zero = _
  rw [S.add_zero, S.one_mul]
/-! ### the sum over all histories -/
def sumLs {γ : Type} (f : γ → α) : List γ → α
  | [] => S.zero
  | x :: l => S.add (f x) (sumLs f l)
theorem sumLs_app {γ : Type} (f : γ → α) : ∀ a b : List γ, sumLs S f (a ++ b) = S.add (sumLs S f a) (sumLs S f b)
  | [], b => (S.zero_add _).symm
  | x :: a, b => by rw [List.cons_append, sumLs, sumLs, sumLs_app f a b, S.add_assoc]
theorem sumLs_map {γ δ : Type} (f : γ → α) (g : δ → γ) : ∀ l : List δ, sumLs S f (l.map g) = sumLs S (fun x => f (g x)) l
  | [] => rfl
  | x :: l => by rw [List.map_cons, sumLs, sumLs, sumLs_map f g l]
theorem sumLs_mul {γ : Type} (c : α) (f : γ → α) : ∀ l : List γ, sumLs S (fun x => S.mul c (f x)) l = S.mul c (sumLs S f l)
  | [] => (S.mul_zero c).symm
  | x :: l => by rw [sumLs, sumLs, sumLs_mul c f l, S.mul_add]
theorem sumLs_congr {γ : Type} {f g : γ → α} : ∀ {l : List γ}, (∀ x ∈ l, f x = g x) → sumLs S f l = sumLs S g l
  | [], _ => rfl
  | x :: l, h => by rw [sumLs, sumLs, h x List.mem_cons_self, sumLs_congr fun y m => h y (List.mem_cons_of_mem _ m)]
theorem sumLs_perm {γ : Type} (f : γ → α) {a b : List γ} (h : a.Perm b) : sumLs S f a = sumLs S f b := by
  induction h with
  | nil => rfl
  | cons c _ ih => rw [sumLs, sumLs, ih]
  | swap c d l => rw [sumLs, sumLs, sumLs, sumLs, ← S.add_assoc, ← S.add_assoc, S.add_comm (f d)]
  | trans _ _ ih1 ih2 => exact ih1.trans ih2
variable (P : Nat → List Int → Int → Int)
def HPF : List Int → List Int → α
  | _, [] => S.one
  | h, s :: t => S.mul (mon (P h.length h s) s) (HPF (h ++ [s]) t)
def PTF : List Int → List Int → Int
  | _, [] => 0
  | h, s :: t => P h.length h s + PTF (h ++ [s]) t
theorem HP_mon (h0 : mon 0 0 = S.one) (hm : ∀ a b c d, S.mul (mon a b) (mon c d) = mon (a + c) (b + d)) : ∀ h t : List Int, HPF S mon P h t = mon (PTF P h t) t.sum
  | _, [] => h0.symm
  | h, s :: t => by rw [HPF, PTF, HP_mon h0 hm, hm, List.sum_cons]
/-- each step's price and target, told by the history -/
structure Hist (sts : List FSt) (Fr : Nat → List Nat) : Prop where
  zero : Fr 0 = []
  pr : ∀ i st h s, sts[i]? = some st → h.length = i → st.price ((Fr i).map fun p => h.getD p 0) s = P i h s
  tg : ∀ i st h s, sts[i]? = some st → h.length = i → tgtF st ((Fr i).map fun p => h.getD p 0) s = (Fr (i + 1)).map fun p => (h ++ [s]).getD p 0
theorem WF_hist {sts : List FSt} {Fr : Nat → List Nat} (H : Hist P sts Fr) : ∀ d i, i + d = sts.length → ∀ h : List Int, h.length = i → WF S mon (sts.drop i) ((Fr i).map fun p => h.getD p 0) = sumLs S (HPF S mon P h) (states d)
  | 0, i, hd, h, hl => by
    rw [List.drop_eq_nil_of_le (by omega)]
    show S.one = S.add S.one S.zero
    rw [S.add_zero]
  | d + 1, i, hd, h, hl => by
    have hi : i < sts.length := by omega
    have he := List.getElem?_eq_getElem hi
    rw [List.drop_eq_getElem_cons hi, WF, H.pr i _ h 0 he hl, H.pr i _ h 1 he hl, H.tg i _ h 0 he hl, H.tg i _ h 1 he hl]
    rw [WF_hist H d (i + 1) (by omega) (h ++ [0]) (by rw [List.length_append, List.length_singleton, hl]), WF_hist H d (i + 1) (by omega) (h ++ [1]) (by rw [List.length_append, List.length_singleton, hl])]
    rw [show d + 1 = 1 + d by omega, states_add]
    have e1 : states 1 = [[0], [1]] := rfl
    rw [e1, List.flatMap_cons, List.flatMap_cons, List.flatMap_nil, List.append_nil, sumLs_app, sumLs_map, sumLs_map, ← sumLs_mul, ← sumLs_mul]
    subst hl
    rfl
end
def inR (n : Nat) (us : List (Int × Int)) : Prop := ∀ e ∈ us, 0 ≤ e.1 ∧ e.1 < n ∧ 0 ≤ e.2 ∧ e.2 < n ∧ e.1 ≠ e.2
theorem inR_of {n : Nat} {es : List Eg} (g : goodE n es) : inR n (prsOf es) := fun e m => by
  obtain ⟨x, mx, rfl⟩ := List.mem_map.mp m
  obtain ⟨h1, h2, h3, _⟩ := g.2.1 x mx
  have h1 : 0 ≤ x.1 := h1
  have h2 : x.1 < x.2.1 := h2
  have h3 : x.2.1 < n := h3
  exact ⟨h1, by show x.1 < _; omega, by show 0 ≤ x.2.1; omega, h3, by show x.1 ≠ x.2.1; omega⟩
theorem mem_backs {os : List Int} {us : List (Int × Int)} {v k : Int} : k ∈ backs os us v ↔ ∃ i : Nat, ∃ e, us[i]? = some e ∧ k = (i : Int) ∧ laterE os e = pl os v := by
  unfold backs
  rw [List.mem_map]
  constructor
  · rintro ⟨⟨e, i⟩, hm, rfl⟩
    obtain ⟨h1, h2⟩ := List.mem_filter.mp hm
    exact ⟨i, e, List.mem_zipIdx_iff_getElem?.mp h1, rfl, of_decide_eq_true h2⟩
  · rintro ⟨i, e, h1, rfl, h2⟩
    exact ⟨(e, i), List.mem_filter.mpr ⟨List.mem_zipIdx_iff_getElem?.mpr h1, decide_eq_true h2⟩, rfl⟩
theorem backs_nodup (os : List Int) (us : List (Int × Int)) (v : Int) : (backs os us v).Nodup := by
  unfold backs
  have h1 : ((us.zipIdx).map Prod.snd).Nodup := by
    rw [List.zipIdx_map_snd]
    exact List.nodup_range'
  have h2 : (((us.zipIdx).filter fun p => decide (laterE os p.1 = pl os v)).map Prod.snd).Nodup := h1.sublist (List.Sublist.map _ List.filter_sublist)
  have e : (((us.zipIdx).filter fun p => decide (laterE os p.1 = pl os v)).map fun p => ((p.2 : Nat) : Int)) = (((us.zipIdx).filter fun p => decide (laterE os p.1 = pl os v)).map Prod.snd).map fun n : Nat => (n : Int) := by
    rw [List.map_map]
    rfl
  rw [e]
  refine List.Pairwise.map _ (fun a b h => ?_) h2
  omega
theorem pl_at {os : List Int} (hn : os.Nodup) {i : Nat} {v : Int} (h : os[i]? = some v) : pl os v = (i : Int) := by
  unfold pl
  rw [idx_at hn h]
theorem steps_at (os : List Int) (us : List (Int × Int)) (i : Nat) : (stepsOf os us)[i]? = os[i]?.map fun v => stepOf os us i v := by
  unfold stepsOf
  rw [List.getElem?_mapIdx]
theorem steps_len (os : List Int) (us : List (Int × Int)) : (stepsOf os us).length = os.length := List.length_mapIdx
theorem later_in {os : List Int} {e : Int × Int} (h1 : e.1 ∈ os) (h2 : e.2 ∈ os) : ∃ i : Nat, i < os.length ∧ laterE os e = (i : Int) := by
  unfold laterE
  rcases mx_or (pl os e.1) (pl os e.2) with h | h
  · exact ⟨os.idxOf e.1, idx_lt h1, h⟩
  · exact ⟨os.idxOf e.2, idx_lt h2, h⟩
theorem backs_perm {os : List Int} {us : List (Int × Int)} (hn : os.Nodup) (hin : ∀ e ∈ us, e.1 ∈ os ∧ e.2 ∈ os) : ((stepsOf os us).flatMap fun s => s.2.1).Perm ((List.range us.length).map fun n : Nat => (n : Int)) := by
  have e1 : ((stepsOf os us).flatMap fun s => s.2.1) = os.flatMap (backs os us) := by
    have : (stepsOf os us).map (fun s => s.2.1) = os.map (backs os us) := by
      refine List.ext_getElem? fun i => ?_
      rw [List.getElem?_map, List.getElem?_map, steps_at]
      cases os[i]? <;> rfl
    rw [List.flatMap_def, this, ← List.flatMap_def]
  rw [e1]
  refine (List.perm_ext_iff_of_nodup ?_ ?_).mpr fun k => ?_
  · refine List.pairwise_flatMap.mpr ⟨fun v _ => backs_nodup os us v, ?_⟩
    refine List.Pairwise.imp_of_mem (fun {a b} ma mb hab x hx y hy e => ?_) hn
    obtain ⟨i, f, h1, h2, h3⟩ := mem_backs.mp hx
    obtain ⟨j, g, g1, g2, g3⟩ := mem_backs.mp hy
    have hij : i = j := by omega
    subst hij
    rw [h1] at g1
    cases g1
    exact hab (by first | exact pl_inj ma mb (g3.symm.trans h3) | exact (pl_inj ma mb (g3.symm.trans h3)).symm)
  · refine List.Pairwise.map _ (fun a b h => ?_) List.nodup_range
    omega
  · rw [List.mem_flatMap, List.mem_map]
    constructor
    · rintro ⟨v, mv, hk⟩
      obtain ⟨i, e, h1, h2, h3⟩ := mem_backs.mp hk
      exact ⟨i, List.mem_range.mpr (List.getElem?_eq_some_iff.mp h1).1, h2.symm⟩
    · rintro ⟨i, mi, rfl⟩
      have hi := List.mem_range.mp mi
      have he := List.getElem?_eq_getElem hi
      obtain ⟨h1, h2⟩ := hin _ (List.getElem_mem hi)
      obtain ⟨j, hj, e⟩ := later_in h1 h2
      exact ⟨os[j], List.getElem_mem hj, mem_backs.mpr ⟨i, _, he, rfl, by rw [e, pl_at hn (List.getElem?_eq_getElem hj)]⟩⟩
/-! ### the order's steps -/
def othE (e : Eg) (v : Int) : Int := if e.2.1 = v then e.1 else e.2.1
def FvO (os : List Int) (us : List (Int × Int)) (i : Nat) : List Int := (os.take i).filter fun w => decide ((i : Int) ≤ lvF os us w)
def eAt (es : List Eg) (k : Nat) : Eg := es.getD k (0, 0, 0)
def lnkO (os : List Int) (es : List Eg) (i : Nat) (v : Int) : List (Nat × Int) := (backs os (prsOf es) v).map fun k => ((FvO os (prsOf es) i).idxOf (othE (eAt es k.toNat) v), (eAt es k.toNat).2.2)
def stayO (os : List Int) (us : List (Int × Int)) (i : Nat) (v : Int) : List Nat := (List.range (i + 1)).filter fun p => decide (p < (FvO os us i ++ [v]).length ∧ lvF os us ((FvO os us i ++ [v]).getD p 0) ≠ (i : Int))
def lkSum (ls : List (Nat × Int)) (k : List Int) (s : Int) : Int := (ls.map fun l => if k.getD l.1 0 ≠ s then l.2 else 0).sum
def fstO (fs : List Int) (os : List Int) (es : List Eg) (i : Nat) (v : Int) : FSt := ⟨fun k s => s * fs.getD v.toNat 0 + lkSum (lnkO os es i v) k s, stayO os (prsOf es) i v⟩
def fstsO (fs : List Int) (os : List Int) (es : List Eg) : List FSt := os.mapIdx fun i v => fstO fs os es i v
def FrO (os : List Int) (us : List (Int × Int)) (i : Nat) : List Nat := (FvO os us i).map fun w => os.idxOf w
def POr (fs : List Int) (os : List Int) (es : List Eg) (i : Nat) (h : List Int) (s : Int) : Int := s * fs.getD (os.getD i 0).toNat 0 + ((backs os (prsOf es) (os.getD i 0)).map fun k => if h.getD (os.idxOf (othE (eAt es k.toNat) (os.getD i 0))) 0 ≠ s then (eAt es k.toNat).2.2 else 0).sum
theorem fv_zero (os : List Int) (us : List (Int × Int)) : FvO os us 0 = [] := rfl
theorem pl_le_lv (os : List Int) (us : List (Int × Int)) (w : Int) : pl os w ≤ lvF os us w := ((lvF_le us).mp (Int.le_refl _)).1
theorem lv_later {os : List Int} {us : List (Int × Int)} {e : Int × Int} {w : Int} (m : e ∈ us) (h : e.1 = w ∨ e.2 = w) : laterE os e ≤ lvF os us w := ((lvF_le us).mp (Int.le_refl _)).2 e m h
theorem fv_len (os : List Int) (us : List (Int × Int)) (i : Nat) : (FvO os us i).length ≤ i := by
  refine Nat.le_trans (List.length_filter_le _ _) ?_
  rw [List.length_take]
  omega
theorem fv_succ {os : List Int} (hn : os.Nodup) (us : List (Int × Int)) {i : Nat} {v : Int} (hv : os[i]? = some v) : FvO os us (i + 1) = (FvO os us i ++ [v]).filter fun w => decide (lvF os us w ≠ (i : Int)) := by
  unfold FvO
  rw [take_snoc hv, List.filter_append, List.filter_append, List.filter_filter]
  congr 1
  · refine List.filter_congr fun w mw => ?_
    rw [← Bool.decide_and]
    exact decide_eq_decide.mpr ⟨fun h => by omega, fun h => by omega⟩
  · have h1 := pl_le_lv os us v
    rw [pl_at hn hv] at h1
    by_cases h : lvF os us v ≠ (i : Int)
    · rw [List.filter_cons_of_pos (by exact decide_eq_true (show ((i + 1 : Nat) : Int) ≤ lvF os us v by omega)), List.filter_cons_of_pos (by exact decide_eq_true h)]
      rfl
    · rw [List.filter_cons_of_neg (by rw [decide_eq_false (show ¬ ((i + 1 : Nat) : Int) ≤ lvF os us v by omega)]; decide), List.filter_cons_of_neg (by rw [decide_eq_false h]; decide)]
      rfl
theorem getD_idx {l : List Int} {w : Int} (h : w ∈ l) : l.getD (l.idxOf w) 0 = w := by
  rw [List.getD_eq_getElem?_getD, at_idx h]
  rfl
theorem map_getD_idx {β : Type} {l : List Int} {w : Int} (f : Int → β) (d : β) (h : w ∈ l) : (l.map f).getD (l.idxOf w) d = f w := by
  rw [List.getD_eq_getElem?_getD, List.getElem?_map, at_idx h]
  rfl
theorem stay_map {β : Type} (g : Int → β) (d : β) (Q : Int → Prop) [DecidablePred Q] {l : List Int} {N : Nat} (hN : l.length ≤ N) : ((List.range N).filter fun p => decide (p < l.length ∧ Q (l.getD p 0))).map (fun p => (l.map g).getD p d) = (l.filter fun w => decide (Q w)).map g := by
  have key : ∀ k ≤ l.length, ((List.range k).filter fun p => decide (p < l.length ∧ Q (l.getD p 0))).map (fun p => (l.map g).getD p d) = ((l.take k).filter fun w => decide (Q w)).map g := fun k => by
    induction k with
    | zero => exact fun _ => rfl
    | succ k ih =>
      intro hk
      have hk' : k < l.length := by omega
      have e := List.getElem?_eq_getElem hk'
      have gd : l.getD k 0 = l[k] := by rw [List.getD_eq_getElem?_getD, e]; rfl
      rw [List.range_succ, List.filter_append, List.map_append, ih (by omega), take_snoc e, List.filter_append, List.map_append]
      congr 1
      by_cases h : Q l[k]
      · rw [List.filter_cons_of_pos (by exact decide_eq_true (by rw [gd]; exact ⟨hk', h⟩)), List.filter_cons_of_pos (by exact decide_eq_true h)]
        show [(l.map g).getD k d] = [g l[k]]
        rw [List.getD_eq_getElem?_getD, List.getElem?_map, e]
        rfl
      · rw [List.filter_cons_of_neg (by rw [decide_eq_false (fun z => h (by rw [← gd]; exact z.2))]; decide), List.filter_cons_of_neg (by rw [decide_eq_false h]; decide)]
        rfl
  have e : N = l.length + (N - l.length) := by omega
  have h0 := key l.length (Nat.le_refl _)
  rw [List.take_length] at h0
  rw [← h0, e, List.range_add, List.filter_append]
  have : (((List.range (N - l.length)).map fun x => l.length + x).filter fun p => decide (p < l.length ∧ Q (l.getD p 0))) = [] := by
    refine List.filter_eq_nil_iff.mpr fun p mp z => ?_
    obtain ⟨x, _, rfl⟩ := List.mem_map.mp mp
    have := (of_decide_eq_true z).1
    omega
  rw [this, List.append_nil]
theorem prs_at {es : List Eg} {i : Nat} {e : Int × Int} (h : (prsOf es)[i]? = some e) : eAt es i ∈ es ∧ es[i]? = some (eAt es i) ∧ e = ((eAt es i).1, (eAt es i).2.1) := by
  unfold prsOf at h
  rw [List.getElem?_map] at h
  obtain ⟨x, hx, rfl⟩ := Option.map_eq_some_iff.mp h
  have e : eAt es i = x := by
    unfold eAt
    rw [List.getD_eq_getElem?_getD, hx]
    rfl
  rw [e]
  exact ⟨List.mem_of_getElem? hx, hx, rfl⟩
section
variable {n : Nat} {fs : List Int} {os : List Int} {es : List Eg}
/-- the other end of an edge to a vertex before -/
theorem back_ends (hn : os.Nodup) (hin : inR n (prsOf es)) (hoe : ∀ e ∈ prsOf es, e.1 ∈ os ∧ e.2 ∈ os) {i : Nat} {v : Int} (hv : os[i]? = some v) {k : Int} (hk : k ∈ backs os (prsOf es) v) : othE (eAt es k.toNat) v ∈ FvO os (prsOf es) i ∧ os.idxOf (othE (eAt es k.toNat) v) < i ∧ (((eAt es k.toNat).1 = v ∧ (eAt es k.toNat).2.1 ≠ v ∧ othE (eAt es k.toNat) v = (eAt es k.toNat).2.1) ∨ ((eAt es k.toNat).2.1 = v ∧ othE (eAt es k.toNat) v = (eAt es k.toNat).1)) := by
  obtain ⟨j, e, h1, rfl, h3⟩ := mem_backs.mp hk
  rw [Int.toNat_natCast]
  obtain ⟨g1, g2, rfl⟩ := prs_at h1
  obtain ⟨m1, m2⟩ := hoe _ (List.mem_of_getElem? h1)
  obtain ⟨_, _, _, _, hne⟩ := hin _ (List.mem_of_getElem? h1)
  rw [pl_at hn hv] at h3
  generalize eAt es j = e at *
  have m1 : e.1 ∈ os := m1
  have m2 : e.2.1 ∈ os := m2
  have hne : e.1 ≠ e.2.1 := hne
  have p1 : pl os e.1 ≤ (i : Int) := by
    have := (mx_le (i := pl os e.1) (j := pl os e.2.1) (k := laterE os (e.1, e.2.1))).mp (Int.le_refl _)
    omega
  have p2 : pl os e.2.1 ≤ (i : Int) := by
    have := (mx_le (i := pl os e.1) (j := pl os e.2.1) (k := laterE os (e.1, e.2.1))).mp (Int.le_refl _)
    omega
  have hvi := pl_at hn hv
  have hvm : v ∈ os := List.mem_of_getElem? hv
  have inF : ∀ w, w ∈ os → w ≠ v → pl os w ≤ (i : Int) → (e.1 = w ∨ e.2.1 = w) → w ∈ FvO os (prsOf es) i ∧ os.idxOf w < i := fun w mw hw hp he => by
    have hlt : pl os w ≠ (i : Int) := fun z => hw (pl_inj mw hvm (hvi.trans z.symm))
    have hid : os.idxOf w < i := by
      have : pl os w = (os.idxOf w : Int) := rfl
      omega
    refine ⟨List.mem_filter.mpr ⟨?_, decide_eq_true ?_⟩, hid⟩
    · exact List.mem_iff_getElem?.mpr ⟨os.idxOf w, by rw [List.getElem?_take, if_pos hid, at_idx mw]⟩
    · have := lv_later (os := os) (us := prsOf es) (w := w) (List.mem_of_getElem? h1) he
      omega
  rcases mx_or (pl os e.1) (pl os e.2.1) with h | h
  · have e1 : pl os e.1 = (i : Int) := h.symm.trans h3
    have hv1 : e.1 = v := pl_inj m1 hvm (hvi.trans e1.symm)
    have h2 : e.2.1 ≠ v := fun z => hne (hv1.trans z.symm)
    have eo : othE e v = e.2.1 := if_neg h2
    rw [eo]
    obtain ⟨a, b⟩ := inF e.2.1 m2 h2 p2 (.inr rfl)
    exact ⟨a, b, .inl ⟨hv1, h2, rfl⟩⟩
  · have e1 : pl os e.2.1 = (i : Int) := h.symm.trans h3
    have hv1 : e.2.1 = v := pl_inj m2 hvm (hvi.trans e1.symm)
    have h2 : e.1 ≠ v := fun z => hne (z.trans hv1.symm)
    have eo : othE e v = e.1 := if_pos hv1
    rw [eo]
    obtain ⟨a, b⟩ := inF e.1 m1 h2 p1 (.inl rfl)
    exact ⟨a, b, .inr ⟨hv1, rfl⟩⟩
theorem fsts_at (i : Nat) : (fstsO fs os es)[i]? = os[i]?.map fun v => fstO fs os es i v := by
  unfold fstsO
  rw [List.getElem?_mapIdx]
theorem hist_ok (hn : os.Nodup) (hin : inR n (prsOf es)) (hoe : ∀ e ∈ prsOf es, e.1 ∈ os ∧ e.2 ∈ os) : Hist (POr fs os es) (fstsO fs os es) (FrO os (prsOf es)) := by
  refine ⟨rfl, fun i st h s hst hl => ?_, fun i st h s hst hl => ?_⟩
  · rw [fsts_at] at hst
    obtain ⟨v, hv, rfl⟩ := Option.map_eq_some_iff.mp hst
    have ev : os.getD i 0 = v := by rw [List.getD_eq_getElem?_getD, hv]; rfl
    unfold POr
    rw [ev]
    show s * fs.getD v.toNat 0 + lkSum (lnkO os es i v) _ s = _
    congr 1
    unfold lkSum lnkO
    rw [List.map_map]
    congr 1
    refine List.map_congr_left fun k mk => ?_
    obtain ⟨b1, _, _⟩ := back_ends hn hin hoe hv mk
    show (if ((FrO os (prsOf es) i).map fun p => h.getD p 0).getD ((FvO os (prsOf es) i).idxOf (othE (eAt es k.toNat) v)) 0 ≠ s then _ else _) = _
    unfold FrO
    rw [List.map_map, map_getD_idx _ _ b1]
    rfl
  · rw [fsts_at] at hst
    obtain ⟨v, hv, rfl⟩ := Option.map_eq_some_iff.mp hst
    unfold tgtF
    have ek : ((FrO os (prsOf es) i).map fun p => h.getD p 0) ++ [s] = (FvO os (prsOf es) i ++ [v]).map fun w => (h ++ [s]).getD (os.idxOf w) 0 := by
      rw [List.map_append]
      congr 1
      · unfold FrO
        rw [List.map_map]
        refine List.map_congr_left fun w mw => ?_
        have hw := (List.mem_filter.mp mw).1
        obtain ⟨j, hj⟩ := List.mem_iff_getElem?.mp hw
        rw [List.getElem?_take] at hj
        split at hj
        · rename_i hji
          show h.getD (os.idxOf w) 0 = _
          rw [idx_at hn hj, List.getD_eq_getElem?_getD, List.getD_eq_getElem?_getD, List.getElem?_append_left (by omega)]
        · cases hj
      · rw [List.map_singleton, idx_at hn hv, List.getD_eq_getElem?_getD, ← hl, List.getElem?_concat_length]
        rfl
    rw [ek]
    have hs := stay_map (fun w => (h ++ [s]).getD (os.idxOf w) 0) 0 (fun w => lvF os (prsOf es) w ≠ (i : Int)) (l := FvO os (prsOf es) i ++ [v]) (N := i + 1) (by rw [List.length_append, List.length_singleton]; have := fv_len os (prsOf es) i; omega)
    refine hs.trans ?_
    unfold FrO
    rw [fv_succ hn _ hv, List.map_map]
    rfl
theorem stay_last (hn : os.Nodup) (hoe : ∀ e ∈ prsOf es, e.1 ∈ os ∧ e.2 ∈ os) {i : Nat} {v : Int} (hv : os[i]? = some v) (hi : i + 1 = os.length) : stayO os (prsOf es) i v = [] := by
  refine List.filter_eq_nil_iff.mpr fun p _ z => ?_
  obtain ⟨h1, h2⟩ := of_decide_eq_true z
  generalize hw : (FvO os (prsOf es) i ++ [v]).getD p 0 = w at *
  have mw : w ∈ FvO os (prsOf es) i ++ [v] := by
    rw [← hw, List.getD_eq_getElem?_getD, List.getElem?_eq_getElem h1]
    exact List.getElem_mem h1
  have key : lvF os (prsOf es) w ≤ (i : Int) := by
    refine (lvF_le _).mpr ⟨?_, fun e me _ => ?_⟩
    · have : w ∈ os := by
        rcases List.mem_append.mp mw with m | m
        · exact List.mem_of_mem_take (List.mem_filter.mp m).1
        · rw [List.mem_singleton.mp m]
          exact List.mem_of_getElem? hv
      have := idx_lt this
      show (os.idxOf w : Int) ≤ i
      omega
    · obtain ⟨a, b⟩ := hoe e me
      obtain ⟨j, hj, ej⟩ := later_in a b
      omega
  have hge : (i : Int) ≤ lvF os (prsOf es) w := by
    rcases List.mem_append.mp mw with m | m
    · exact of_decide_eq_true (List.mem_filter.mp m).2
    · rw [List.mem_singleton.mp m]
      have := pl_le_lv os (prsOf es) v
      rw [pl_at hn hv] at this
      exact this
  exact h2 (by omega)
end
/-! ### what the histories pay -/
theorem PTF_sum (P : Nat → List Int → Int → Int) : ∀ (t h : List Int), PTF P h t = ((List.range t.length).map fun i => P (h.length + i) (h ++ t.take i) (t.getD i 0)).sum
  | [], _ => rfl
  | s :: t, h => by
    rw [PTF, PTF_sum P t (h ++ [s]), List.length_cons, List.range_succ_eq_map, List.map_cons, List.sum_cons, List.map_map]
    congr 1
    · rw [Nat.add_zero, List.take_zero, List.append_nil]
      rfl
    · congr 1
      refine List.map_congr_left fun i _ => ?_
      show P ((h ++ [s]).length + i) ((h ++ [s]) ++ t.take i) (t.getD i 0) = P (h.length + (i + 1)) (h ++ (s :: t).take (i + 1)) ((s :: t).getD (i + 1) 0)
      rw [List.length_append, List.length_singleton, List.take_succ_cons, List.append_assoc, Nat.add_assoc, Nat.add_comm 1 i]
      rfl
theorem sum_add2 {β : Type} (f g : β → Int) : ∀ l : List β, (l.map fun x => f x + g x).sum = (l.map f).sum + (l.map g).sum
  | [] => rfl
  | x :: l => by
    rw [List.map_cons, List.sum_cons, sum_add2 f g l, List.map_cons, List.sum_cons, List.map_cons, List.sum_cons]
    omega
theorem perm_sumI {a b : List Int} (h : a.Perm b) : a.sum = b.sum := by
  induction h with
  | nil => rfl
  | cons x _ ih => rw [List.sum_cons, List.sum_cons, ih]
  | swap x y l =>
    rw [List.sum_cons, List.sum_cons, List.sum_cons, List.sum_cons]
    omega
  | trans _ _ h1 h2 => exact h1.trans h2
theorem sum_flat {β γ : Type} (f : β → List γ) (g : γ → Int) : ∀ l : List β, ((l.flatMap f).map g).sum = (l.map fun v => ((f v).map g).sum).sum
  | [] => rfl
  | x :: l => by rw [List.flatMap_cons, List.map_append, List.sum_append, sum_flat f g l, List.map_cons, List.sum_cons]
theorem range_map {β : Type} (os : List Int) (F : Int → β) : (List.range os.length).map (fun i => F (os.getD i 0)) = os.map F := by
  refine List.ext_getElem? fun i => ?_
  rw [List.getElem?_map, List.getElem?_map]
  by_cases hi : i < os.length
  · rw [List.getElem?_range hi, List.getElem?_eq_getElem hi]
    show some (F (os.getD i 0)) = some (F os[i])
    rw [List.getD_eq_getElem?_getD, List.getElem?_eq_getElem hi]
    rfl
  · rw [List.getElem?_eq_none (by rw [List.length_range]; omega), List.getElem?_eq_none (by omega)]
    rfl
theorem dot_range : ∀ (fs st : List Int), fs.length = st.length → dotC fs st = ((List.range fs.length).map fun k => fs.getD k 0 * st.getD k 0).sum
  | [], [], _ => rfl
  | f :: fs, s :: st, h => by
    rw [dotC, dot_range fs st (Nat.succ.inj h), List.length_cons, List.range_succ_eq_map, List.map_cons, List.sum_cons, List.map_map]
    rfl
theorem edge_sum (st : List Int) : ∀ es : List Eg, edgeC es st = (es.map fun e => if atS st e.1 ≠ atS st e.2.1 then e.2.2 else 0).sum
  | [] => rfl
  | e :: es => by
    have ih := edge_sum st es
    unfold edgeC at ih ⊢
    rw [List.map_cons, List.sum_cons, ← ih]
    by_cases h : atS st e.1 ≠ atS st e.2.1
    · rw [List.filter_cons_of_pos (by exact decide_eq_true h), if_pos h, List.map_cons, List.sum_cons]
    · rw [List.filter_cons_of_neg (by rw [decide_eq_false h]; decide), if_neg h]
      omega
def stP (os : List Int) (h : List Int) : List Int := (List.range os.length).map fun v => h.getD (os.idxOf ((v : Nat) : Int)) 0
theorem stP_at {os h : List Int} {w : Int} (h0 : 0 ≤ w) (h1 : w < os.length) : atS (stP os h) w = h.getD (os.idxOf w) 0 := by
  unfold atS stP
  rw [List.getD_eq_getElem?_getD, List.getElem?_map, List.getElem?_range (by omega)]
  show h.getD (os.idxOf ((w.toNat : Nat) : Int)) 0 = _
  rw [Int.toNat_of_nonneg h0]
section
variable {n : Nat} {fs : List Int} {os : List Int} {es : List Eg}
theorem cost_PT (ho : isOrd n os) (hf : fs.length = n) (hin : inR n (prsOf es)) {h : List Int} (hl : h.length = n) (hb : bits (stP os h)) : PTF (POr fs os es) [] h = costZ fs es (stP os h) := by
  have hn : os.Nodup := (List.Perm.nodup_iff ho).mpr (rng_nodup n)
  have hom : ∀ v, v ∈ os ↔ 0 ≤ v ∧ v < n := fun v => (List.Perm.mem_iff ho).trans mem_rng
  have hol : os.length = n := (List.Perm.length_eq ho).trans (rng_len n)
  have hoe : ∀ e ∈ prsOf es, e.1 ∈ os ∧ e.2 ∈ os := fun e m => by
    obtain ⟨a1, a2, a3, a4, _⟩ := hin e m
    exact ⟨(hom _).mpr ⟨a1, a2⟩, (hom _).mpr ⟨a3, a4⟩⟩
  rw [PTF_sum]
  have e1 : ((List.range h.length).map fun i => POr fs os es (([] : List Int).length + i) ([] ++ h.take i) (h.getD i 0)) = (List.range os.length).map fun i => (fun v => h.getD (os.idxOf v) 0 * fs.getD v.toNat 0) (os.getD i 0) + (fun v => ((backs os (prsOf es) v).map fun k => if atS (stP os h) (eAt es k.toNat).1 ≠ atS (stP os h) (eAt es k.toNat).2.1 then (eAt es k.toNat).2.2 else 0).sum) (os.getD i 0) := by
    rw [hl, hol]
    refine List.map_congr_left fun i mi => ?_
    have hi : i < os.length := by have := List.mem_range.mp mi; omega
    have hv := List.getElem?_eq_getElem hi
    have ev : os.getD i 0 = os[i] := by rw [List.getD_eq_getElem?_getD, hv]; rfl
    have hidx := idx_at hn hv
    rw [List.length_nil, Nat.zero_add, List.nil_append]
    unfold POr
    rw [ev]
    show _ = h.getD (os.idxOf os[i]) 0 * fs.getD os[i].toNat 0 + _
    rw [hidx]
    congr 2
    refine List.map_congr_left fun k mk => ?_
    obtain ⟨b1, b2, b3⟩ := back_ends hn hin hoe hv mk
    have et : (h.take i).getD (os.idxOf (othE (eAt es k.toNat) os[i])) 0 = h.getD (os.idxOf (othE (eAt es k.toNat) os[i])) 0 := by
      rw [List.getD_eq_getElem?_getD, List.getD_eq_getElem?_getD, List.getElem?_take, if_pos b2]
    rw [et]
    obtain ⟨j, e', h1, rfl, _⟩ := mem_backs.mp mk
    rw [Int.toNat_natCast] at b3 ⊢
    obtain ⟨g1, g2, rfl⟩ := prs_at h1
    obtain ⟨c1, c2, c3, c4, _⟩ := hin _ (List.mem_of_getElem? h1)
    generalize eAt es j = e at *
    have c1 : 0 ≤ e.1 := c1
    have c2 : e.1 < n := c2
    have c3 : 0 ≤ e.2.1 := c3
    have c4 : e.2.1 < n := c4
    rw [stP_at c1 (by omega), stP_at c3 (by omega)]
    have hi0 : h.getD i 0 = h.getD (os.idxOf os[i]) 0 := by rw [hidx]
    rw [hi0]
    rcases b3 with ⟨a1, _, a3⟩ | ⟨a1, a3⟩
    · rw [a3, a1]
      by_cases q : h.getD (os.idxOf e.2.1) 0 = h.getD (os.idxOf os[i]) 0
      · rw [if_neg (fun z => z q), if_neg (fun z => z q.symm)]
      · rw [if_pos q, if_pos (fun z => q z.symm)]
    · rw [a3, a1]
  rw [e1, sum_add2, range_map os (fun v => h.getD (os.idxOf v) 0 * fs.getD v.toNat 0), range_map os (fun v => ((backs os (prsOf es) v).map fun k => if atS (stP os h) (eAt es k.toNat).1 ≠ atS (stP os h) (eAt es k.toNat).2.1 then (eAt es k.toNat).2.2 else 0).sum), ← sum_flat]
  unfold costZ
  rw [Int.add_comm]
  congr 1
  · have hp : (os.flatMap (backs os (prsOf es))).Perm ((List.range (prsOf es).length).map fun n : Nat => (n : Int)) := by
      have := backs_perm hn hoe
      have e2 : ((stepsOf os (prsOf es)).flatMap fun s => s.2.1) = os.flatMap (backs os (prsOf es)) := by
        have : (stepsOf os (prsOf es)).map (fun s => s.2.1) = os.map (backs os (prsOf es)) := by
          refine List.ext_getElem? fun i => ?_
          rw [List.getElem?_map, List.getElem?_map, steps_at]
          cases os[i]? <;> rfl
        rw [List.flatMap_def, this, ← List.flatMap_def]
      rw [e2] at this
      exact this
    rw [perm_sumI (hp.map _), List.map_map, edge_sum]
    have lz : (prsOf es).length = es.length := List.length_map _
    congr 1
    refine List.ext_getElem? fun i => ?_
    rw [List.getElem?_map, List.getElem?_map, lz]
    by_cases hi : i < es.length
    · rw [List.getElem?_range hi, List.getElem?_eq_getElem hi]
      have e3 : eAt es ((i : Nat) : Int).toNat = es[i] := by
        unfold eAt
        rw [Int.toNat_natCast, List.getD_eq_getElem?_getD, List.getElem?_eq_getElem hi]
        rfl
      show some (if atS (stP os h) (eAt es ((i : Nat) : Int).toNat).1 ≠ _ then _ else _) = _
      rw [e3]
      rfl
    · rw [List.getElem?_eq_none (by rw [List.length_range]; omega), List.getElem?_eq_none (by omega)]
      rfl
  · rw [← dot_field hb, dot_range _ _ (by unfold stP; rw [List.length_map, List.length_range, hol, hf])]
    rw [perm_sumI (ho.map _), hf]
    unfold rng
    rw [List.map_map]
    congr 1
    refine List.map_congr_left fun k mk => ?_
    have hk := List.mem_range.mp mk
    show h.getD (os.idxOf ((k : Nat) : Int)) 0 * fs.getD ((k : Nat) : Int).toNat 0 = fs.getD k 0 * (stP os h).getD k 0
    have : (stP os h).getD k 0 = h.getD (os.idxOf ((k : Nat) : Int)) 0 := by
      unfold stP
      rw [List.getD_eq_getElem?_getD, List.getElem?_map, List.getElem?_range (by omega)]
      rfl
    rw [this, Int.toNat_natCast, Int.mul_comm]
theorem sum_stP (ho : isOrd n os) {h : List Int} (hl : h.length = n) : (stP os h).sum = h.sum := by
  have hn : os.Nodup := (List.Perm.nodup_iff ho).mpr (rng_nodup n)
  have hol : os.length = n := (List.Perm.length_eq ho).trans (rng_len n)
  have e1 : stP os h = (rng n).map fun v => h.getD (os.idxOf v) 0 := by
    unfold stP rng
    rw [List.map_map, hol]
    rfl
  have e2 : h = os.map fun v => h.getD (os.idxOf v) 0 := by
    refine List.ext_getElem? fun i => ?_
    rw [List.getElem?_map]
    by_cases hi : i < os.length
    · rw [List.getElem?_eq_getElem hi, List.getElem?_eq_getElem (show i < h.length by omega)]
      show _ = some (h.getD (os.idxOf os[i]) 0)
      rw [idx_at hn (List.getElem?_eq_getElem hi), List.getD_eq_getElem?_getD, List.getElem?_eq_getElem (show i < h.length by omega)]
      rfl
    · rw [List.getElem?_eq_none (by omega), List.getElem?_eq_none (by omega)]
      rfl
  rw [e1, perm_sumI ((List.Perm.symm ho).map _), ← e2]
theorem mem_states : ∀ {n : Nat} {st : List Int}, st.length = n → bits st → st ∈ states n
  | 0, [], _, _ => List.mem_singleton.mpr rfl
  | n + 1, st, hl, hb => by
    have hn : n < st.length := by omega
    have e : st = st.take n ++ [st[n]] := by
      have := take_snoc (List.getElem?_eq_getElem hn)
      rw [← this, List.take_of_length_le (by omega)]
    have h1 : st.take n ∈ states n := mem_states (by rw [List.length_take]; omega) fun b m => hb b (List.mem_of_mem_take m)
    rw [states]
    refine List.mem_flatMap.mpr ⟨st.take n, h1, ?_⟩
    rcases hb st[n] (List.getElem_mem hn) with z | z
    · rw [z] at e
      exact List.mem_cons.mpr (.inl e)
    · rw [z] at e
      exact List.mem_cons.mpr (.inr (List.mem_singleton.mpr e))
theorem states_nodup : ∀ n, (states n).Nodup
  | 0 => by simp [states]
  | n + 1 => by
    rw [states]
    refine List.pairwise_flatMap.mpr ⟨fun s _ => ?_, ?_⟩
    · refine List.pairwise_cons.mpr ⟨fun b mb e => ?_, by simp⟩
      rw [List.mem_singleton.mp mb] at e
      have := List.append_cancel_left e
      cases this
    · refine (states_nodup n).imp fun {a b} hab x hx y hy e => hab ?_
      simp only [List.mem_cons, List.not_mem_nil, or_false] at hx hy
      have : ∀ p q : Int, a ++ [p] = b ++ [q] → a = b := fun p q h => (List.append_inj' h rfl).1
      rcases hx with rfl | rfl <;> rcases hy with rfl | rfl <;> exact this _ _ e
theorem stP_ok (ho : isOrd n os) {h : List Int} (hm : h ∈ states n) : (stP os h).length = n ∧ bits (stP os h) := by
  have hol : os.length = n := (List.Perm.length_eq ho).trans (rng_len n)
  obtain ⟨hl, hb⟩ := states_ok n h hm
  refine ⟨by unfold stP; rw [List.length_map, List.length_range, hol], fun b mb => ?_⟩
  obtain ⟨v, mv, rfl⟩ := List.mem_map.mp mb
  have hv := List.mem_range.mp mv
  have hin : ((v : Nat) : Int) ∈ os := (List.Perm.mem_iff ho).mpr (mem_rng.mpr ⟨by omega, by omega⟩)
  have hi := idx_lt hin
  rw [List.getD_eq_getElem?_getD, List.getElem?_eq_getElem (show os.idxOf ((v : Nat) : Int) < h.length by omega)]
  exact hb _ (List.getElem_mem _)
theorem stP_inv (ho : isOrd n os) {st : List Int} (hl : st.length = n) : stP os (os.map fun v => st.getD v.toNat 0) = st := by
  have hol : os.length = n := (List.Perm.length_eq ho).trans (rng_len n)
  refine List.ext_getElem? fun i => ?_
  unfold stP
  rw [List.getElem?_map, hol]
  by_cases hi : i < n
  · rw [List.getElem?_range hi, List.getElem?_eq_getElem (show i < st.length by omega)]
    have hin : ((i : Nat) : Int) ∈ os := (List.Perm.mem_iff ho).mpr (mem_rng.mpr ⟨by omega, by omega⟩)
    show some ((os.map fun v => st.getD v.toNat 0).getD (os.idxOf ((i : Nat) : Int)) 0) = _
    rw [map_getD_idx _ _ hin, Int.toNat_natCast, List.getD_eq_getElem?_getD, List.getElem?_eq_getElem (show i < st.length by omega)]
    rfl
  · rw [List.getElem?_eq_none (by rw [List.length_range]; omega), List.getElem?_eq_none (by omega)]
    rfl
theorem perm_stP (ho : isOrd n os) : ((states n).map (stP os)).Perm (states n) := by
  have hn : os.Nodup := (List.Perm.nodup_iff ho).mpr (rng_nodup n)
  have hol : os.length = n := (List.Perm.length_eq ho).trans (rng_len n)
  refine (List.perm_ext_iff_of_nodup ?_ (states_nodup n)).mpr fun st => ?_
  · rw [List.Nodup, List.pairwise_map]
    refine List.Pairwise.imp_of_mem (fun {a b} ma mb hab e => hab ?_) (states_nodup n)
    obtain ⟨la, _⟩ := states_ok n a ma
    obtain ⟨lb, _⟩ := states_ok n b mb
    refine List.ext_getElem? fun i => ?_
    by_cases hi : i < os.length
    · have hv := List.getElem?_eq_getElem hi
      have hm : os[i] ∈ os := List.getElem_mem hi
      obtain ⟨v0, v1⟩ := mem_rng.mp ((List.Perm.mem_iff ho).mp hm)
      have h1 := stP_at (h := a) v0 (show os[i] < os.length by omega)
      have h2 := stP_at (h := b) v0 (show os[i] < os.length by omega)
      rw [e, h2, idx_at hn hv] at h1
      rw [List.getD_eq_getElem?_getD, List.getD_eq_getElem?_getD, List.getElem?_eq_getElem (show i < a.length by omega), List.getElem?_eq_getElem (show i < b.length by omega)] at h1
      rw [List.getElem?_eq_getElem (show i < a.length by omega), List.getElem?_eq_getElem (show i < b.length by omega)]
      exact congrArg some h1.symm
    · rw [List.getElem?_eq_none (by omega), List.getElem?_eq_none (by omega)]
  · rw [List.mem_map]
    constructor
    · rintro ⟨h, mh, rfl⟩
      obtain ⟨a, b⟩ := stP_ok ho mh
      exact mem_states a b
    · intro ms
      obtain ⟨hl, hb⟩ := states_ok n st ms
      refine ⟨os.map fun v => st.getD v.toNat 0, mem_states (by rw [List.length_map, hol]) fun b mb => ?_, stP_inv ho hl⟩
      obtain ⟨v, mv, rfl⟩ := List.mem_map.mp mb
      obtain ⟨v0, v1⟩ := mem_rng.mp ((List.Perm.mem_iff ho).mp mv)
      rw [List.getD_eq_getElem?_getD, List.getElem?_eq_getElem (show v.toNat < st.length by omega)]
      exact hb _ (List.getElem_mem _)
/-- what is carried to the end is the sum over all states -/
theorem carried_sum {α : Type} (S : MT.Sr α) (mon : Int → Int → α) (h0 : mon 0 0 = S.one) (hm : ∀ a b c d, S.mul (mon a b) (mon c d) = mon (a + c) (b + d)) (ho : isOrd n os) (hf : fs.length = n) (hin : inR n (prsOf es)) : WF S mon (fstsO fs os es) [] = sumLs S (fun st => mon (costZ fs es st) st.sum) (states n) := by
  have hn : os.Nodup := (List.Perm.nodup_iff ho).mpr (rng_nodup n)
  have hom : ∀ v, v ∈ os ↔ 0 ≤ v ∧ v < n := fun v => (List.Perm.mem_iff ho).trans mem_rng
  have hol : os.length = n := (List.Perm.length_eq ho).trans (rng_len n)
  have hoe : ∀ e ∈ prsOf es, e.1 ∈ os ∧ e.2 ∈ os := fun e m => by
    obtain ⟨a1, a2, a3, a4, _⟩ := hin e m
    exact ⟨(hom _).mpr ⟨a1, a2⟩, (hom _).mpr ⟨a3, a4⟩⟩
  have lst : (fstsO fs os es).length = n := by
    unfold fstsO
    rw [List.length_mapIdx, hol]
  have h := WF_hist S mon (POr fs os es) (hist_ok (fs := fs) hn hin hoe) n 0 (by omega) [] rfl
  rw [List.drop_zero] at h
  have e0 : (FrO os (prsOf es) 0).map (fun p => ([] : List Int).getD p 0) = [] := rfl
  rw [e0] at h
  rw [h, ← sumLs_perm S (fun st => mon (costZ fs es st) st.sum) (perm_stP ho), sumLs_map]
  refine sumLs_congr S fun x mx => ?_
  obtain ⟨hl, _⟩ := states_ok n x mx
  rw [HP_mon S mon _ h0 hm, cost_PT ho hf hin hl (stP_ok ho mx).2, sum_stP ho hl]
end
/-! ### the least of whole numbers, as a semiring -/
def minO : Option Int → Option Int → Option Int
  | none, y => y
  | some a, none => some a
  | some a, some b => some (if b < a then b else a)
def addO : Option Int → Option Int → Option Int
  | some a, some b => some (a + b)
  | none, _ => none
  | some _, none => none
theorem minO_none (x : Option Int) : minO x none = x := by cases x <;> rfl
theorem addO_none (x : Option Int) : addO x none = none := by cases x <;> rfl
theorem minO_ss (a b : Int) : minO (some a) (some b) = some (if b < a then b else a) := rfl
theorem addO_ss (a b : Int) : addO (some a) (some b) = some (a + b) := rfl
def trS : MT.Sr (Option Int) where
  add := minO
  mul := addO
  zero := none
  one := some 0
  add_comm := fun a b => by
    cases a with
    | none => exact (minO_none b).symm
    | some a => cases b with
      | none => rfl
      | some b =>
        rw [minO_ss, minO_ss]
        congr 1
        split <;> split <;> omega
  add_assoc := fun a b c => by
    cases a with
    | none => rfl
    | some a => cases b with
      | none => rfl
      | some b => cases c with
        | none => rw [minO_none, minO_none]
        | some c =>
          rw [minO_ss, minO_ss, minO_ss, minO_ss]
          congr 1
          repeat' split
          all_goals omega
  add_zero := minO_none
  mul_assoc := fun a b c => by
    cases a with
    | none => rfl
    | some a => cases b with
      | none => rfl
      | some b => cases c with
        | none => rfl
        | some c =>
          rw [addO_ss, addO_ss, addO_ss, addO_ss, Int.add_assoc]
  mul_comm := fun a b => by
    cases a with
    | none => exact (addO_none b).symm
    | some a => cases b with
      | none => rfl
      | some b => rw [addO_ss, addO_ss, Int.add_comm]
  mul_add := fun a b c => by
    cases a with
    | none => rfl
    | some a => cases b with
      | none => rfl
      | some b => cases c with
        | none => rfl
        | some c =>
          rw [minO_ss, addO_ss, addO_ss, addO_ss, minO_ss]
          congr 1
          split <;> split <;> omega
  mul_zero := addO_none
  mul_one := fun a => by
    cases a with
    | none => rfl
    | some a => rw [addO_ss, Int.add_zero]
def monT (a _ : Int) : Option Int := some a
theorem least_of {β : Type} (f : β → Int) : ∀ l : List β, l ≠ [] → ∃ m, sumLs trS (fun x => some (f x)) l = some m ∧ (∃ x ∈ l, f x = m) ∧ ∀ x ∈ l, m ≤ f x
  | [], h => absurd rfl h
  | [x], _ => ⟨f x, rfl, ⟨x, List.mem_cons_self, rfl⟩, fun y m => by rw [List.mem_singleton.mp m]; exact Int.le_refl _⟩
  | x :: y :: l, _ => by
    obtain ⟨m, h1, ⟨z, mz, h2⟩, h3⟩ := least_of f (y :: l) (by simp)
    rw [sumLs, h1]
    show ∃ m', minO (some (f x)) (some m) = some m' ∧ _
    rw [minO_ss]
    by_cases h : m < f x
    · rw [if_pos h]
      refine ⟨m, rfl, ⟨z, List.mem_cons_of_mem _ mz, h2⟩, fun u mu => ?_⟩
      rcases List.mem_cons.mp mu with e | mu
      · rw [e]
        omega
      · exact h3 u mu
    · rw [if_neg h]
      refine ⟨f x, rfl, ⟨x, List.mem_cons_self, rfl⟩, fun u mu => ?_⟩
      rcases List.mem_cons.mp mu with e | mu
      · rw [e]
        exact Int.le_refl _
      · have := h3 u mu
        omega
/-! ### pairs of a cost and a state as one number -/
def cdS : List Int → Int
  | [] => 0
  | b :: t => b * 2 ^ t.length + cdS t
def cd (c : Int) (st : List Int) : Int := c * 2 ^ st.length + cdS st
theorem cdS_app : ∀ a b : List Int, cdS (a ++ b) = cdS a * 2 ^ b.length + cdS b
  | [], b => by rw [List.nil_append, cdS, Int.zero_mul, Int.zero_add]
  | x :: a, b => by
    rw [List.cons_append, cdS, cdS, cdS_app a b, List.length_append, Int.pow_add, Int.add_mul, Int.mul_assoc, Int.add_assoc]
theorem p2pos (n : Nat) : (0 : Int) < 2 ^ n := Int.pow_pos (by decide)
theorem cdS_bd : ∀ {st : List Int}, bits st → 0 ≤ cdS st ∧ cdS st < 2 ^ st.length
  | [], _ => ⟨Int.le_refl _, by decide⟩
  | b :: t, h => by
    obtain ⟨h1, h2⟩ := cdS_bd (st := t) fun x m => h x (List.mem_cons_of_mem _ m)
    have hp := p2pos t.length
    rw [cdS, List.length_cons, Int.pow_succ]
    rcases h b List.mem_cons_self with e | e
    · rw [e, Int.zero_mul]
      omega
    · rw [e, Int.one_mul]
      omega
theorem cd_two {n : Nat} {c d x y : Int} (hx : 0 ≤ x ∧ x < 2 ^ n) (hy : 0 ≤ y ∧ y < 2 ^ n) : (c * 2 ^ n + x < d * 2 ^ n + y ↔ c < d ∨ (c = d ∧ x < y)) := by
  have hp := p2pos n
  generalize (2 : Int) ^ n = p at *
  constructor
  · intro h
    rcases Int.lt_trichotomy c d with z | z | z
    · exact .inl z
    · subst z
      exact .inr ⟨rfl, by omega⟩
    · have h1 : (d + 1) * p ≤ c * p := Int.mul_le_mul_of_nonneg_right (by omega) (by omega)
      rw [Int.add_mul, Int.one_mul] at h1
      omega
  · rintro (z | ⟨rfl, z⟩)
    · have h1 : (c + 1) * p ≤ d * p := Int.mul_le_mul_of_nonneg_right (by omega) (by omega)
      rw [Int.add_mul, Int.one_mul] at h1
      omega
    · omega
theorem cd_eq {n : Nat} {c d x y : Int} (hx : 0 ≤ x ∧ x < 2 ^ n) (hy : 0 ≤ y ∧ y < 2 ^ n) (h : c * 2 ^ n + x = d * 2 ^ n + y) : c = d ∧ x = y := by
  have a : ¬ (c < d ∨ (c = d ∧ x < y)) := fun z => by
    have := (cd_two (c := c) (d := d) hx hy).mpr z
    omega
  have b : ¬ (d < c ∨ (d = c ∧ y < x)) := fun z => by
    have := (cd_two (c := d) (d := c) hy hx).mpr z
    omega
  have e : c = d := by omega
  subst e
  exact ⟨rfl, by omega⟩
theorem cdS_inj : ∀ {a b : List Int}, a.length = b.length → bits a → bits b → cdS a = cdS b → a = b
  | [], [], _, _, _, _ => rfl
  | [], _ :: _, h, _, _, _ => nomatch h
  | _ :: _, [], h, _, _, _ => nomatch h
  | x :: a, y :: b, h, ha, hb, e => by
    have hl : a.length = b.length := Nat.succ.inj h
    have h1 := cdS_bd (st := a) fun x m => ha x (List.mem_cons_of_mem _ m)
    have h2 := cdS_bd (st := b) fun x m => hb x (List.mem_cons_of_mem _ m)
    rw [cdS, cdS, ← hl] at e
    rw [← hl] at h2
    obtain ⟨e1, e2⟩ := cd_eq h1 h2 e
    rw [e1, cdS_inj hl (fun x m => ha x (List.mem_cons_of_mem _ m)) (fun x m => hb x (List.mem_cons_of_mem _ m)) e2]
theorem lex_cdS : ∀ {a b : List Int}, a.length = b.length → bits a → bits b → HT.lexLt a b = decide (cdS a < cdS b)
  | [], [], _, _, _ => by rw [HT.lexLt_nil_nil]; rfl
  | [], _ :: _, h, _, _ => nomatch h
  | _ :: _, [], h, _, _ => nomatch h
  | x :: a, y :: b, h, ha, hb => by
    have hl : a.length = b.length := Nat.succ.inj h
    have ha' : bits a := fun x m => ha x (List.mem_cons_of_mem _ m)
    have hb' : bits b := fun x m => hb x (List.mem_cons_of_mem _ m)
    have h1 := cdS_bd ha'
    have h2 := cdS_bd hb'
    rw [← hl] at h2
    rw [HT.lexLt_cons, lex_cdS hl ha' hb', cdS, cdS, ← hl]
    by_cases e : x = y
    · rw [if_pos e]
      refine decide_eq_decide.mpr ?_
      rw [cd_two h1 h2]
      omega
    · rw [if_neg e]
      refine decide_eq_decide.mpr ?_
      rw [cd_two h1 h2]
      omega
theorem lex_cd {c d : Int} {a b : List Int} (hl : a.length = b.length) (ha : bits a) (hb : bits b) : HT.lexLt (c :: a) (d :: b) = decide (cd c a < cd d b) := by
  have h1 := cdS_bd ha
  have h2 := cdS_bd hb
  rw [← hl] at h2
  unfold cd
  rw [HT.lexLt_cons, lex_cdS hl ha hb, ← hl]
  by_cases e : c = d
  · rw [if_pos e]
    refine decide_eq_decide.mpr ?_
    rw [cd_two h1 h2]
    omega
  · rw [if_neg e]
    refine decide_eq_decide.mpr ?_
    rw [cd_two h1 h2]
    omega
theorem cd_inj {c d : Int} {a b : List Int} (hl : a.length = b.length) (ha : bits a) (hb : bits b) (h : cd c a = cd d b) : c = d ∧ a = b := by
  have h1 := cdS_bd ha
  have h2 := cdS_bd hb
  rw [← hl] at h2
  unfold cd at h
  rw [← hl] at h
  obtain ⟨e1, e2⟩ := cd_eq h1 h2 h
  exact ⟨e1, cdS_inj hl ha hb e2⟩
/-- a vertex gets its spin -/
def putS (st : List Int) (v : Nat) (s : Int) : List Int := st.take v ++ [s] ++ st.drop (v + 1)
theorem putS_len {st : List Int} {v : Nat} (h : v < st.length) (s : Int) : (putS st v s).length = st.length := by
  unfold putS
  rw [List.length_append, List.length_append, List.length_take, List.length_drop, List.length_singleton]
  omega
theorem putS_bits {st : List Int} (hb : bits st) (v : Nat) {s : Int} (hs : s = 0 ∨ s = 1) : bits (putS st v s) := fun b m => by
  unfold putS at m
  rcases List.mem_append.mp m with m | m
  · rcases List.mem_append.mp m with m | m
    · exact hb b (List.mem_of_mem_take m)
    · rw [List.mem_singleton.mp m]
      exact hs
  · exact hb b (List.mem_of_mem_drop m)
theorem putS_cd {st : List Int} {v : Nat} (h : v < st.length) (h0 : st.getD v 0 = 0) (s : Int) : cdS (putS st v s) = cdS st + s * 2 ^ (st.length - 1 - v) := by
  have e : st = st.take v ++ [st[v]] ++ st.drop (v + 1) := by
    rw [List.append_assoc]
    show st = st.take v ++ (st[v] :: st.drop (v + 1))
    rw [← List.drop_eq_getElem_cons h, List.take_append_drop]
  have z : st[v] = 0 := by
    rw [List.getD_eq_getElem?_getD, List.getElem?_eq_getElem h] at h0
    exact h0
  have c0 : cdS [(0 : Int)] = 0 := rfl
  have c1 : cdS [s] = s := by
    show s * 2 ^ 0 + 0 = s
    omega
  have ld : (st.drop (v + 1)).length = st.length - 1 - v := by
    rw [List.length_drop]
    omega
  have e1 : cdS st = cdS (st.take v ++ [st[v]] ++ st.drop (v + 1)) := congrArg cdS e
  rw [e1]
  unfold putS
  rw [cdS_app, cdS_app, cdS_app, cdS_app, z, c0, c1, ld, List.length_singleton, List.length_singleton, Int.add_zero, Int.add_mul]
  omega
theorem putS_at {st : List Int} {v w : Nat} (h : v < st.length) (s : Int) (hw : w ≠ v) : (putS st v s).getD w 0 = st.getD w 0 := by
  unfold putS
  rw [List.getD_eq_getElem?_getD, List.getD_eq_getElem?_getD]
  congr 1
  have lt : (st.take v).length = v := by
    rw [List.length_take]
    omega
  by_cases z : w < v
  · rw [List.append_assoc, List.getElem?_append_left (by omega), List.getElem?_take, if_pos z]
  · rw [List.getElem?_append_right (by rw [List.length_append, lt, List.length_singleton]; omega), List.length_append, lt, List.length_singleton, List.getElem?_drop]
    congr 1
    omega
theorem cdS_sum : ∀ st : List Int, cdS st = ((List.range st.length).map fun v => st.getD v 0 * 2 ^ (st.length - 1 - v)).sum
  | [] => rfl
  | b :: t => by
    have e : ((List.range t.length).map fun v => t.getD v 0 * 2 ^ (t.length - 1 - v)) = (List.range t.length).map ((fun v => (b :: t).getD v 0 * 2 ^ (t.length + 1 - 1 - v)) ∘ Nat.succ) := by
      refine List.map_congr_left fun v _ => ?_
      show t.getD v 0 * 2 ^ (t.length - 1 - v) = (b :: t).getD (v + 1) 0 * 2 ^ (t.length + 1 - 1 - (v + 1))
      rw [show t.length + 1 - 1 - (v + 1) = t.length - 1 - v by omega]
      rfl
    rw [cdS, cdS_sum t, List.length_cons, List.range_succ_eq_map, List.map_cons, List.sum_cons, List.map_map, e]
    rfl
/-! ### the least along an order -/
def ptV (n : Nat) (v s : Int) : Int := s * 2 ^ (n - 1 - v.toNat)
def fstL (n : Nat) (fs : List Int) (os : List Int) (es : List Eg) (i : Nat) (v : Int) : FSt := ⟨fun k s => (fstO fs os es i v).price k s * 2 ^ n + ptV n v s, stayO os (prsOf es) i v⟩
def fstsL (n : Nat) (fs : List Int) (os : List Int) (es : List Eg) : List FSt := os.mapIdx fun i v => fstL n fs os es i v
theorem fstsL_at (n : Nat) (fs : List Int) (os : List Int) (es : List Eg) (i : Nat) : (fstsL n fs os es)[i]? = os[i]?.map fun v => fstL n fs os es i v := by
  unfold fstsL
  rw [List.getElem?_mapIdx]
def POl (n : Nat) (fs : List Int) (os : List Int) (es : List Eg) (i : Nat) (h : List Int) (s : Int) : Int := POr fs os es i h s * 2 ^ n + ptV n (os.getD i 0) s
theorem histL {n : Nat} {fs : List Int} {os : List Int} {es : List Eg} {Fr : Nat → List Nat} (H : Hist (POr fs os es) (fstsO fs os es) Fr) : Hist (POl n fs os es) (fstsL n fs os es) Fr := by
  refine ⟨H.zero, fun i st h s hs hl => ?_, fun i st h s hs hl => ?_⟩
  · rw [fstsL_at] at hs
    obtain ⟨v, hv, rfl⟩ := Option.map_eq_some_iff.mp hs
    have h1 := H.pr i (fstO fs os es i v) h s (by rw [fsts_at, hv]; rfl) hl
    have ev : os.getD i 0 = v := by rw [List.getD_eq_getElem?_getD, hv]; rfl
    show (fstO fs os es i v).price _ s * 2 ^ n + ptV n v s = _
    rw [h1]
    unfold POl
    rw [ev]
  · rw [fstsL_at] at hs
    obtain ⟨v, hv, rfl⟩ := Option.map_eq_some_iff.mp hs
    exact H.tg i (fstO fs os es i v) h s (by rw [fsts_at, hv]; rfl) hl
theorem sum_mulr {β : Type} (f : β → Int) (c : Int) : ∀ l : List β, (l.map fun x => f x * c).sum = (l.map f).sum * c
  | [] => (Int.zero_mul c).symm
  | x :: l => by rw [List.map_cons, List.sum_cons, sum_mulr f c l, List.map_cons, List.sum_cons, Int.add_mul]
section
variable {n : Nat} {fs : List Int} {os : List Int} {es : List Eg}
theorem pt_sum (ho : isOrd n os) {h : List Int} (hl : h.length = n) : ((List.range h.length).map fun i => ptV n (os.getD i 0) (h.getD i 0)).sum = cdS (stP os h) := by
  have hn : os.Nodup := (List.Perm.nodup_iff ho).mpr (rng_nodup n)
  have hol : os.length = n := (List.Perm.length_eq ho).trans (rng_len n)
  have e1 : ((List.range h.length).map fun i => ptV n (os.getD i 0) (h.getD i 0)) = (List.range os.length).map fun i => (fun v => ptV n v (h.getD (os.idxOf v) 0)) (os.getD i 0) := by
    rw [hl, hol]
    refine List.map_congr_left fun i mi => ?_
    have hi : i < os.length := by have := List.mem_range.mp mi; omega
    have hv := List.getElem?_eq_getElem hi
    have ev : os.getD i 0 = os[i] := by rw [List.getD_eq_getElem?_getD, hv]; rfl
    show _ = ptV n (os.getD i 0) (h.getD (os.idxOf (os.getD i 0)) 0)
    rw [ev, idx_at hn hv]
  rw [e1, range_map os (fun v => ptV n v (h.getD (os.idxOf v) 0)), perm_sumI (ho.map _), cdS_sum]
  have ls : (stP os h).length = n := by unfold stP; rw [List.length_map, List.length_range, hol]
  rw [ls]
  unfold rng
  rw [List.map_map]
  congr 1
  refine List.map_congr_left fun v mv => ?_
  have hv := List.mem_range.mp mv
  have e2 : (stP os h).getD v 0 = h.getD (os.idxOf ((v : Nat) : Int)) 0 := by
    unfold stP
    rw [List.getD_eq_getElem?_getD, List.getElem?_map, List.getElem?_range (by omega)]
    rfl
  rw [e2]
  rfl
theorem code_PT (ho : isOrd n os) (hf : fs.length = n) (hin : inR n (prsOf es)) {h : List Int} (hl : h.length = n) (hb : bits (stP os h)) : PTF (POl n fs os es) [] h = cd (costZ fs es (stP os h)) (stP os h) := by
  have hol : os.length = n := (List.Perm.length_eq ho).trans (rng_len n)
  have e := cost_PT (fs := fs) ho hf hin hl hb
  rw [PTF_sum] at e ⊢
  have e1 : ((List.range h.length).map fun i => POl n fs os es (([] : List Int).length + i) ([] ++ h.take i) (h.getD i 0)) = (List.range h.length).map fun i => POr fs os es (([] : List Int).length + i) ([] ++ h.take i) (h.getD i 0) * 2 ^ n + ptV n (os.getD i 0) (h.getD i 0) := by
    refine List.map_congr_left fun i _ => ?_
    unfold POl
    rw [List.length_nil, Nat.zero_add]
  rw [e1, sum_add2, sum_mulr, e, pt_sum ho hl]
  have ls : (stP os h).length = n := by unfold stP; rw [List.length_map, List.length_range, hol]
  unfold cd
  rw [ls]
theorem least_sum (ho : isOrd n os) (hf : fs.length = n) (hin : inR n (prsOf es)) : WF trS monT (fstsL n fs os es) [] = sumLs trS (fun st => some (cd (costZ fs es st) st)) (states n) := by
  have hn : os.Nodup := (List.Perm.nodup_iff ho).mpr (rng_nodup n)
  have hom : ∀ v, v ∈ os ↔ 0 ≤ v ∧ v < n := fun v => (List.Perm.mem_iff ho).trans mem_rng
  have hol : os.length = n := (List.Perm.length_eq ho).trans (rng_len n)
  have hoe : ∀ e ∈ prsOf es, e.1 ∈ os ∧ e.2 ∈ os := fun e m => by
    obtain ⟨a1, a2, a3, a4, _⟩ := hin e m
    exact ⟨(hom _).mpr ⟨a1, a2⟩, (hom _).mpr ⟨a3, a4⟩⟩
  have lst : (fstsL n fs os es).length = n := by
    unfold fstsL
    rw [List.length_mapIdx, hol]
  have h := WF_hist trS monT (POl n fs os es) (histL (hist_ok (fs := fs) hn hin hoe)) n 0 (by omega) [] rfl
  rw [List.drop_zero] at h
  have e0 : (FrO os (prsOf es) 0).map (fun p => ([] : List Int).getD p 0) = [] := rfl
  rw [e0] at h
  rw [h, ← sumLs_perm trS (fun st => some (cd (costZ fs es st) st)) (perm_stP ho), sumLs_map]
  refine sumLs_congr trS fun x mx => ?_
  obtain ⟨hl, _⟩ := states_ok n x mx
  rw [HP_mon trS monT _ rfl (fun _ _ _ _ => rfl), code_PT ho hf hin hl (stP_ok ho mx).2]
  rfl
end
/-! ### a carried table in general -/
section
variable {α : Type} (S : MT.Sr α) (mon : Int → Int → α)
theorem putG_ne {l : List (List Int × α)} {m : List Int} {x : α} : m ∈ MG.keysA (MG.putA l m x) := by
  rw [MG.keys_put]
  split
  · assumption
  · exact List.mem_append_right _ List.mem_cons_self
theorem c2G_ne (st : FSt) : ∀ (T g : List (List Int × α)), T ≠ [] ∨ g ≠ [] → T.foldl (c2F S mon st) g ≠ []
  | [], g, h => h.resolve_left fun z => z rfl
  | p :: T, g, _ => c2G_ne st T _ (.inr fun z => by
    have h : tgtF st p.1 1 ∈ MG.keysA (c2F S mon st g p) := putG_ne
    rw [z] at h
    exact absurd h List.not_mem_nil)
theorem runG_ne : ∀ (sts : List FSt) (T : List (List Int × α)), T ≠ [] → runF S mon sts T ≠ []
  | [], T, h => h
  | st :: r, T, h => runG_ne r _ (c2G_ne S mon st T [] (.inl h))
/-- the end's table has the empty key alone -/
theorem runG_last {sts : List FSt} {st : FSt} (hst : st.stay = []) : MG.getA S (runF S mon (sts ++ [st]) [([], S.one)]) [] = WF S mon (sts ++ [st]) [] ∧ [] ∈ MG.keysA (runF S mon (sts ++ [st]) [([], S.one)]) := by
  refine ⟨run_end S mon hst, ?_⟩
  rw [runF_snoc]
  have hne := c2G_ne S mon st (runF S mon sts [([], S.one)]) [] (.inl (runG_ne S mon _ _ (by simp)))
  have hk := keys_c2 S mon (P := fun k => k = []) st (fun k s => by unfold tgtF; rw [hst]; rfl) (runF S mon sts [([], S.one)]) [] (fun k m => absurd m List.not_mem_nil)
  unfold cStF
  generalize (runF S mon sts [([], S.one)]).foldl (c2F S mon st) [] = R at *
  cases R with
  | nil => exact absurd rfl hne
  | cons q R =>
    have := hk q.1 List.mem_cons_self
    rw [← this]
    exact List.mem_cons_self
theorem addG_len (g : List (List Int × α)) (m : List Int) (y : α) : (MG.addA S g m y).length ≤ g.length + 1 := by
  unfold MG.addA MG.putA
  split
  · rw [List.length_map]
    omega
  · rw [List.length_append]
    exact Nat.le_refl _
theorem c1G_size (st : FSt) (p : List Int × α) {g : List (List Int × α)} (nd : (MG.keysA g).Nodup) (s : Int) : (MG.keysA (c1F S mon st p g s)).Nodup ∧ (c1F S mon st p g s).length ≤ g.length + 1 := ⟨MG.nodup_put nd _ _, addG_len S _ _ _⟩
theorem cgoG_size (st : FSt) : ∀ (T g : List (List Int × α)), (MG.keysA g).Nodup → (MG.keysA (T.foldl (c2F S mon st) g)).Nodup ∧ (T.foldl (c2F S mon st) g).length ≤ g.length + 2 * T.length
  | [], g, nd => ⟨nd, Nat.le_add_right _ _⟩
  | p :: T, g, nd => by
    obtain ⟨a, c⟩ := c1G_size S mon st p nd 0
    obtain ⟨a2, c2⟩ := c1G_size S mon st p a 1
    obtain ⟨a3, c3⟩ := cgoG_size st T (c2F S mon st g p) a2
    have c2 : (c2F S mon st g p).length ≤ (c1F S mon st p g 0).length + 1 := c2
    rw [List.foldl_cons, List.length_cons]
    exact ⟨a3, by omega⟩
theorem runG_size : ∀ (sts : List FSt) (T : List (List Int × α)), (MG.keysA T).Nodup → (MG.keysA (runF S mon sts T)).Nodup ∧ (runF S mon sts T).length ≤ 2 ^ sts.length * T.length
  | [], T, nd => ⟨nd, by show T.length ≤ 1 * T.length; omega⟩
  | st :: r, T, nd => by
    obtain ⟨a, c⟩ := cgoG_size S mon st T [] (by simp [MG.keysA])
    obtain ⟨a2, c2⟩ := runG_size r _ a
    rw [List.length_nil, Nat.zero_add] at c
    refine ⟨a2, Nat.le_trans c2 ?_⟩
    rw [List.length_cons, Nat.pow_succ, Nat.mul_assoc]
    exact Nat.mul_le_mul_left _ c
end
/-! ### _links and _times_spin -/
def monC (a b : Int) : CP := ⟨[((a, b), 1)], by simp [PM.Canon]⟩
theorem nrm_mon (a b : Int) : nrm (monC a b) = 1 := rfl
theorem nrm_mulM (x : CP) (a b : Int) : nrm (cpS.mul x (monC a b)) ≤ nrm x := Nat.le_trans (PM.norm_canon _) (by rw [PM.norm_mul]; exact Nat.le_of_eq (Nat.mul_one _))
def spTs (T : Top K mg) : Sp := fun vs H Q _ => ∃ (v1 v2 : V) (x : CP) (s price : Int), vs = [v1, v2, .int s, .int price] ∧ (cqA K).Val H v1 x ∧ nrm x < 1000000 ∧ Tg T H ∧ ∀ v H', Ext H H' → (cqA K).Val H' v (cpS.mul x (monC price s)) → Q v H'
theorem ok_times_spin (T : Top K mg) (B : Tb T base) : FnOk P w K mg base CX0 4 T.f_times_spin T.d_times_spin ["p", "_", "spin", "price"] (spTs T) := by
  refine T.F_times_spin.ok sc_times_spin (fun vs H Q E h => ?_) (fun cdv A outer s H vs Q E hr h => ?_)
  · obtain ⟨v1, v2, x, s, price, rfl, _⟩ := h
    rfl
  obtain ⟨v1, v2, x, s, price, rfl, ⟨a, rfl, hx⟩, hn, G, q⟩ := h
  refine ⟨_, (pss_one (ps_ret (pe_call (ok_times T B) (hr.mono (by decide)) (by rfl) T.g_times T.F_times.kp T.b_times .nil pass0 (pa_cons (pv 0) (pa_cons (pe_tup (pa_cons (pe_tup (pa_cons (pe_tup (pa_cons (pv 3) (pa_cons (pv 2) pa_nil))) (pa_cons pe_int pa_nil))) pa_nil)) pa_nil))))), ?_⟩
  refine ⟨_, rfl, _, rfl, _, rfl, sl2, fun t1 ht1 => ⟨sl2, fun t2 ht2 => ⟨by rw [sizeLine_eq]; simp, fun t3 ht3 => ?_⟩⟩⟩
  have y1 := ext_upd (o := .tup [V.int price, .int s]) ht1
  have m1 : upd H t1 (.tup [V.int price, .int s]) t1 = some (.tup [V.int price, .int s]) := upd_same
  generalize upd H t1 (.tup [V.int price, .int s]) = HB at *
  have y2 := ext_upd (o := .tup [V.ref t1, .int 1]) ht2
  have m2 : upd HB t2 (.tup [V.ref t1, .int 1]) t2 = some (.tup [V.ref t1, .int 1]) := upd_same
  generalize upd HB t2 (.tup [V.ref t1, .int 1]) = HC at *
  have y3 := ext_upd (o := .tup [V.ref t2]) ht3
  have m3 : upd HC t3 (.tup [V.ref t2]) t3 = some (.tup [V.ref t2]) := upd_same
  dsimp only [gName]
  generalize upd HC t3 (.tup [V.ref t2]) = HD at *
  have pX : PolyAt K HD t3 [((price, s), 1)] := ⟨[V.ref t2], SqT.of m3, .cons ⟨t2, t1, rfl, SqT.of (y3.at m2), SqT.of (y3.at (y2.at m1))⟩ .nil⟩
  have yD := (y1.trans y2).trans y3
  refine ⟨a, t3, x.1, [((price, s), 1)], rfl, yD.poly hx, pX, ?_, fun t m => ?_, fun t m => ?_, G.ext yD, fun p H' sp hp _ => q _ _ (yD.trans sp) ⟨p, rfl, hp.at⟩⟩
  · have := len_nrm x
    show x.1.length * 1 < 1000000
    omega
  · exact Nat.lt_of_le_of_lt (nrm_at m) (Nat.lt_trans hn mil)
  · rw [List.mem_singleton.mp m]
    exact Nat.lt_trans (show 1 < 1000000 by decide) mil
theorem sqt_lst {H : Hp} {p a : Addr} {acc xs : List V} {o : HO} (hp : H p = some (.lst acc)) (h : SqT K H a xs) : SqT K (upd H p o) a xs := by
  rcases h with (h | ⟨o', h⟩) | h
  · exact .inl (.inl (by rw [upd_ne (fun z => by rw [z, hp] at h; cases h)]; exact h))
  · exact .inl (.inr ⟨o', by rw [upd_ne (fun z => by rw [z, hp] at h; cases h)]; exact h⟩)
  · exact .inr h
/-- a pair of a place and a coupling -/
def LkAt (K : PySem.W.Frag) (H : Hp) (v : V) (l : Nat × Int) : Prop := ∃ a, v = .ref a ∧ SqT K H a [.int (l.1 : Int), .int l.2]
theorem lk_lst {H : Hp} {p : Addr} {acc xs : List V} {l : List (Nat × Int)} {o : HO} (hp : H p = some (.lst acc)) (h : Paired (LkAt K H) xs l) : Paired (LkAt K (upd H p o)) xs l := paired_imp (fun _ _ ⟨a, e, h⟩ => ⟨a, e, sqt_lst hp h⟩) h
theorem lk_up {H H' : Hp} (s : Ext H H') {xs : List V} {l : List (Nat × Int)} (h : Paired (LkAt K H) xs l) : Paired (LkAt K H') xs l := paired_imp (fun _ _ ⟨a, e, h⟩ => ⟨a, e, s.tup h⟩) h
def lnks (F : List Int) (es : List Eg) (ks : List Int) (v : Int) : List (Nat × Int) := ks.map fun k => (F.idxOf (othE (eAt es k.toNat) v), (eAt es k.toNat).2.2)
def spLnk (T : Top K mg) : Sp := fun vs H Q _ => ∃ (p fa ea : Addr) (fs : List Int) (es : List Eg) (F ks : List Int) (v : Int), vs = [.ref p, .ref fa, .int v, .ref ea] ∧ SpAt T H p fs es ∧ H fa = some (.lst (F.map V.int)) ∧ H ea = some (.lst (ks.map V.int)) ∧ ks.length < 1000 ∧ (∀ k ∈ ks, 0 ≤ k ∧ k < es.length ∧ othE (eAt es k.toNat) v ∈ F) ∧
  ∀ l H' xs, Ext H H' → H l = none → H' l = some (.lst xs) → Paired (LkAt K H') xs (lnks F es ks v) → Q (.ref l) H'
theorem eAt_at {es : List Eg} {k : Nat} (h : k < es.length) : es[k]? = some (eAt es k) := by
  unfold eAt
  rw [List.getD_eq_getElem?_getD, List.getElem?_eq_getElem h]
  rfl
theorem flat_ints (F : List Int) : (F.map V.int).all flatV = true := List.all_eq_true.mpr fun x m => by
  obtain ⟨i, _, rfl⟩ := List.mem_map.mp m
  rfl
theorem idx_first {F : List Int} {w : Int} : ∀ (m : Nat) (z : V), m < F.idxOf w → (F.map V.int)[m]? = some z → eqV z (.int w) = false := fun m z hm hz => by
  rw [List.getElem?_map] at hz
  obtain ⟨u, hu, rfl⟩ := Option.map_eq_some_iff.mp hz
  have : u ≠ w := fun e => by
    subst e
    obtain ⟨hl, e2⟩ := List.getElem?_eq_some_iff.mp hu
    have := List.not_of_lt_findIdx (p := fun x => x == u) (xs := F) (i := m) hm
    rw [e2] at this
    simp at this
  show (u == w) = false
  simpa using this
theorem ok_links (T : Top K mg) : FnOk P w K mg base CX0 1 T.f_links T.d_links ["spins", "front", "vertex", "edges"] (spLnk T) := by
  refine T.F_links.ok sc_links (fun vs H Q E h => ?_) (fun cdv A outer s H vs Q E hr h => ?_)
  · obtain ⟨p, fa, ea, fs, es, F, ks, v, rfl, _⟩ := h
    rfl
  obtain ⟨p, fa, ea, fs, es, F, ks, v, rfl, hp, hF, hk, lk, hks, q⟩ := h
  refine ⟨_, (pss_cons (ps_set (i := 4) sc_links.nd rfl (by first | exact .inl rfl | exact .inr rfl) (pe_lst pa_nil))
      (pss_cons (ps_for PassesOwn.never rfl (pi_list (pv 3)) (pg_name (i := 5) sc_links.nd rfl (by first | exact .inl rfl | exact .inr rfl)) (pss_cons (ps_asg (pe_ix ix_tup (pe_fld (pv 0) rfl) (pv 5) (fun _ _ => rfl)) (pg_tup rfl (pgs_cons (pg_name (i := 6) sc_links.nd rfl (by first | exact .inl rfl | exact .inr rfl)) (pgs_cons (pg_name (i := 7) sc_links.nd rfl (by first | exact .inl rfl | exact .inr rfl)) (pgs_cons (pg_name (i := 8) sc_links.nd rfl (by first | exact .inl rfl | exact .inr rfl)) pgs_nil)))))
      (pss_one (ps_expr (pe_bm PySem.F.plainAttrs_list PySem.F.slot_list_append PySem.F.type_list_append mt_append (pv 4) (pa_cons (pe_tup (pa_cons (pe_bm PySem.F.plainAttrs_list PySem.F.slot_list_index PySem.F.type_list_index mt_index (pv 1) (pa_cons (pe_ifExp (pt_cmpR op_eq (pv 7) (pv 2) (nomark _)) (pv 6) (pv 7)) pa_nil)) (pa_cons (pv 8) pa_nil))) pa_nil))))))
      (pss_one (ps_ret (pv 4))))), ?_⟩
  refine ⟨by rw [sizeLine_eq]; simp, fun l0 hl0 => ?_⟩
  have x0 := ext_upd (o := .lst []) hl0
  have k0 : upd H l0 (.lst []) l0 = some (.lst []) := upd_same
  generalize upd H l0 (.lst []) = H0 at *
  obtain ⟨gf, ge, dx, fb, eb, ys, h1, h2, h3, h4⟩ := hp
  refine ⟨_, rfl, ea, rfl, ⟨_, SqL.of (x0.lst hk)⟩, for_list (xs := ks.map V.int) (fun i σ H1 => ∃ l z5 z6 z7 z8 xs, σ = [some (.ref p), some (.ref fa), some (.int v), some (.ref ea), some (.ref l), z5, z6, z7, z8] ∧ Ext H H1 ∧ H l = none ∧ H1 l = some (.lst xs) ∧ Paired (LkAt K H1) xs (lnks F es (ks.take i) v))
    ⟨l0, _, _, _, _, [], rfl, x0, hl0, k0, .nil⟩ (fun i σ H1 _ h => ?_) (fun i x σ H1 hi hP => ?_) (fun σ H1 hP => ?_)⟩
  · obtain ⟨_, _, _, _, _, _, _, s1, _⟩ := h
    exact SqL.of (s1.lst hk)
  · obtain ⟨l, z5, z6, z7, z8, xs, rfl, s1, nl, hl, hxs⟩ := hP
    rw [List.getElem?_map] at hi
    obtain ⟨k, hki, rfl⟩ := Option.map_eq_some_iff.mp hi
    obtain ⟨k0', k1, k2⟩ := hks k (List.mem_of_getElem? hki)
    obtain ⟨kn, rfl⟩ := Int.eq_ofNat_of_zero_le k0'
    have hkn : kn < es.length := by omega
    have ly := h4.length
    have hyk := List.getElem?_eq_getElem (show kn < ys.length by omega)
    obtain ⟨e, hek, ad, ey, had⟩ := paired_at (s1.edges h4) hyk
    rw [eAt_at hkn] at hek
    rw [Int.toNat_natCast] at k2
    have tk : lnks F es (ks.take (i + 1)) v = lnks F es (ks.take i) v ++ [(F.idxOf (othE (eAt es kn) v), (eAt es kn).2.2)] := by
      unfold lnks
      rw [take_snoc hki, List.map_append]
      rfl
    cases hek
    generalize eAt es kn = e at *
    obtain ⟨u, v', j⟩ := e
    have had : SqT K H1 ad [.int u, .int v', .int j] := had
    dsimp only [gName]
    refine ⟨_, rfl, p, T.C_Spins, dx, _, .ref eb, rfl, s1.keep p _ h1 (fun _ z => by cases z), T.cl_Spins, T.na_Spins_edges, rfl, _, rfl, eb, ys, (kn : Int), _, rfl, rfl, s1.tup h3, atI_nat (ey ▸ hyk), ad, _, rfl, had, rfl, _, _, rfl, _, _, rfl, _, _, rfl, rfl, ?_⟩
    dsimp only [gName]
    refine ⟨_, rfl, .inl ⟨rfl, _, SqL.of hl⟩, _, rfl, .inl ⟨rfl, _, SqL.of (s1.lst hF)⟩, _, rfl, _, rfl, rfl, _, rfl, iteB (fun z => ?_) (fun z => ?_)⟩
    · have ho : othE (u, v', j) v = u := if_pos (V.int.inj (of_decide_eq_true z))
      rw [ho] at k2 tk
      refine ⟨_, rfl, fa, F.map V.int, .int u, F.idxOf u, .int u, rfl, rfl, SqL.of (s1.lst hF), rfl, flat_ints F, ?_, (by show (u == u) = true; exact beq_self_eq_true _), idx_first, _, rfl, sl2, fun t1 ht1 => ?_⟩
      · rw [List.getElem?_map, at_idx k2]
        rfl
      have x1 := ext_upd (o := .tup [V.int (F.idxOf u : Int), .int j]) ht1
      have m1 : upd H1 t1 (.tup [V.int (F.idxOf u : Int), .int j]) t1 = some (.tup [V.int (F.idxOf u : Int), .int j]) := upd_same
      dsimp only [gName]
      have hl2 := x1.lst hl
      have hx2 := lk_up x1 hxs
      generalize upd H1 t1 (.tup [V.int (F.idxOf u : Int), .int j]) = H2 at *
      have hlen : xs.length ≤ i := by
        have := hxs.length
        unfold lnks at this
        rw [List.length_map, List.length_take] at this
        omega
      have hik := (List.getElem?_eq_some_iff.mp hki).1
      refine ⟨l, xs, _, rfl, rfl, hl2, sl_lt (by omega), l, _, _, _, _, _, rfl, (s1.trans x1).own nl, nl, upd_same, ?_⟩
      rw [tk]
      exact paired_snoc (lk_lst hl2 hx2) ⟨t1, rfl, sqt_lst hl2 (SqT.of m1)⟩
    · have ho : othE (u, v', j) v = v' := if_neg (fun h => absurd z (by rw [show (v' : Int) = v from h]; simp))
      rw [ho] at k2 tk
      refine ⟨_, rfl, fa, F.map V.int, .int v', F.idxOf v', .int v', rfl, rfl, SqL.of (s1.lst hF), rfl, flat_ints F, ?_, (by show (v' == v') = true; exact beq_self_eq_true _), idx_first, _, rfl, sl2, fun t1 ht1 => ?_⟩
      · rw [List.getElem?_map, at_idx k2]
        rfl
      have x1 := ext_upd (o := .tup [V.int (F.idxOf v' : Int), .int j]) ht1
      have m1 : upd H1 t1 (.tup [V.int (F.idxOf v' : Int), .int j]) t1 = some (.tup [V.int (F.idxOf v' : Int), .int j]) := upd_same
      dsimp only [gName]
      have hl2 := x1.lst hl
      have hx2 := lk_up x1 hxs
      generalize upd H1 t1 (.tup [V.int (F.idxOf v' : Int), .int j]) = H2 at *
      have hlen : xs.length ≤ i := by
        have := hxs.length
        unfold lnks at this
        rw [List.length_map, List.length_take] at this
        omega
      have hik := (List.getElem?_eq_some_iff.mp hki).1
      refine ⟨l, xs, _, rfl, rfl, hl2, sl_lt (by omega), l, _, _, _, _, _, rfl, (s1.trans x1).own nl, nl, upd_same, ?_⟩
      rw [tk]
      exact paired_snoc (lk_lst hl2 hx2) ⟨t1, rfl, sqt_lst hl2 (SqT.of m1)⟩
  · obtain ⟨l, z5, z6, z7, z8, xs, rfl, s1, nl, hl, hxs⟩ := hP
    rw [List.length_map, List.take_length] at hxs
    exact ⟨_, rfl, q _ _ _ s1 nl hl hxs⟩
/-! ### _with_spin and _lesser -/
theorem slA_to {H : Hp} {a : Addr} {st : List Int} {v : Nat} {Q : VK} (h : SqT K H a (st.map V.int)) (hv : v < st.length) (q : ∀ p H', Ext H H' → SqT K H' p ((st.take v).map V.int) → Q (.ref p) H') : rSlA K (.ref a) none (some (v : Int)) H Q := by
  refine ⟨a, _, rfl, h, fun hw => ?_, fun _ p hp => ?_⟩
  · have h1 := hw.2
    rw [HT.sIx_nat, List.length_map] at h1
    omega
  · refine q p _ (ext_upd hp) (SqT.of ?_)
    rw [upd_same]
    congr 2
    unfold cutV
    rw [HT.sIx_none, HT.sIx_nat, List.drop_zero, Nat.sub_zero, List.length_map, Nat.min_eq_left (Nat.le_of_lt hv), List.map_take]
theorem slA_from {H : Hp} {a : Addr} {st : List Int} {v : Nat} {Q : VK} (h : SqT K H a (st.map V.int)) (hv : v < st.length) (q : ∀ p H', Ext H H' → SqT K H' p ((st.drop (v + 1)).map V.int) → Q (.ref p) H') : rSlA K (.ref a) (some ((v : Int) + 1)) none H Q := by
  have ev : (some ((v : Int) + 1) : Option Int) = some (((v + 1 : Nat)) : Int) := rfl
  refine ⟨a, _, rfl, h, fun hw => ?_, fun _ p hp => ?_⟩
  · have h1 := hw.1
    rw [ev, HT.sIx_nat, List.length_map] at h1
    omega
  · refine q p _ (ext_upd hp) (SqT.of ?_)
    rw [upd_same]
    congr 2
    unfold cutV
    rw [ev, HT.sIx_none, HT.sIx_nat, List.length_map, Nat.min_eq_left (by omega), List.map_drop]
    refine List.take_of_length_le ?_
    rw [List.length_drop, List.length_map]
    exact Nat.le_refl _
theorem catA_ints {H : Hp} {Q : VK} {a b : Addr} {s t : List Int} (h1 : SqT K H a (s.map V.int)) (h2 : SqT K H b (t.map V.int)) (hl : s.length + t.length ≤ 100) (q : ∀ c H', Ext H H' → SqT K H' c ((s ++ t).map V.int) → Q (.ref c) H') : rCatA K (.ref a) (.ref b) H Q := by
  refine ⟨a, b, s.map V.int, t.map V.int, rfl, rfl, h1, h2, sl_of (by rw [List.length_map, List.length_map]; omega), fun e => ?_, fun _ e => ?_, fun _ _ p hp => ?_⟩
  · have e0 : s = [] := List.map_eq_nil_iff.mp e
    subst e0
    exact q _ _ (Ext.refl H) h2
  · have e0 : t = [] := List.map_eq_nil_iff.mp e
    subst e0
    rw [List.append_nil] at q
    exact q _ _ (Ext.refl H) h1
  · refine q _ _ (ext_upd hp) ?_
    rw [List.map_append]
    exact SqT.of upd_same
def spWs (K : PySem.W.Frag) : Sp := fun vs H Q _ => ∃ (a : Addr) (c : Int) (st : List Int) (v : Nat) (s price : Int), vs = [.ref a, .int (v : Int), .int s, .int price] ∧ NST.PrN K H a (c, st) ∧ v < st.length ∧ st.length ≤ 8 ∧ ∀ p H', Ext H H' → NST.PrN K H' p (c + price, putS st v s) → Q (.ref p) H'
theorem ok_with_spin (T : Top K mg) : FnOk P w K mg base CX0 1 T.f_with_spin T.d_with_spin ["kept", "vertex", "spin", "price"] (spWs K) := by
  refine T.F_with_spin.ok sc_with_spin (fun vs H Q E h => ?_) (fun cdv A outer s H vs Q E hr h => ?_)
  · obtain ⟨a, c, st, v, s, price, rfl, _⟩ := h
    rfl
  obtain ⟨a, c, st, v, s, price, rfl, ⟨b, h1, h2⟩, hv, l8, q⟩ := h
  refine ⟨_, (pss_cons (ps_asg (pv 0) (pg_tup rfl (pgs_cons (pg_name (i := 4) sc_with_spin.nd rfl (by first | exact .inl rfl | exact .inr rfl)) (pgs_cons (pg_name (i := 5) sc_with_spin.nd rfl (by first | exact .inl rfl | exact .inr rfl)) pgs_nil))))
      (pss_one (ps_ret (pe_tup (pa_cons (pe_op op_add (pv 4) (pv 3)) (pa_cons (pe_op op_catA (pe_op op_catA (pe_slice sl_tupA (pv 5) po_none (po_some (pv 1))) (pe_tup (pa_cons (pv 2) pa_nil))) (pe_slice sl_tupA (pv 5) (po_some (pe_op op_add (pv 1) pe_int)) po_none)) pa_nil)))))), ?_⟩
  refine ⟨_, rfl, a, _, rfl, h1, rfl, _, _, rfl, _, _, rfl, rfl, ?_⟩
  dsimp only [gName]
  refine ⟨_, rfl, _, rfl, _, _, rfl, rfl, _, rfl, _, rfl, _, rfl, slA_to h2 hv fun p1 H1 s1 hp1 => ?_⟩
  refine ⟨_, rfl, by rw [sizeLine_eq]; simp, fun t1 ht1 => ?_⟩
  have x1 := ext_upd (o := .tup [V.int s]) ht1
  have m1 : upd H1 t1 (.tup [V.int s]) t1 = some (.tup [V.int s]) := upd_same
  have hp1 := x1.tup hp1
  have h2 := (s1.trans x1).tup h2
  have s1 := s1.trans x1
  generalize upd H1 t1 (.tup [V.int s]) = H2 at *
  refine catA_ints (s := st.take v) (t := [s]) hp1 (SqT.of m1) (by rw [List.length_take, List.length_singleton]; omega) fun p2 H3 s3 hp2 => ?_
  refine ⟨_, rfl, _, rfl, _, _, rfl, rfl, _, rfl, ?_⟩
  unfold tNoPart
  refine slA_from (s3.tup h2) hv fun p3 H4 s4 hp3 => catA_ints (s := st.take v ++ [s]) (t := st.drop (v + 1)) (s4.tup hp2) hp3 (by rw [List.length_append, List.length_take, List.length_singleton, List.length_drop]; omega) fun p4 H5 s5 hp4 => ⟨by rw [sizeLine_eq]; simp, fun p5 hp5 => ?_⟩
  have x5 := ext_upd (o := .tup [V.int (c + price), .ref p4]) hp5
  exact q _ _ (((s1.trans s3).trans (s4.trans s5)).trans x5) ⟨p4, SqT.of upd_same, x5.tup hp4⟩
def spLe (K : PySem.W.Frag) : Sp := fun vs H Q _ => ∃ (a b : Addr) (k m : Int × List Int), vs = [.ref a, .ref b] ∧ NST.PrN K H a k ∧ NST.PrN K H b m ∧ Q (.ref (if NST.ltN m k = true then b else a)) H
theorem ok_lesser (T : Top K mg) : FnOk P w K mg base CX0 1 T.f_lesser T.d_lesser ["one", "other"] (spLe K) := by
  refine T.F_lesser.ok sc_lesser (fun vs H Q E h => ?_) (fun cdv A outer s H vs Q E hr h => ?_)
  · obtain ⟨a, b, k, m, rfl, _⟩ := h
    rfl
  obtain ⟨a, b, k, m, rfl, h1, h2, q⟩ := h
  refine ⟨_, (pss_one (ps_ret (pe_callB (r := NST.rMin2N K) (NST.cr_min2N rfl (Nat.lt_of_le_of_lt (Nat.add_le_add_left (by decide) _) hr.units)) (by rfl) T.m_min (by decide +kernel) (pa_cons (pv 0) (pa_cons (pv 1) pa_nil))))), ?_⟩
  refine ⟨_, rfl, _, rfl, a, b, k, m, rfl, h1, h2, q⟩
/-! ### a dict with tuples of ints for keys -/
def encI (l : List Int) : List Key := l.map Sum.inl
theorem encI_inj : ∀ {a b : List Int}, encI a = encI b → a = b
  | [], [], _ => rfl
  | [], _ :: _, h => nomatch h
  | _ :: _, [], h => nomatch h
  | x :: a, y :: b, h => by
    obtain ⟨h1, h2⟩ := List.cons.inj (show Sum.inl x :: encI a = (Sum.inl y : Key) :: encI b from h)
    rw [encI_inj h2, Sum.inl.inj h1]
theorem encI_kV (l : List Int) : (encI l).map kV = l.map V.int := by
  unfold encI
  rw [List.map_map]
  rfl
section
variable {α : Type} {A : Ar K α}
def KvM (A : Ar K α) (H : Hp) (kv : List Key × V) (e : List Int × α) : Prop := kv.1 = encI e.1 ∧ A.Val H kv.2 e.2
def KvsM (A : Ar K α) (H : Hp) (kvs : List (List Key × V)) (l : List (List Int × α)) : Prop := Paired (KvM A H) kvs l
theorem KvsM.kp {H H' : Hp} (s : Keep H H') {kvs : List (List Key × V)} {l : List (List Int × α)} (h : KvsM A H kvs l) : KvsM A H' kvs l := paired_imp (fun _ _ ⟨a, b⟩ => ⟨a, A.keep s b⟩) h
theorem kvm_val {H : Hp} {m : List Int} : ∀ {kvs : List (List Key × V)} {l : List (List Int × α)}, KvsM A H kvs l → m ∈ MG.keysA l → ∃ v, valV kvs (encI m) = some v ∧ A.Val H v (MG.getA A.S l m)
  | _, _, .nil, h => by cases h
  | _, _, .cons (a := kv) (b := e) (l₁ := kvs) (l₂ := l) ⟨h1, h2⟩ t, h => by
    obtain ⟨k, v⟩ := kv
    have h1 : k = encI e.1 := h1
    subst h1
    rw [MG.get_cons]
    by_cases z : e.1 = m
    · rw [if_pos z, valV_pos (by rw [z])]
      exact ⟨_, rfl, h2⟩
    · rw [if_neg z, valV_neg (fun q => z (encI_inj q))]
      refine kvm_val t ?_
      rcases List.mem_cons.mp (show m ∈ e.1 :: MG.keysA l from h) with q | q
      · exact absurd q.symm z
      · exact q
theorem kvm_none {H : Hp} {m : List Int} : ∀ {kvs : List (List Key × V)} {l : List (List Int × α)}, KvsM A H kvs l → m ∉ MG.keysA l → valV kvs (encI m) = none
  | _, _, .nil, _ => rfl
  | _, _, .cons (a := kv) (b := e) (l₁ := kvs) (l₂ := l) ⟨h1, h2⟩ t, h => by
    obtain ⟨k, v⟩ := kv
    have h1 : k = encI e.1 := h1
    subst h1
    rw [valV_neg (fun q => h (by rw [← encI_inj q]; exact List.mem_cons_self ..))]
    exact kvm_none t (fun q => h (List.mem_cons_of_mem _ q))
theorem any_kvm {H : Hp} (m : List Int) : ∀ {kvs : List (List Key × V)} {l : List (List Int × α)}, KvsM A H kvs l → (kvs.any fun kv => decide (kv.1 = encI m)) = l.any fun p => decide (p.1 = m)
  | _, _, .nil => rfl
  | _, _, .cons (a := kv) (b := e) ⟨h1, h2⟩ t => by
    rw [List.any_cons, List.any_cons, any_kvm m t]
    congr 1
    refine decide_eq_decide.mpr ?_
    have h1 : kv.1 = encI e.1 := h1
    rw [h1]
    exact ⟨fun z => encI_inj z, fun z => by rw [z]⟩
theorem map_kvm {H : Hp} {m : List Int} {v : V} {x : α} (hv : A.Val H v x) : ∀ {kvs : List (List Key × V)} {l : List (List Int × α)}, KvsM A H kvs l → KvsM A H (kvs.map fun kv => if kv.1 = encI m then (kv.1, v) else kv) (l.map fun p => if p.1 = m then (p.1, x) else p)
  | _, _, .nil => .nil
  | _, _, .cons (a := kv) (b := e) ⟨h1, h2⟩ t => by
    refine .cons ?_ (map_kvm hv t)
    have h1 : kv.1 = encI e.1 := h1
    dsimp only
    by_cases z : e.1 = m
    · rw [if_pos z, if_pos (by rw [h1, z])]
      exact ⟨h1, hv⟩
    · rw [if_neg z, if_neg (fun q => z (encI_inj (h1.symm.trans q)))]
      exact ⟨h1, h2⟩
theorem kvm_put {H : Hp} {m : List Int} {v : V} {x : α} (hv : A.Val H v x) {kvs : List (List Key × V)} {l : List (List Int × α)} (h : KvsM A H kvs l) : KvsM A H (putK kvs (encI m) v) (MG.putA l m x) := by
  unfold putK MG.putA
  rw [any_kvm m h]
  by_cases z : (l.any fun p => decide (p.1 = m)) = true
  · rw [if_pos z, if_pos z]
    have e : (kvs.map fun kv => if kv.1 = encI m then (kv.1, v) else kv) = kvs.map fun kv => if kv.1 = encI m then (encI m, v) else kv := List.map_congr_left fun kv _ => by
      by_cases q : kv.1 = encI m
      · rw [if_pos q, if_pos q, q]
      · rw [if_neg q, if_neg q]
    have g := map_kvm (m := m) hv h
    first
      | exact g
      | (rw [e] at g; exact g)
  · rw [if_neg z, if_neg z]
    exact paired_snoc h ⟨rfl, hv⟩
theorem kvm_at {H : Hp} : ∀ {kvs : List (List Key × V)} {l : List (List Int × α)} {t : Nat} {k : List Key} {v : V}, KvsM A H kvs l → (MG.keysA l).Nodup → kvs[t]? = some (k, v) → valV kvs k = some v
  | _, _, _, _, _, .nil, _, h => by simp at h
  | kv :: _, e :: _, 0, k, v, .cons ⟨h1, h3⟩ t, nd, h => by
    simp only [List.getElem?_cons_zero, Option.some.injEq] at h
    subst h
    exact valV_pos rfl
  | kv :: _, e :: _, j + 1, k, v, .cons ⟨h1, h3⟩ t, nd, h => by
    simp only [List.getElem?_cons_succ] at h
    obtain ⟨n1, n2⟩ := List.nodup_cons.mp (show (e.1 :: MG.keysA _).Nodup from nd)
    rw [valV_neg (fun z => ?_)]
    · exact kvm_at t n2 h
    · obtain ⟨f, hf, hk, hf2⟩ := paired_at t h
      have : e.1 = f.1 := encI_inj (h1.symm.trans (z.trans hk))
      exact n1 (by rw [this]; exact List.mem_map.mpr ⟨f, List.mem_of_getElem? hf, rfl⟩)
end
theorem ntp_dt {kvs : List (List Key × V)} : ¬ IsTp (.dT kvs) := fun h => by rcases h with ⟨_, z⟩ | ⟨_, _, z⟩ <;> cases z
theorem ntp_frt {o : Obj} {kvs : List (List Key × V)} : ¬ IsTp (.frz o (.dT kvs)) := fun h => by rcases h with ⟨_, z⟩ | ⟨_, _, z⟩ <;> cases z
theorem tab_upd {H : Hp} {d p : Addr} {u o : HO} (hd : H d = some u) (n : ∀ ps, u ≠ .tbl ps) (h : GxR.TabG H p) : GxR.TabG (upd H d o) p := by
  obtain ⟨ts, h1, h2⟩ := h
  exact ⟨ts, by rw [upd_ne (fun z => by rw [z, hd] at h1; exact n _ (Option.some.inj h1))]; exact h1, h2⟩
theorem upd_swap {H : Hp} {a b : Addr} {x y : HO} (h : a ≠ b) : upd (upd H a x) b y = upd (upd H b y) a x := by
  funext c
  by_cases h1 : c = b
  · subst h1
    rw [upd_same, upd_ne (Ne.symm h), upd_same]
  · rw [upd_ne h1]
    by_cases h2 : c = a
    · subst h2
      rw [upd_same, upd_same]
    · rw [upd_ne h2, upd_ne h2, upd_ne h1]
theorem nrm_add (x y : CP) : nrm (cpS.add x y) ≤ nrm x + nrm y := Nat.le_trans (PM.norm_canon _) (by rw [PM.norm_append]; exact Nat.le_refl _)
theorem nrm_zero : nrm cpS.zero = 0 := rfl
theorem nrm_mul (x y : CP) : nrm (cpS.mul x y) ≤ nrm x * nrm y := Nat.le_trans (PM.norm_canon _) (by rw [PM.norm_mul]; exact Nat.le_refl _)
def TN (T : List (List Int × CP)) : Nat := (T.map fun p => nrm p.2).sum
theorem TN_cons (p : List Int × CP) (T : List (List Int × CP)) : TN (p :: T) = nrm p.2 + TN T := by
  unfold TN
  rw [List.map_cons, List.sum_cons]
theorem TN_app (a b : List (List Int × CP)) : TN (a ++ b) = TN a + TN b := by
  unfold TN
  rw [List.map_append, List.sum_append]
theorem TN_get (m : List Int) : ∀ g : List (List Int × CP), nrm (MG.getA cpS g m) ≤ TN g
  | [] => Nat.le_refl _
  | p :: g => by
    rw [MG.get_cons, TN_cons]
    have := TN_get m g
    split <;> omega
theorem TN_map {m : List Int} {x : CP} : ∀ {g : List (List Int × CP)}, (MG.keysA g).Nodup → m ∈ MG.keysA g → TN (g.map fun p => if p.1 = m then (p.1, x) else p) + nrm (MG.getA cpS g m) = TN g + nrm x
  | [], _, h => absurd h List.not_mem_nil
  | p :: g, nd, h => by
    obtain ⟨n1, n2⟩ := List.nodup_cons.mp (show (p.1 :: MG.keysA g).Nodup from nd)
    rw [List.map_cons, TN_cons, TN_cons, MG.get_cons]
    by_cases e : p.1 = m
    · rw [if_pos e, if_pos e]
      have : (g.map fun p => if p.1 = m then (p.1, x) else p) = g := by
        refine (List.map_congr_left fun q mq => ?_).trans (List.map_id g)
        rw [if_neg fun z => n1 (by rw [e, ← z]; exact List.mem_map.mpr ⟨q, mq, rfl⟩)]
        rfl
      rw [this]
      show nrm x + TN g + nrm p.2 = nrm p.2 + TN g + nrm x
      omega
    · rw [if_neg e, if_neg e]
      have := TN_map (x := x) n2 ((List.mem_cons.mp (show m ∈ p.1 :: MG.keysA g from h)).resolve_left fun z => e z.symm)
      omega
theorem TN_put {g : List (List Int × CP)} (nd : (MG.keysA g).Nodup) (m : List Int) (y : CP) : TN (MG.addA cpS g m y) ≤ TN g + nrm y := by
  have ha := nrm_add (MG.getA cpS g m) y
  unfold MG.addA MG.putA
  by_cases h : m ∈ MG.keysA g
  · have hany : (g.any fun p => decide (p.1 = m)) = true := by
      obtain ⟨p, mp, e⟩ := List.mem_map.mp h
      exact List.any_eq_true.mpr ⟨p, mp, decide_eq_true e⟩
    rw [if_pos hany]
    have := TN_map (x := cpS.add (MG.getA cpS g m) y) nd h
    omega
  · have hany : ¬ (g.any fun p => decide (p.1 = m)) = true := fun z => by
      obtain ⟨p, mp, e⟩ := List.any_eq_true.mp z
      exact h (List.mem_map.mpr ⟨p, mp, of_decide_eq_true e⟩)
    rw [if_neg hany, TN_app]
    have e1 : TN [(m, cpS.add (MG.getA cpS g m) y)] = nrm (cpS.add (MG.getA cpS g m) y) + 0 := TN_cons _ _
    rw [MG.get_none cpS h] at e1 ha ⊢
    rw [nrm_zero] at ha
    omega
theorem add_nodup {g : List (List Int × CP)} (nd : (MG.keysA g).Nodup) (m : List Int) (y : CP) : (MG.keysA (MG.addA cpS g m y)).Nodup := MG.nodup_put nd _ _
theorem add_len (g : List (List Int × CP)) (m : List Int) (y : CP) : (MG.addA cpS g m y).length ≤ g.length + 1 := by
  unfold MG.addA MG.putA
  split
  · rw [List.length_map]
    omega
  · rw [List.length_append]
    exact Nat.le_refl _
theorem TN_take (T : List (List Int × CP)) (i : Nat) : TN (T.take i) ≤ TN T := by
  conv => rhs; rw [← List.take_append_drop i T]
  rw [TN_app]
  omega
/-! ### sizes of a carried table -/
theorem c1_size (st : FSt) (p : List Int × CP) {g : List (List Int × CP)} (nd : (MG.keysA g).Nodup) (s : Int) : (MG.keysA (c1F cpS monC st p g s)).Nodup ∧ TN (c1F cpS monC st p g s) ≤ TN g + nrm p.2 ∧ (c1F cpS monC st p g s).length ≤ g.length + 1 :=
  ⟨add_nodup nd _ _, Nat.le_trans (TN_put nd _ _) (Nat.add_le_add_left (nrm_mulM _ _ _) _), add_len _ _ _⟩
theorem c2_size (st : FSt) (p : List Int × CP) {g : List (List Int × CP)} (nd : (MG.keysA g).Nodup) : (MG.keysA (c2F cpS monC st g p)).Nodup ∧ TN (c2F cpS monC st g p) ≤ TN g + 2 * nrm p.2 ∧ (c2F cpS monC st g p).length ≤ g.length + 2 := by
  obtain ⟨a, b, c⟩ := c1_size st p nd 0
  obtain ⟨a2, b2, c2⟩ := c1_size st p a 1
  unfold c2F
  exact ⟨a2, by omega, by omega⟩
theorem cgo_size (st : FSt) : ∀ (T g : List (List Int × CP)), (MG.keysA g).Nodup → (MG.keysA (T.foldl (c2F cpS monC st) g)).Nodup ∧ TN (T.foldl (c2F cpS monC st) g) ≤ TN g + 2 * TN T ∧ (T.foldl (c2F cpS monC st) g).length ≤ g.length + 2 * T.length
  | [], g, nd => ⟨nd, Nat.le_add_right _ _, Nat.le_add_right _ _⟩
  | p :: T, g, nd => by
    obtain ⟨a, b, c⟩ := c2_size st p nd
    obtain ⟨a2, b2, c2⟩ := cgo_size st T _ a
    rw [List.foldl_cons, TN_cons, List.length_cons]
    exact ⟨a2, by omega, by omega⟩
theorem run_size : ∀ (sts : List FSt) (T : List (List Int × CP)), (MG.keysA T).Nodup → (MG.keysA (runF cpS monC sts T)).Nodup ∧ TN (runF cpS monC sts T) ≤ 2 ^ sts.length * TN T ∧ (runF cpS monC sts T).length ≤ 2 ^ sts.length * T.length
  | [], T, nd => ⟨nd, by show TN T ≤ 1 * TN T; omega, by show T.length ≤ 1 * T.length; omega⟩
  | st :: r, T, nd => by
    obtain ⟨a, b, c⟩ := cgo_size st T [] (by simp [MG.keysA])
    obtain ⟨a2, b2, c2⟩ := run_size r _ a
    have e0 : TN [] = 0 := rfl
    rw [e0, Nat.zero_add] at b
    rw [List.length_nil, Nat.zero_add] at c
    refine ⟨a2, Nat.le_trans b2 ?_, Nat.le_trans c2 ?_⟩
    · rw [List.length_cons, Nat.pow_succ, Nat.mul_assoc]
      exact Nat.mul_le_mul_left _ b
    · rw [List.length_cons, Nat.pow_succ, Nat.mul_assoc]
      exact Nat.mul_le_mul_left _ c
/-! ### carried -/
theorem op_notIn_K {X : Cx} {K : PySem.W.Frag} (hK : X.K = K) : OpR X (compareOp .NotIn) (rIn K true) := by
  subst hK
  exact op_notIn_seq
theorem atI_fs {st : List Int} {i : Int} (h0 : 0 ≤ i) (h1 : i < st.length) : atI (st.map V.int) i = some (.int (st.getD i.toNat 0)) := by
  obtain ⟨k, rfl⟩ := Int.eq_ofNat_of_zero_le h0
  have hk : k < st.length := by omega
  refine atI_nat (j := k) ?_
  rw [List.getElem?_map, Int.toNat_natCast, List.getD_eq_getElem?_getD, List.getElem?_eq_getElem hk]
  rfl
theorem in_long {z : Int} (h : -1000 ≤ z ∧ z ≤ 1000) : InLong z := by
  unfold InLong
  omega
def stV (l : List Nat) : List V := l.map fun p => V.int ((p : Nat) : Int)
/-- what was new behind H1 stays -/
def NK (HB H1 HA : Hp) : Prop := ∀ a u, HB a = none → H1 a = some u → (∀ ps, u ≠ .tbl ps) → HA a = some u
theorem NK.up {HB H1 HA H' : Hp} (h : NK HB H1 HA) (s : Ext HA H') : NK HB H1 H' := fun a u n e t => s.keep _ _ (h a u n e t) t
theorem NK.set {HB H1 HA : Hp} {fd : Addr} {o : HO} (h : NK HB H1 HA) (n : HB fd ≠ none ∨ ∀ u, H1 fd = some u → ∃ ps, u = .tbl ps) : NK HB H1 (upd HA fd o) := fun a u ha e t => by
  rw [upd_ne (fun z => by
    subst z
    rcases n with n | n
    · exact n ha
    · obtain ⟨ps, z⟩ := n u e
      exact t ps z)]
  exact h a u ha e t
theorem tg_lockT {T : Top K mg} {H : Hp} {d : Addr} {u o : HO} (G : Tg T H) (hd : H d = some u) (n : ∀ ps, u ≠ .tbl ps) : Tg T (upd H d o) :=
  ⟨tab_upd hd n G.t_in_order, tab_upd hd n G.t_carried, tab_upd hd n G.t_Spins_init, tab_upd hd n G.t_check_fields⟩
theorem dec_in {v : Int} : ∀ {xs : List Int}, inV (.int v) (xs.map V.int) = decide (v ∈ xs)
  | [] => rfl
  | x :: xs => by
    have ih := dec_in (v := v) (xs := xs)
    unfold inV at ih ⊢
    rw [List.map_cons, List.any_cons, ih]
    show ((x == v) || decide (v ∈ xs)) = _
    by_cases h : x = v
    · subst h
      simp
    · have h2 : (x == v) = false := by simpa using h
      rw [h2, Bool.false_or]
      exact decide_eq_decide.mpr ⟨fun m => List.mem_cons_of_mem _ m, fun m => (List.mem_cons.mp m).resolve_left fun z => h z.symm⟩
def spCar (T : Top K mg) : Sp := fun vs H Q _ => ∃ (p oa : Addr) (v0 : V) (fs : List Int) (es : List Eg) (os : List Int), vs = [.ref p, .ref oa, v0, .ref T.f_times_spin, .ref T.f_plus] ∧ SpAt T H p fs es ∧ Sq K H oa (os.map V.int) ∧ isOrd fs.length os ∧ fs.length ≤ 8 ∧ (cqA K).Val H v0 cpS.one ∧ Tg T H ∧
  ∀ v H', Ext H H' → (cqA K).Val H' v (WF cpS monC (fstsO fs os es) []) → Q v H'
theorem stay_ext {Q : Nat → Prop} [DecidablePred Q] {len N : Nat} (h : len ≤ N) : ((List.range N).filter fun p => decide (p < len ∧ Q p)) = (List.range len).filter fun p => decide (p < len ∧ Q p) := by
  obtain ⟨d, rfl⟩ : ∃ d, N = len + d := ⟨N - len, by omega⟩
  rw [List.range_add, List.filter_append]
  have : (((List.range d).map fun x => len + x).filter fun p => decide (p < len ∧ Q p)) = [] := by
    refine List.filter_eq_nil_iff.mpr fun p mp z => ?_
    obtain ⟨x, _, rfl⟩ := List.mem_map.mp mp
    have := (of_decide_eq_true z).1
    omega
  rw [this, List.append_nil]
theorem eval_via {te : TE} {σ : L2.St} {H : Hp} {Q : VK} (P : V → Hp → Prop) (h1 : ∀ Q' : VK, (∀ v H', P v H' → Q' v H') → te σ H Q') (h2 : ∀ v H', P v H' → Q v H') : te σ H Q := h1 Q h2
theorem st_catI {H : Hp} {Q : VK} {a b : Addr} {s : List Int} {z : Int} (h1 : SqT K H a (s.map V.int)) (h2 : H b = some (.tup [V.int z])) (hl : s.length ≤ 100)
    (q : ∀ c H', Ext H H' → SqT K H' c ((s ++ [z]).map V.int) → Q (.ref c) H') : rCatA K (.ref a) (.ref b) H Q := by
  refine ⟨a, b, s.map V.int, [V.int z], rfl, rfl, h1, SqT.of h2, sl_of (by rw [List.length_map]; simp only [List.length_cons, List.length_nil]; omega), fun e => ?_, fun _ e => (nomatch e), fun _ _ p hp => ?_⟩
  · have e0 : s = [] := List.map_eq_nil_iff.mp e
    subst e0
    exact q _ _ (Ext.refl H) (SqT.of h2)
  · refine q _ _ (ext_upd hp) ?_
    rw [List.map_append]
    exact SqT.of upd_same
theorem put_ne {l : List (List Int × CP)} {m : List Int} {x : CP} : m ∈ MG.keysA (MG.putA l m x) := by
  rw [MG.keys_put]
  split
  · assumption
  · exact List.mem_append_right _ List.mem_cons_self
theorem c2_ne (st : FSt) : ∀ (T g : List (List Int × CP)), T ≠ [] ∨ g ≠ [] → T.foldl (c2F cpS monC st) g ≠ []
  | [], g, h => h.resolve_left fun z => z rfl
  | p :: T, g, _ => c2_ne st T _ (.inr fun z => by
    have h : tgtF st p.1 1 ∈ MG.keysA (c2F cpS monC st g p) := put_ne
    rw [z] at h
    exact absurd h List.not_mem_nil)
theorem run_ne : ∀ (sts : List FSt) (T : List (List Int × CP)), T ≠ [] → runF cpS monC sts T ≠ []
  | [], T, h => h
  | st :: r, T, h => run_ne r _ (c2_ne st T [] (.inl h))
/-- the end's table has the empty key alone -/
theorem run_last {fs os : List Int} {es : List Eg} (hn : os.Nodup) (hoe : ∀ e ∈ prsOf es, e.1 ∈ os ∧ e.2 ∈ os) (h1 : 1 ≤ os.length) : MG.getA cpS (runF cpS monC (fstsO fs os es) [([], cpS.one)]) [] = WF cpS monC (fstsO fs os es) [] ∧ [] ∈ MG.keysA (runF cpS monC (fstsO fs os es) [([], cpS.one)]) := by
  obtain ⟨n, hl⟩ : ∃ n, os.length = n + 1 := ⟨os.length - 1, by omega⟩
  have lst : (fstsO fs os es).length = os.length := List.length_mapIdx
  have hv := List.getElem?_eq_getElem (show n < os.length by omega)
  have hs : (fstsO fs os es)[n]? = some (fstO fs os es n os[n]) := by rw [fsts_at, hv]; rfl
  have hst : (fstO fs os es n os[n]).stay = [] := stay_last hn hoe hv (by omega)
  have e : fstsO fs os es = (fstsO fs os es).take n ++ [fstO fs os es n os[n]] := by
    rw [← take_snoc hs, List.take_of_length_le (by omega)]
  rw [e]
  refine ⟨run_end cpS monC hst, ?_⟩
  rw [runF_snoc]
  have hne := c2_ne (fstO fs os es n os[n]) (runF cpS monC ((fstsO fs os es).take n) [([], cpS.one)]) [] (.inl (run_ne _ _ (by simp)))
  have hk := keys_c2 cpS monC (P := fun k => k = []) (fstO fs os es n os[n]) (fun k s => by unfold tgtF; rw [hst]; rfl) (runF cpS monC ((fstsO fs os es).take n) [([], cpS.one)]) [] (fun k m => absurd m List.not_mem_nil)
  unfold cStF
  generalize (runF cpS monC ((fstsO fs os es).take n) [([], cpS.one)]).foldl (c2F cpS monC (fstO fs os es n os[n])) [] = R at *
  cases R with
  | nil => exact absurd rfl hne
  | cons q R =>
    have := hk q.1 List.mem_cons_self
    rw [← this]
    exact List.mem_cons_self
theorem TN_mem {p : List Int × CP} : ∀ {L : List (List Int × CP)}, p ∈ L → nrm p.2 ≤ TN L
  | [], h => absurd h List.not_mem_nil
  | q :: L, h => by
    rw [TN_cons]
    rcases List.mem_cons.mp h with e | m
    · rw [e]
      omega
    · have := TN_mem m
      omega
theorem filt_sum {β : Type} (Q : β → Prop) [DecidablePred Q] (f : β → Int) : ∀ l : List β, ((l.filter fun x => decide (Q x)).map f).sum = (l.map fun x => if Q x then f x else 0).sum
  | [] => rfl
  | x :: l => by
    have ih := filt_sum Q f l
    by_cases h : Q x
    · rw [List.filter_cons_of_pos (by exact decide_eq_true h), List.map_cons, List.map_cons, List.sum_cons, List.sum_cons, if_pos h, ih]
    · rw [List.filter_cons_of_neg (by rw [decide_eq_false h]; decide), List.map_cons, List.sum_cons, if_neg h, ih]
      omega
theorem run_keys {fs os : List Int} {es : List Eg} (hn : os.Nodup) : ∀ i ≤ os.length, ∀ k ∈ MG.keysA (runF cpS monC ((fstsO fs os es).take i) [([], cpS.one)]), k.length = (FvO os (prsOf es) i).length
  | 0, _, k, m => by
    have m : k ∈ [([] : List Int)] := m
    rw [List.mem_singleton.mp m]
    rfl
  | i + 1, hi, k, m => by
    have hv := List.getElem?_eq_getElem (show i < os.length by omega)
    have hs : (fstsO fs os es)[i]? = some (fstO fs os es i os[i]) := by rw [fsts_at, hv]; rfl
    rw [take_snoc hs, runF_snoc] at m
    refine keys_c2 cpS monC (P := fun k => k.length = (FvO os (prsOf es) (i + 1)).length) (fstO fs os es i os[i]) (fun k s => ?_) _ [] (fun k m => absurd m List.not_mem_nil) k m
    show ((stayO os (prsOf es) i os[i]).map _).length = _
    have h1 := stay_map (fun _ : Int => (0 : Int)) 0 (fun w => lvF os (prsOf es) w ≠ (i : Int)) (l := FvO os (prsOf es) i ++ [os[i]]) (N := i + 1) (by rw [List.length_append, List.length_singleton]; have := fv_len os (prsOf es) i; omega)
    have h2 := congrArg List.length h1
    rw [List.length_map, List.length_map, ← fv_succ hn (prsOf es) hv] at h2
    rw [List.length_map]
    exact h2
theorem ok_carried (T : Top K mg) (B : Tb T base) : FnOk P w K mg base CX0 5 T.f_carried T.d_carried ["spins", "order", "start", "pay", "merge"] (spCar T) := by
  refine T.F_carried.ok sc_carried (fun vs H Q E h => ?_) (fun A outer s H vs Q E hr h => ?_)
  · obtain ⟨p, oa, v0, fs, es, os, rfl, _⟩ := h
    rfl
  obtain ⟨p, oa, v0, fs, es, os, rfl, hp, ho, hord, l8, hv0, G, q⟩ := h
  refine ⟨_, (pss_cons (ps_set (i := 5) sc_carried.nd rfl (by first | exact .inl rfl | exact .inr rfl) (pe_dispT (hu_of hr) (pe_tup pa_nil) (pv 2)))
      (pss_cons (ps_set (i := 6) sc_carried.nd rfl (by first | exact .inl rfl | exact .inr rfl) (pe_lst pa_nil))
      (pss_cons (ps_for PassesOwn.never rfl (pi_list (pe_call (ok_steps_along T) (hr.mono (by decide)) (by rfl) T.g_steps_along T.F_steps_along.kp T.b_steps_along .nil pass0 (pa_cons (pe_fld (pv 0) rfl) (pa_cons (pv 1) pa_nil)))) (pg_tup rfl (pgs_cons (pg_name (i := 7) sc_carried.nd rfl (by first | exact .inl rfl | exact .inr rfl)) (pgs_cons (pg_name (i := 8) sc_carried.nd rfl (by first | exact .inl rfl | exact .inr rfl)) (pgs_cons (pg_name (i := 9) sc_carried.nd rfl (by first | exact .inl rfl | exact .inr rfl)) pgs_nil)))) (pss_cons (ps_set (i := 10) sc_carried.nd rfl (by first | exact .inl rfl | exact .inr rfl) (pe_call (ok_links T) (hr.mono (by decide)) (by rfl) T.g_links T.F_links.kp T.b_links .nil pass0 (pa_cons (pv 0) (pa_cons (pv 6) (pa_cons (pv 7) (pa_cons (pv 8) pa_nil))))))
      (pss_cons (ps_expr (pe_bm PySem.F.plainAttrs_list PySem.F.slot_list_append PySem.F.type_list_append mt_append (pv 6) (pa_cons (pv 7) pa_nil)))
      (pss_cons (ps_setLc (i := 11) (own := [("place", 12), ("other", 13)]) (g := gTup K 2 (gCons (gName 12) (gCons (gName 13) gNil))) rfl sc_carried.nd rfl rfl (sw_true rfl rfl rfl (by decide +kernel)) (pi_enumS rfl (by rfl) T.m_enumerate (pa_cons (pv 6) pa_nil)) (blkOk_by (own := [("place", 12), ("other", 13)]) (N := n_carried) (sc := defScope s_carried) (by decide +kernel)) (fun _ _ _ _ _ => (pg_tup rfl (pgs_cons (pg_name (i := 12) sc_carried.nd rfl (by first | exact .inl rfl | exact .inr rfl)) (pgs_cons (pg_name (i := 13) sc_carried.nd rfl (by first | exact .inl rfl | exact .inr rfl)) pgs_nil)))) (fun _ _ _ _ _ => pts_one (pt_cmpR (op_notIn_K (K := K) rfl) (pv 13) (pv 9) (by rfl))) (fun _ _ _ _ _ => (pv 12)))
      (pss_cons (ps_set (i := 14) sc_carried.nd rfl (by first | exact .inl rfl | exact .inr rfl) pe_dnewT)
      (pss_cons (ps_lock (ps_for PassesOwn.never rfl (pi_keys (pv 5)) (pg_name (i := 15) sc_carried.nd rfl (by first | exact .inl rfl | exact .inr rfl)) (pss_one (ps_for PassesOwn.never rfl (pi_tup (pe_tup (pa_cons pe_int (pa_cons pe_int pa_nil)))) (pg_name (i := 16) sc_carried.nd rfl (by first | exact .inl rfl | exact .inr rfl)) (pss_cons (ps_set (i := 17) sc_carried.nd rfl (by first | exact .inl rfl | exact .inr rfl) (pe_op op_add (pe_op op_mul (pv 16) (pe_ix ix_tup (pe_fld (pv 0) rfl) (pv 7) (fun _ _ => rfl))) (GXP.pe_sumGx (own := [("place", 12), ("j", 18)]) (g := gTup K 2 (gCons (gName 12) (gCons (gName 18) gNil))) (k := 0) (c := T.c_carried) (P := T.P_carried) (by rfl) T.m_sum ⟨hr.mono (by decide), rfl, B.t_carried, rfl, rfl, blkOk_by (own := [("place", 12), ("j", 18)]) (N := n_carried) (sc := defScope s_carried) (by decide +kernel), sc_carried.nd, by decide +kernel, rfl, (pi_list (pv 10)), fun A s H C cl code bi fp hrA => (pg_tup rfl (pgs_cons (pg_name (i := 12) sc_carried.nd rfl (by first | exact .inl rfl | exact .inr rfl)) (pgs_cons (pg_name (i := 18) sc_carried.nd rfl (by first | exact .inl rfl | exact .inr rfl)) pgs_nil))), fun A s H C cl code bi fp hrA => (pts_one (pt_cmpR op_ne (pe_ix (r := rIxT K) ix_tup (pv 15) (pv 12) (fun _ _ => rfl)) (pv 16) (nomark _))), fun A s H C cl code bi fp hrA => (pv 18), fun _ => rfl⟩)))
      (pss_cons (ps_set (i := 19) sc_carried.nd rfl (by first | exact .inl rfl | exact .inr rfl) (pe_callL (i := 3) (ok_times_spin T B) (hr.mono (by decide)) rfl (Or.inl rfl) T.F_times_spin.kp T.b_times_spin .nil pass0 (pa_cons (pe_dget (hu_of hr) (pv 5) (pv 15) (fun _ _ => rfl)) (pa_cons (pv 7) (pa_cons (pv 16) (pa_cons (pv 17) pa_nil))))))
      (pss_cons (ps_set (i := 20) sc_carried.nd rfl (by first | exact .inl rfl | exact .inr rfl) (pe_op op_catA (pv 15) (pe_tup (pa_cons (pv 16) pa_nil))))
      (pss_cons (ps_set (i := 21) sc_carried.nd rfl (by first | exact .inl rfl | exact .inr rfl) (GXP.pe_tupleGx (own := [("place", 12)]) (g := gName 12) (tt := tYes) (k := 0) (c := T.c_carried) (P := T.P_carried) (by rfl) T.m_tuple ⟨hr.mono (by decide), rfl, B.t_carried, rfl, rfl, blkOk_by (own := [("place", 12)]) (N := n_carried) (sc := defScope s_carried) (by decide +kernel), sc_carried.nd, by decide +kernel, rfl, (pi_list (pv 11)), fun A s H C cl code bi fp hrA => (pg_name (i := 12) sc_carried.nd rfl (by first | exact .inl rfl | exact .inr rfl)), fun A s H C cl code bi fp hrA => pts_nil, fun A s H C cl code bi fp hrA => (pe_ix (r := rIxT K) ix_tup (pv 20) (pv 12) (fun _ _ => rfl)), fun _ => rfl⟩))
      (pss_one (ps_dput (hu_of hr) (pv 14) (pv 21) (pe_ifExp (pt_cmp (pc_din (hu_of hr) (pv 21) (pv 14))) (pe_callL (i := 4) (ok_plus T B) (hr.mono (by decide)) rfl (Or.inl rfl) T.F_plus.kp T.b_plus .nil pass0 (pa_cons (pe_dget (hu_of hr) (pv 14) (pv 21) (fun _ _ => rfl)) (pa_cons (pv 19) pa_nil))) (pv 19)) rfl))))))))))
      (pss_cons (ps_set (i := 5) sc_carried.nd rfl (by first | exact .inl rfl | exact .inr rfl) (pv 14))
      (pss_one (ps_set (i := 6) sc_carried.nd rfl (by first | exact .inl rfl | exact .inr rfl) (pe_lc (own := [("place", 12)]) (g := gName 12) (tt := tYes) rfl sc_carried.nd (pi_list (pv 11)) (blkOk_by (own := [("place", 12)]) (N := n_carried) (sc := defScope s_carried) (by decide +kernel)) (fun _ _ _ _ _ => (pg_name (i := 12) sc_carried.nd rfl (by first | exact .inl rfl | exact .inr rfl))) (fun _ _ _ _ _ => pts_nil) (fun _ _ _ _ _ => (pe_ix (r := rIxL K) ix_list (pv 6) (pv 12) (fun _ _ => rfl)))))))))))))
      (pss_one (ps_ret (pe_dget (hu_of hr) (pv 5) (pe_tup pa_nil) (fun _ _ => rfl))))))), ?_⟩
  have hp0 := hp
  obtain ⟨gf, ge, dx, fb, eb, ys, h1, h2, h3, h4⟩ := hp
  have hn := isOrd_nodup hord
  have hom : ∀ v, v ∈ os ↔ 0 ≤ v ∧ v < fs.length := fun v => (List.Perm.mem_iff hord).trans mem_rng
  have hol : os.length = fs.length := (List.Perm.length_eq hord).trans (rng_len _)
  have hin := inR_of ge
  have hoe : ∀ e ∈ prsOf es, e.1 ∈ os ∧ e.2 ∈ os := fun e m => by
    obtain ⟨a1, a2, a3, a4, _⟩ := hin e m
    exact ⟨(hom _).mpr ⟨a1, a2⟩, (hom _).mpr ⟨a3, a4⟩⟩
  have le24 := ge.1
  have lpr : (prsOf es).length = es.length := List.length_map _
  have lpe : (prsOf es).length < 1000000 := by omega
  refine fun d0 hd0 => ?_
  have x0 := ext_upd (o := .dT []) hd0
  have k0 : upd H d0 (.dT []) d0 = some (.dT []) := upd_same
  generalize upd H d0 (.dT []) = H0 at *
  refine ⟨by rw [sizeLine_eq]; simp, fun kt hkt => ?_⟩
  have x1 := ext_upd (o := .tup []) hkt
  have k1 : upd H0 kt (.tup []) kt = some (.tup []) := upd_same
  generalize upd H0 kt (.tup []) = H1 at *
  refine ⟨_, rfl, x1.keep _ _ k0 (fun _ z => by cases z), kt, [], rfl, k1, ?_⟩
  have s2 : Ext H (upd H1 d0 (.dT [([], v0)])) := (x0.trans x1).own hd0
  have k2 : upd H1 d0 (.dT [([], v0)]) d0 = some (.dT [([], v0)]) := upd_same
  have T0 : KvsM (cqA K) (upd H1 d0 (.dT [([], v0)])) [([], v0)] [([], cpS.one)] := .cons ⟨rfl, (cqA K).keep s2.kp hv0⟩ .nil
  generalize upd H1 d0 (.dT [([], v0)]) = H2 at *
  refine ⟨by rw [sizeLine_eq]; simp, fun l0 hl0 => ?_⟩
  have x3 := ext_upd (o := .lst []) hl0
  have k3 : upd H2 l0 (.lst []) l0 = some (.lst []) := upd_same
  have k2' := x3.keep _ _ k2 (fun _ z => by cases z)
  have T0' := T0.kp x3.kp
  have s3 := s2.trans x3
  have nl0 := s2.free hl0
  generalize upd H2 l0 (.lst []) = HB at *
  have s3a := s3.sq ho
  refine ⟨_, rfl, p, T.C_Spins, dx, _, .ref eb, rfl, s3.keep _ _ h1 (fun _ z => by cases z), T.cl_Spins, T.na_Spins_edges, rfl, _, rfl, eb, oa, ys, prsOf es, os, rfl, s3.tup h3, edgeU_of (s3.edges h4), s3a, hn, hoe, lpe, by omega, fun bl HS ys2 sS nb hbl hst => ?_⟩
  have ls : (stepsOf os (prsOf es)).length = os.length := List.length_mapIdx
  have lys := hst.length
  rw [ls] at lys
  have lst : (fstsO fs os es).length = os.length := List.length_mapIdx
  refine ⟨bl, rfl, ⟨_, SqL.of hbl⟩, for_list (xs := ys2) (fun i σ HA => ∃ td fd kvs z7 z8 z9 z10 z11 z12 z13 z14 z15 z16 z17 z18 z19 z20 z21, σ = [some (.ref p), some (.ref oa), some v0, some (.ref T.f_times_spin), some (.ref T.f_plus), some (.ref td), some (.ref fd), z7, z8, z9, z10, z11, z12, z13, z14, z15, z16, z17, z18, z19, z20, z21] ∧ Ext H HA ∧ Keep HS HA ∧ NK HB HS HA ∧ (HB fd ≠ none ∨ ∀ u, HS fd = some u → ∃ ps, u = HO.tbl ps) ∧ H td = none ∧ H fd = none ∧ HA td = some (.dT kvs) ∧ KvsM (cqA K) HA kvs (runF cpS monC ((fstsO fs os es).take i) [([], cpS.one)]) ∧ HA fd = some (.lst ((FvO os (prsOf es) i).map V.int)))
    ⟨d0, l0, _, _, _, _, _, _, _, _, _, _, _, _, _, _, _, _, rfl, s3.trans sS, Keep.refl _, fun a u n e t => e, .inl (by rw [k3]; exact fun z => nomatch z), hd0, nl0, sS.keep _ _ k2' (fun _ z => by cases z), T0'.kp sS.kp, sS.lst k3⟩ (fun i σ HA _ h => ?_) (fun i x σ HA hi hP => ?_) (fun σ HA hP => ?_)⟩
  · obtain ⟨_, _, _, _, _, _, _, _, _, _, _, _, _, _, _, _, _, _, _, _, _, nk, _⟩ := h
    exact SqL.of (nk _ _ nb hbl (fun _ z => by cases z))
  · obtain ⟨td, fd, kvs, z7, z8, z9, z10, z11, z12, z13, z14, z15, z16, z17, z18, z19, z20, z21, rfl, sA, kA, nk, nfd, ntd, nfd0, htd, hkv, hfd⟩ := hP
    obtain ⟨stp, hsi, a, b, c, rfl, ha, hb, hc, fb0, fc0⟩ := paired_at hst hi
    have hil : i < os.length := by
      have := (List.getElem?_eq_some_iff.mp hi).1
      omega
    obtain ⟨v, hv⟩ : ∃ v, os[i]? = some v := ⟨_, List.getElem?_eq_getElem hil⟩
    have e1 : stp = stepOf os (prsOf es) i v := by
      unfold stepsOf at hsi
      rw [List.getElem?_mapIdx, hv] at hsi
      exact (Option.some.inj hsi).symm
    subst e1
    have hst1 : (fstsO fs os es)[i]? = some (fstO fs os es i v) := by rw [fsts_at, hv]; rfl
    have haA : HA a = some (.tup [.int v, .ref b, .ref c]) := kA _ _ ha (.inl ⟨_, rfl⟩)
    have hbA : HA b = some (.lst ((backs os (prsOf es) v).map V.int)) := nk _ _ fb0 hb (fun _ z => by cases z)
    have hcA : HA c = some (.lst ((os.filter fun w => decide (lvF os (prsOf es) w = (i : Int))).map V.int)) := nk _ _ fc0 hc (fun _ z => by cases z)
    have hvr := (hom v).mp (List.mem_of_getElem? hv)
    refine ⟨a, _, rfl, SqT.of haA, rfl, _, _, rfl, _, _, rfl, _, _, rfl, rfl, ?_⟩
    dsimp only [gName]
    have lF := fv_len os (prsOf es) i
    have lbk := backs_len os (prsOf es) v
    have hFin : ∀ w ∈ FvO os (prsOf es) i, w ∈ os := fun w m => List.mem_of_mem_take (List.mem_filter.mp m).1
    refine ⟨_, rfl, _, rfl, _, rfl, _, rfl, p, fd, b, fs, es, FvO os (prsOf es) i, backs os (prsOf es) v, v, rfl, hp0.up sA, hfd, hbA, by omega, fun k mk => ?_, fun lk H2 lxs s2 nlk hlk hlx => ?_⟩
    · obtain ⟨b1, _, _⟩ := back_ends hn hin hoe hv mk
      obtain ⟨j, e, g1, rfl, _⟩ := mem_backs.mp mk
      have := (List.getElem?_eq_some_iff.mp g1).1
      exact ⟨by omega, by omega, b1⟩
    dsimp only [gName]
    have hfd2 := s2.lst hfd
    refine ⟨_, rfl, .inl ⟨rfl, _, SqL.of hfd2⟩, _, rfl, fd, _, _, rfl, rfl, hfd2, sl_lt (by rw [List.length_map]; omega), ?_⟩
    have ntf : td ≠ fd := fun z => by
      rw [z, hfd] at htd
      cases htd
    have nlf : lk ≠ fd := fun z => by
      rw [z, hfd] at nlk
      cases nlk
    have sA3 : Ext H (upd H2 fd (.lst ((FvO os (prsOf es) i).map V.int ++ [V.int v]))) := (sA.trans s2).own nfd0
    have kH : Keep HA (upd H2 fd (.lst ((FvO os (prsOf es) i).map V.int ++ [V.int v]))) := s2.kp.trans (keep_upd hfd2 ntp_lst)
    have nk3 : NK HB HS (upd H2 fd (.lst ((FvO os (prsOf es) i).map V.int ++ [V.int v]))) := (nk.up s2).set nfd
    have htd3 : upd H2 fd (.lst ((FvO os (prsOf es) i).map V.int ++ [V.int v])) td = some (.dT kvs) := by
      rw [upd_ne ntf]
      exact s2.keep _ _ htd (fun _ z => by cases z)
    have hlk3 : upd H2 fd (.lst ((FvO os (prsOf es) i).map V.int ++ [V.int v])) lk = some (.lst lxs) := by
      rw [upd_ne nlf]
      exact hlk
    have hlx3 := lk_lst (o := .lst ((FvO os (prsOf es) i).map V.int ++ [V.int v])) hfd2 hlx
    have hkv3 := hkv.kp kH
    have kA3 := kA.trans kH
    have hfd3 : upd H2 fd (.lst ((FvO os (prsOf es) i).map V.int ++ [V.int v])) fd = some (.lst ((FvO os (prsOf es) i ++ [v]).map V.int)) := by
      rw [upd_same, List.map_append]
      rfl
    generalize upd H2 fd (.lst ((FvO os (prsOf es) i).map V.int ++ [V.int v])) = H3 at *
    have hcA3 : H3 c = some (.lst ((os.filter fun w => decide (lvF os (prsOf es) w = (i : Int))).map V.int)) := nk3 _ _ fc0 hc (fun _ z => by cases z)
    have hFv : ∀ w ∈ FvO os (prsOf es) i ++ [v], w ∈ os := fun w m => by
      rcases List.mem_append.mp m with m | m
      · exact hFin w m
      · rw [List.mem_singleton.mp m]
        exact List.mem_of_getElem? hv
    have est : stayO os (prsOf es) i v = (List.range (FvO os (prsOf es) i ++ [v]).length).filter fun p => decide (p < (FvO os (prsOf es) i ++ [v]).length ∧ lvF os (prsOf es) ((FvO os (prsOf es) i ++ [v]).getD p 0) ≠ (i : Int)) := stay_ext (by rw [List.length_append, List.length_singleton]; omega)
    have efst : fstO fs os es i v = ⟨fun k s => s * fs.getD v.toNat 0 + lkSum (lnkO os es i v) k s, stayO os (prsOf es) i v⟩ := rfl
    have elnk : lnkO os es i v = lnks (FvO os (prsOf es) i) es (backs os (prsOf es) v) v := rfl
    rw [← elnk] at hlx3
    generalize hFF : FvO os (prsOf es) i ++ [v] = FF at *
    refine ⟨_, rfl, fd, _, H3, rfl, Ext.refl _, .inl (SqL.of hfd3), fun J wJ D hD => w_enum wJ (fun j H4 => Ext H3 H4 ∧ H4 D = some (.lst (stV ((List.range j).filter fun p => decide (p < FF.length ∧ lvF os (prsOf es) (FF.getD p 0) ≠ (i : Int)))))) ⟨ext_upd hD, upd_same⟩ (fun j H4 _ h => h.1) (fun j x T4 H4 hj hP hT => ?_) (fun H4 hP => ?_)⟩
    · obtain ⟨s4, hD4⟩ := hP
      rw [List.getElem?_map] at hj
      obtain ⟨w, hw, rfl⟩ := Option.map_eq_some_iff.mp hj
      have hjl := (List.getElem?_eq_some_iff.mp hw).1
      have egd : FF.getD j 0 = w := by rw [List.getD_eq_getElem?_getD, hw]; rfl
      have x4 := ext_upd (o := .tup [V.int (j : Int), .int w]) hT
      refine ⟨T4, _, rfl, SqT.of upd_same, rfl, _, _, rfl, _, _, rfl, rfl, ?_⟩
      have hD5 := x4.lst hD4
      have hc5 := x4.lst (s4.lst hcA3)
      generalize upd H4 T4 (.tup [V.int (j : Int), .int w]) = H5 at *
      have hnil : ((List.range j).filter fun p => decide (p < FF.length ∧ lvF os (prsOf es) (FF.getD p 0) ≠ (i : Int))).length ≤ j := Nat.le_trans (List.length_filter_le _ _) (by rw [List.length_range]; exact Nat.le_refl _)
      have hFl : FF.length ≤ i + 1 := by
        rw [← hFF, List.length_append, List.length_singleton]
        omega
      have hwo := hFv w (List.mem_of_getElem? hw)
      refine ⟨rfl, _, rfl, _, rfl, c, _, rfl, .inl (SqL.of hc5), rfl, flat_ints _, _, rfl, iteB (fun z => ?_) (fun z => ?_)⟩
      · rw [dec_in] at z
        have hq : lvF os (prsOf es) (FF.getD j 0) ≠ (i : Int) := fun e => by
          rw [egd] at e
          have hm : w ∈ os.filter fun w => decide (lvF os (prsOf es) w = (i : Int)) := List.mem_filter.mpr ⟨hwo, decide_eq_true e⟩
          rw [decide_eq_true hm] at z
          cases z
        refine ⟨_, rfl, _, hD5, sl_lt (by unfold stV; rw [List.length_map]; omega), (s4.trans x4).own hD, ?_⟩
        rw [upd_same, List.range_succ, List.filter_append, List.filter_cons_of_pos (by exact decide_eq_true ⟨hjl, hq⟩), List.filter_nil]
        unfold stV
        rw [List.map_append]
        rfl
      · rw [dec_in] at z
        have hq : ¬ lvF os (prsOf es) (FF.getD j 0) ≠ (i : Int) := fun hne => by
          rw [egd] at hne
          have hm : w ∉ os.filter fun w => decide (lvF os (prsOf es) w = (i : Int)) := fun m => hne (of_decide_eq_true (List.mem_filter.mp m).2)
          rw [decide_eq_false hm] at z
          cases z
        refine ⟨s4.trans x4, ?_⟩
        rw [List.range_succ, List.filter_append, List.filter_cons_of_neg (by rw [decide_eq_false (fun h => hq h.2)]; decide), List.filter_nil, List.append_nil]
        exact hD5
    obtain ⟨s4, hD4⟩ := hP
    rw [List.length_map, ← est] at hD4
    have sA4 := sA3.trans s4
    have kA4 := kA3.trans s4.kp
    have nk4 := nk3.up s4
    have htd4 := s4.keep _ _ htd3 (fun _ z => by cases z)
    have hlk4 := s4.lst hlk3
    have hlx4 := lk_up s4 hlx3
    have hkv4 := hkv3.kp s4.kp
    have hfd4 := s4.lst hfd3
    have nD := sA3.free hD
    clear hD s4
    dsimp only [gName]
    refine fun gd hgd => ?_
    have ngt : gd ≠ td := fun z => by
      rw [z, htd4] at hgd
      cases hgd
    refine ⟨td, _, (show upd H4 gd (.dT []) td = some (.dT kvs) by rw [upd_ne (Ne.symm ngt)]; exact htd4), trivial, fun od => ?_⟩
    dsimp only [gName]
    rw [upd_swap ngt]
    have hX : upd H4 td (.frz od (.dT kvs)) gd = none := by
      rw [upd_ne ngt]
      exact hgd
    have dX : upd H4 td (.frz od (.dT kvs)) td = some (.frz od (.dT kvs)) := upd_same
    have kX : Keep H4 (upd H4 td (.frz od (.dT kvs))) := keep_upd htd4 ntp_dt
    have gX : Tg T (upd H4 td (.frz od (.dT kvs))) := tg_lockT (G.ext sA4) htd4 (fun _ z => by cases z)
    have sX : Ext H (upd H4 td (.frz od (.dT kvs))) := sA4.own ntd
    have vX := hkv4.kp kX
    have ne1 : lk ≠ td := fun z => by
      rw [z, htd4] at hlk4
      cases hlk4
    have ne2 : D ≠ td := fun z => by
      rw [z, htd4] at hD4
      cases hD4
    have lkX : upd H4 td (.frz od (.dT kvs)) lk = some (.lst lxs) := by
      rw [upd_ne ne1]
      exact hlk4
    have lxX : Paired (LkAt K (upd H4 td (.frz od (.dT kvs)))) lxs (lnkO os es i v) := paired_imp (fun _ _ ⟨a, e, h⟩ => ⟨a, e, kX.tup h⟩) hlx4
    have DX : upd H4 td (.frz od (.dT kvs)) D = some (.lst (stV (stayO os (prsOf es) i v))) := by
      rw [upd_ne ne2]
      exact hD4
    have unl : ∀ H', Ext (upd H4 td (.frz od (.dT kvs))) H' → Ext H4 (upd H' td (.dT kvs)) := fun H' s => ext_unlock htd4 (fun _ z => by cases z) s
    generalize upd H4 td (.frz od (.dT kvs)) = HX at *
    have sG := ext_upd (o := .dT []) hX
    have kG : upd HX gd (.dT []) gd = some (.dT []) := upd_same
    have dG := sG.keep _ _ dX (fun _ z => by cases z)
    generalize upd HX gd (.dT []) = HG at *
    have lkv := hkv.length
    have hkl := run_keys (fs := fs) (es := es) hn i (by omega)
    obtain ⟨ndL, tnL, llL⟩ := run_size ((fstsO fs os es).take i) [([], cpS.one)] (by simp [MG.keysA])
    have lti : ((fstsO fs os es).take i).length = i := by rw [List.length_take]; omega
    have tn1 : TN [(([] : List Int), cpS.one)] = 1 := rfl
    rw [lti, tn1, Nat.mul_one] at tnL
    rw [lti, List.length_singleton, Nat.mul_one] at llL
    have p128 : 2 ^ i ≤ 128 := Nat.le_trans (Nat.pow_le_pow_right (by decide) (show i ≤ 7 by omega)) (by decide)
    rw [take_snoc hst1]
    simp only [runF_snoc]
    generalize hL : runF cpS monC ((fstsO fs os es).take i) [([], cpS.one)] = L at *
    have lkl : ∀ l ∈ lnkO os es i v, l.1 < (FvO os (prsOf es) i).length ∧ -9 ≤ l.2 ∧ l.2 ≤ 9 := fun l ml => by
      obtain ⟨k, mk, rfl⟩ := List.mem_map.mp ml
      obtain ⟨b1, _, _⟩ := back_ends hn hin hoe hv mk
      obtain ⟨j, e, g1, rfl, _⟩ := mem_backs.mp mk
      have hj := (List.getElem?_eq_some_iff.mp g1).1
      rw [Int.toNat_natCast] at b1 ⊢
      have he := ge.2.1 _ (List.mem_of_getElem? (eAt_at (es := es) (show j < es.length by omega)))
      exact ⟨List.idxOf_lt_length_of_mem b1, he.2.2.2.2.1, he.2.2.2.2.2⟩
    have llk : (lnkO os es i v).length ≤ 24 := by
      unfold lnkO
      rw [List.length_map]
      omega
    have hsty : ∀ p ∈ stayO os (prsOf es) i v, p < FF.length := fun p mp => by
      rw [est] at mp
      exact (of_decide_eq_true (List.mem_filter.mp mp).2).1
    have lsty : (stayO os (prsOf es) i v).length ≤ 8 := by
      unfold stayO
      refine Nat.le_trans (List.length_filter_le _ _) ?_
      rw [List.length_range]
      omega
    have lFF : FF.length = (FvO os (prsOf es) i).length + 1 := by rw [← hFF, List.length_append, List.length_singleton]
    refine ⟨_, rfl, td, od, rfl, .inr ⟨kvs, dG, for_keysT (fun t σ HC => (∃ z12 z13 z15 z16 z17 z18 z19 z20 z21, σ = [some (.ref p), some (.ref oa), some v0, some (.ref T.f_times_spin), some (.ref T.f_plus), some (.ref td), some (.ref fd), some (.int v), some (.ref b), some (.ref c), some (.ref lk), some (.ref D), z12, z13, some (.ref gd), z15, z16, z17, z18, z19, z20, z21]) ∧ Ext HX HC ∧ ∃ kg, HC gd = some (.dT kg) ∧ KvsM (cqA K) HC kg ((L.take t).foldl (c2F cpS monC (fstO fs os es i v)) [])) ⟨⟨_, _, _, _, _, _, _, _, _, rfl⟩, sG, [], kG, .nil⟩ (fun t σ HC _ h => h.2.1.keep _ _ dX (fun _ z => by cases z)) (fun t k val kq σ HC hkt hqk hP => ?_) (fun σ HC hP => ?_)⟩⟩
    · obtain ⟨⟨z12, z13, z15, z16, z17, z18, z19, z20, z21, rfl⟩, sC, kg, hgC, hkg⟩ := hP
      obtain ⟨⟨m, xm⟩, hLt, hk1, hvx⟩ := paired_at vX hkt
      have hk1 : k = encI m := hk1
      subst hk1
      have hvx : (cqA K).Val HX val xm := hvx
      rw [encI_kV] at hqk
      have hLm := List.mem_of_getElem? hLt
      have hget : valV kvs (encI m) = some val := kvm_at hkv ndL hkt
      have hml : m.length = (FvO os (prsOf es) i).length := hkl m (List.mem_map.mpr ⟨_, hLm, rfl⟩)
      obtain ⟨nd0, tn0, l0'⟩ := cgo_size (fstO fs os es i v) (L.take t) [] (by simp [MG.keysA])
      have e0 : TN [] = 0 := rfl
      rw [e0, Nat.zero_add] at tn0
      rw [List.length_nil, Nat.zero_add] at l0'
      have tk := TN_take L t
      have tx := TN_mem hLm
      have tx : nrm xm ≤ TN L := tx
      have lt2 : (L.take t).length ≤ L.length := by rw [List.length_take]; omega
      rw [take_snoc hLt, List.foldl_append]
      generalize (L.take t).foldl (c2F cpS monC (fstO fs os es i v)) [] = g at *
      dsimp only [gName]
      refine ⟨sl2, fun t2 ht2 => ?_⟩
      have x5 := ext_upd (o := .tup [V.int 0, .int 1]) ht2
      have m5 : upd HC t2 (.tup [V.int 0, .int 1]) t2 = some (.tup [V.int 0, .int 1]) := upd_same
      have sC5 := sC.trans x5
      have hqk5 := x5.at hqk
      have hg5 := x5.keep _ _ hgC (fun _ z => by cases z)
      have hkg5 := hkg.kp x5.kp
      generalize upd HC t2 (.tup [V.int 0, .int 1]) = H5 at *
      refine ⟨t2, rfl, ⟨_, SqT.of m5⟩, for_tup (xs := [V.int 0, .int 1]) (fun j σ HD => (∃ z12 z13 z16 z17 z18 z19 z20 z21, σ = [some (.ref p), some (.ref oa), some v0, some (.ref T.f_times_spin), some (.ref T.f_plus), some (.ref td), some (.ref fd), some (.int v), some (.ref b), some (.ref c), some (.ref lk), some (.ref D), z12, z13, some (.ref gd), some (.ref kq), z16, z17, z18, z19, z20, z21]) ∧ Ext HX HD ∧ Keep H5 HD ∧ ∃ kg gj, gj = (([0, 1] : List Int).take j).foldl (fun g s => c1F cpS monC (fstO fs os es i v) (m, xm) g s) g ∧ HD gd = some (.dT kg) ∧ KvsM (cqA K) HD kg gj ∧ (MG.keysA gj).Nodup ∧ TN gj ≤ TN g + j * nrm xm ∧ gj.length ≤ g.length + j)
        ⟨⟨_, _, _, _, _, _, _, _, rfl⟩, sC5, Keep.refl _, kg, g, rfl, hg5, hkg5, nd0, by omega, by omega⟩ (fun j σ HD _ h => SqT.of (h.2.2.1 _ _ m5 (.inl ⟨_, rfl⟩))) (fun j x σ HD hj hP => ?_) (fun σ HD hP => ?_)⟩
      · obtain ⟨⟨z12, z13, z16, z17, z18, z19, z20, z21, rfl⟩, sD, kD, kg, gj, egj, hgD, hkgj, ndj, tnj, llj⟩ := hP
        obtain ⟨s, hs, rfl⟩ : ∃ s : Int, ([0, 1] : List Int)[j]? = some s ∧ x = .int s := by
          match j, hj with
          | 0, hj => exact ⟨0, rfl, by simpa using hj.symm⟩
          | 1, hj => exact ⟨1, rfl, by simpa using hj.symm⟩
          | j + 2, hj => simp at hj
        have hj2 : j < 2 := by
          have := (List.getElem?_eq_some_iff.mp hs).1
          simpa using this
        have hs01 : s = 0 ∨ s = 1 := by
          have := List.mem_of_getElem? hs
          simpa using this
        have sHD := sX.trans sD
        have hkqD := kD _ _ hqk5 (.inl ⟨_, rfl⟩)
        dsimp only [gName]
        refine ⟨_, rfl, _, rfl, p, T.C_Spins, dx, _, .ref fb, rfl, sHD.keep _ _ h1 (fun _ z => by cases z), T.cl_Spins, T.na_Spins_fields, rfl, _, rfl, fb, _, v, _, rfl, rfl, sHD.tup h2, atI_fs hvr.1 hvr.2, ?_⟩
        have hlkD := sD.lst lkX
        have lX := lxX.length
        refine ⟨_, _, rfl, rfl, .inl (by rcases hs01 with e | e <;> rw [e] <;> exact ⟨by decide, by decide⟩), _, rfl, lk, rfl, ⟨_, SqL.of hlkD⟩, (gX.ext sD).t_carried, fun HE t3 => ?_⟩
        have eE : Ext HD HE := ext_tabbed (gX.ext sD).t_carried t3
        have hlkE := eE.lst hlkD
        have hkqE := eE.at hkqD
        refine gx_list (xs := lxs) (fun n zs HF => Ext HE HF ∧ zs = ((((lnkO os es i v).take n).filter fun l => decide (m.getD l.1 0 ≠ s)).map fun l => l.2).map V.int) ⟨Ext.refl _, rfl⟩ (fun n zs HF _ h => SqL.of (h.1.lst hlkE)) (fun n x0 zs HF hn2 hP2 => ?_) (fun zs HF hP2 => ?_)
        · obtain ⟨sF, rfl⟩ := hP2
          obtain ⟨⟨pl0, jj⟩, hln, a1, rfl, ha1⟩ := paired_at lxX hn2
          obtain ⟨q1, q2, q3⟩ := lkl _ (List.mem_of_getElem? hln)
          have q1 : pl0 < (FvO os (prsOf es) i).length := q1
          have q2 : -9 ≤ jj := q2
          have q3 : jj ≤ 9 := q3
          have hnl := (List.getElem?_eq_some_iff.mp hln).1
          have hbd := sum_bound (c := 9) (l := (((lnkO os es i v).take n).filter fun l => decide (m.getD l.1 0 ≠ s)).map fun l => l.2) (fun x mx => by
            obtain ⟨l, ml, rfl⟩ := List.mem_map.mp mx
            obtain ⟨_, w1, w2⟩ := lkl l (List.mem_of_mem_take (List.mem_filter.mp ml).1)
            exact ⟨w1, w2⟩)
          have hbl2 : ((((lnkO os es i v).take n).filter fun l => decide (m.getD l.1 0 ≠ s)).map fun l => l.2).length ≤ 24 := by
            rw [List.length_map]
            refine Nat.le_trans (List.length_filter_le _ _) ?_
            rw [List.length_take]
            omega
          refine ⟨a1, _, rfl, (sD.trans (eE.trans sF)).tup ha1, rfl, _, _, rfl, _, _, rfl, rfl, ?_⟩
          refine ⟨rfl, _, rfl, _, rfl, kq, _, (pl0 : Int), _, rfl, rfl, SqT.of (sF.at hkqE), atI_fs (by omega) (by omega), _, rfl, rfl, _, rfl, iteB (fun z => ?_) (fun z => ?_)⟩
          · have hne : m.getD pl0 0 ≠ s := fun e => by
              rw [Int.toNat_natCast, e] at z
              simp at z
            refine ⟨_, rfl, jj, rfl, in_long (by omega), in_long (by rw [sumV_ints]; omega), sF, ?_⟩
            rw [take_snoc hln, List.filter_append, List.filter_cons_of_pos (by simpa using hne), List.filter_nil, List.map_append, List.map_append]
            rfl
          · have hne : ¬ m.getD pl0 0 ≠ s := fun e => by
              rw [Int.toNat_natCast, decide_eq_false (fun w => e (V.int.inj w))] at z
              cases z
            refine ⟨sF, ?_⟩
            rw [take_snoc hln, List.filter_append, List.filter_cons_of_neg (by simpa using hne), List.filter_nil, List.append_nil]
        · obtain ⟨sF, rfl⟩ := hP2
          have epr : s * fs.getD v.toNat 0 + (((((lnkO os es i v).take lxs.length).filter fun l => decide (m.getD l.1 0 ≠ s)).map fun l => l.2)).sum = (fstO fs os es i v).price m s := by
            rw [lX, List.take_length, filt_sum]
            rfl
          refine ⟨_, _, rfl, rfl, ?_⟩
          dsimp only [gName]
          rw [sumV_ints, epr]
          generalize hpr : (fstO fs os es i v).price m s = pr
          have sDF := eE.trans sF
          have sXF := sD.trans sDF
          have tdF := sXF.keep _ _ dX (fun _ z => by cases z)
          have hkqF := sDF.at hkqD
          refine ⟨rfl, _, rfl, _, rfl, td, val, rfl, .inr ⟨kvs, encI m, kq, .inr ⟨od, tdF⟩, rfl, by rw [encI_kV]; exact hkqF, hget.symm⟩, _, rfl, _, rfl, _, rfl, val, _, xm, s, pr, rfl, (cqA K).keep sXF.kp hvx, by omega, gX.ext sXF, fun kept HG2 sG2 hkept => ?_⟩
          dsimp only [gName]
          refine ⟨_, rfl, _, rfl, by rw [sizeLine_eq]; simp, fun t6 ht6 => ?_⟩
          have x6 := ext_upd (o := .tup [V.int s]) ht6
          have m6 : upd HG2 t6 (.tup [V.int s]) t6 = some (.tup [V.int s]) := upd_same
          have sX6 := (sXF.trans sG2).trans x6
          have sD6 := (sDF.trans sG2).trans x6
          have hkept6 := (cqA K).keep x6.kp hkept
          generalize upd HG2 t6 (.tup [V.int s]) = H6 at *
          refine st_catI (s := m) (z := s) (SqT.of (sD6.at hkqD)) m6 (by omega) (fun lg H7 s7 hlg => ?_)
          dsimp only [gName]
          have sX7 := sX6.trans s7
          have sD7 := sD6.trans s7
          have hkept7 := (cqA K).keep s7.kp hkept6
          have hD7 := sX7.lst DX
          refine ⟨_, rfl, D, rfl, ⟨_, SqL.of hD7⟩, (gX.ext sX7).t_carried, fun H8 t8 => ?_⟩
          have e8 : Ext H7 H8 := ext_tabbed (gX.ext sX7).t_carried t8
          refine gx_list (xs := stV (stayO os (prsOf es) i v)) (fun n zs HN => Ext H8 HN ∧ zs = (((stayO os (prsOf es) i v).take n).map fun p => (m ++ [s]).getD p 0).map V.int) ⟨Ext.refl _, rfl⟩ (fun n zs HN _ h => SqL.of ((e8.trans h.1).lst hD7)) (fun n x0 zs HN hn2 hP2 => ?_) (fun zs HN hP2 => ?_)
          · obtain ⟨sN, rfl⟩ := hP2
            obtain ⟨pl0, hpl, rfl⟩ : ∃ pl0 : Nat, (stayO os (prsOf es) i v)[n]? = some pl0 ∧ x0 = V.int ((pl0 : Nat) : Int) := by
              unfold stV at hn2
              rw [List.getElem?_map] at hn2
              obtain ⟨o, g1, g2⟩ := Option.map_eq_some_iff.mp hn2
              exact ⟨o, g1, g2.symm⟩
            have hplt := hsty pl0 (List.mem_of_getElem? hpl)
            have hnl := (List.getElem?_eq_some_iff.mp hpl).1
            refine ⟨rfl, _, rfl, _, rfl, lg, _, (pl0 : Int), _, rfl, rfl, (e8.trans sN).tup hlg, atI_fs (by omega) (by rw [List.length_append, List.length_singleton]; omega), sl_lt (by rw [List.length_map, List.length_map, List.length_take]; omega), sN, ?_⟩
            rw [take_snoc hpl, List.map_append, List.map_append, Int.toNat_natCast]
            rfl
          · obtain ⟨sN, rfl⟩ := hP2
            have lstv : (stV (stayO os (prsOf es) i v)).length = (stayO os (prsOf es) i v).length := List.length_map _
            rw [lstv, List.take_length]
            intro tg htg
            have etg : (stayO os (prsOf es) i v).map (fun p => (m ++ [s]).getD p 0) = tgtF (fstO fs os es i v) m s := rfl
            rw [etg]
            have x9 := ext_upd (o := .tup ((tgtF (fstO fs os es i v) m s).map V.int)) htg
            have m9 : upd HN tg (.tup ((tgtF (fstO fs os es i v) m s).map V.int)) tg = some (.tup ((tgtF (fstO fs os es i v) m s).map V.int)) := upd_same
            have s79 := (e8.trans sN).trans x9
            dsimp only [gName]
            generalize upd HN tg (.tup ((tgtF (fstO fs os es i v) m s).map V.int)) = H9 at *
            have sX9 := sX7.trans s79
            have sD9 := sD7.trans s79
            have hkept9 := (cqA K).keep s79.kp hkept7
            have hg9 := sD9.keep _ _ hgD (fun _ z => by cases z)
            have hkg9 := hkgj.kp sD9.kp
            have hkD9 := kD.trans sD9.kp
            have tg9 : H9 tg = some (.tup ((encI (tgtF (fstO fs os es i v) m s)).map kV)) := by rw [encI_kV]; exact m9
            have nkept : nrm (cpS.mul xm (monC pr s)) ≤ nrm xm := nrm_mulM _ _ _
            have gsz := TN_get (tgtF (fstO fs os es i v) m s) gj
            obtain ⟨c1a, c1b, c1c⟩ := c1_size (fstO fs os es i v) (m, xm) ndj s
            have ec1 : c1F cpS monC (fstO fs os es i v) (m, xm) gj s = MG.addA cpS gj (tgtF (fstO fs os es i v) m s) (cpS.mul xm (monC pr s)) := by
              rw [← hpr]
              rfl
            have c1b : TN (c1F cpS monC (fstO fs os es i v) (m, xm) gj s) ≤ TN gj + nrm xm := c1b
            have hjj : j * nrm xm ≤ 1 * nrm xm := Nat.mul_le_mul_right _ (by omega)
            refine eval_via (te := tIf _ _ _) (fun v' H' => Ext H9 H' ∧ (cqA K).Val H' v' (cpS.add (MG.getA cpS gj (tgtF (fstO fs os es i v) m s)) (cpS.mul xm (monC pr s)))) (fun Q' hQ => ?_) (fun v' HV hv' => ?_)
            · by_cases hm : tgtF (fstO fs os es i v) m s ∈ MG.keysA gj
              · obtain ⟨v1, ev1, b1, rfl, hb1⟩ := kvm_val hkg9 hm
                obtain ⟨b2, rfl, hb2⟩ := hkept9
                have dg9 : DGet H9 gd (.ref tg) (some (.ref b1)) := by
                  rw [← ev1]
                  exact DGet.t hg9 tg9
                refine ⟨_, rfl, _, rfl, gd, _, rfl, dg9, _, rfl, iteB (fun _ => ?_) (fun z => by cases z)⟩
                refine ⟨rfl, _, rfl, _, rfl, gd, _, rfl, dg9, _, rfl, b1, b2, (MG.getA cpS gj (tgtF (fstO fs os es i v) m s)).1, (cpS.mul xm (monC pr s)).1, rfl, hb1, hb2, ?_, gX.ext sX9, fun pm HP sP hpm _ => hQ _ _ ⟨sP, pm, rfl, hpm.at⟩⟩
                have g1 := len_nrm (MG.getA cpS gj (tgtF (fstO fs os es i v) m s))
                have g2 := len_nrm (cpS.mul xm (monC pr s))
                omega
              · have ev1 := kvm_none hkg9 hm
                have dg9 : DGet H9 gd (.ref tg) none := by
                  rw [← ev1]
                  exact DGet.t hg9 tg9
                refine ⟨_, rfl, _, rfl, gd, _, rfl, dg9, _, rfl, iteB (fun z => by cases z) (fun _ => ?_)⟩
                refine ⟨_, rfl, hQ _ _ ⟨Ext.refl _, ?_⟩⟩
                rw [MG.get_none cpS hm, cpS.zero_add]
                exact hkept9
            · obtain ⟨sV, hvV⟩ := hv'
              have hgV := sV.keep _ _ hg9 (fun _ z => by cases z)
              have tgV := sV.at tg9
              have lkg := hkgj.length
              refine ⟨_, rfl, _, rfl, gd, _, rfl, DPut.t hgV tgV (sl_lt (by omega)), ?_⟩
              refine ⟨⟨_, _, _, _, _, _, _, _, rfl⟩, (sX9.trans sV).own hX, (hkD9.trans sV.kp).trans (keep_upd hgV ntp_dt), _, c1F cpS monC (fstO fs os es i v) (m, xm) gj s, ?_, upd_same, ?_, c1a, ?_, ?_⟩
              · rw [take_snoc hs, List.foldl_append, ← egj]
                rfl
              · rw [ec1]
                exact (kvm_put hvV (hkg9.kp sV.kp)).kp (keep_upd hgV ntp_dt)
              · rw [Nat.succ_mul]
                omega
              · omega
      · obtain ⟨⟨z12, z13, z16, z17, z18, z19, z20, z21, rfl⟩, sD, kD, kg2, gj, egj, hgD, hkgj, ndj, tnj, llj⟩ := hP
        refine ⟨⟨_, _, _, _, _, _, _, _, _, rfl⟩, sD, kg2, hgD, ?_⟩
        have e2 : gj = c2F cpS monC (fstO fs os es i v) g (m, xm) := egj
        rw [e2] at hkgj
        exact hkgj
    · obtain ⟨⟨z12, z13, z15, z16, z17, z18, z19, z20, z21, rfl⟩, sC, kg, hgC, hkg⟩ := hP
      have tdC := sC.keep _ _ dX (fun _ z => by cases z)
      rw [lkv, List.take_length] at hkg
      have uR := unl HC sC
      have hgR : upd HC td (.dT kvs) gd = some (.dT kg) := by
        rw [upd_ne ngt]
        exact hgC
      have hkR : KvsM (cqA K) (upd HC td (.dT kvs)) kg (cStF cpS monC (fstO fs os es i v) L) := hkg.kp (keep_upd tdC ntp_frt)
      refine ⟨tdC, ?_⟩
      generalize upd HC td (.dT kvs) = HR at *
      have hDR := uR.lst hD4
      have hfR := uR.lst hfd4
      have lstv : (stV (stayO os (prsOf es) i v)).length = (stayO os (prsOf es) i v).length := List.length_map _
      refine ⟨_, rfl, _, rfl, D, rfl, ⟨_, SqL.of hDR⟩, fun D2 hD2 => w_list (xs := stV (stayO os (prsOf es) i v)) (fun n HN => Ext HR HN ∧ HN D2 = some (.lst ((((stayO os (prsOf es) i v).take n).map fun p => FF.getD p 0).map V.int))) ⟨ext_upd hD2, upd_same⟩ (fun n HN _ h => SqL.of (h.1.lst hDR)) (fun n x0 HN hn2 hP2 => ?_) (fun HN hP2 => ?_)⟩
      · obtain ⟨sN, hD2N⟩ := hP2
        obtain ⟨pl0, hpl, rfl⟩ : ∃ pl0 : Nat, (stayO os (prsOf es) i v)[n]? = some pl0 ∧ x0 = V.int ((pl0 : Nat) : Int) := by
          unfold stV at hn2
          rw [List.getElem?_map] at hn2
          obtain ⟨o, g1, g2⟩ := Option.map_eq_some_iff.mp hn2
          exact ⟨o, g1, g2.symm⟩
        have hplt := hsty pl0 (List.mem_of_getElem? hpl)
        refine ⟨rfl, _, rfl, _, rfl, fd, _, (pl0 : Int), _, rfl, rfl, SqL.of (sN.lst hfR), atI_fs (by omega) (by omega), _, hD2N, sl_lt (by rw [List.length_map, List.length_map, List.length_take]; omega), sN.own hD2, ?_⟩
        rw [upd_same, take_snoc hpl, List.map_append, List.map_append, Int.toNat_natCast]
        rfl
      · obtain ⟨sN, hD2N⟩ := hP2
        rw [lstv, List.take_length] at hD2N
        have s4N := uR.trans sN
        have efv : (stayO os (prsOf es) i v).map (fun p => FF.getD p 0) = FvO os (prsOf es) (i + 1) := by
          have h1 := stay_map (fun w : Int => w) 0 (fun w => lvF os (prsOf es) w ≠ (i : Int)) (l := FF) (N := i + 1) (by omega)
          rw [List.map_id'] at h1
          rw [fv_succ hn (prsOf es) hv, hFF, ← List.map_id' (FF.filter _), ← h1]
          unfold stayO
          rw [hFF]
        rw [efv] at hD2N
        have nkN := nk4.up s4N
        refine ⟨gd, D2, kg, _, _, _, _, _, _, _, _, _, _, _, _, _, _, _, rfl, sA4.trans s4N, kA4.trans s4N.kp, nkN, ?_, sX.free hX, (sA4.trans uR).free hD2, sN.keep _ _ hgR (fun _ z => by cases z), hkR.kp sN.kp, hD2N⟩
        by_cases hb2 : HB D2 = none
        · refine .inr fun u hu => ?_
          by_cases ht : ∃ ps, u = HO.tbl ps
          · exact ht
          · have := (nk4.up uR) _ _ hb2 hu (fun ps z => ht ⟨ps, z⟩)
            rw [hD2] at this
            cases this
        · exact .inl hb2
  · obtain ⟨td, fd, kvs, z7, z8, z9, z10, z11, z12, z13, z14, z15, z16, z17, z18, z19, z20, z21, rfl, sA, kA, nk, nfd, ntd, nfd0, htd, hkv, hfd⟩ := hP
    rw [lys, List.take_of_length_le (by omega)] at hkv
    obtain ⟨r1, r2⟩ := run_last (fs := fs) (es := es) hn hoe (by rw [hol]; exact gf.1)
    obtain ⟨vv, ev, hvv⟩ := kvm_val hkv r2
    rw [show MG.getA (cqA K).S = MG.getA cpS from rfl, r1] at hvv
    refine ⟨_, rfl, by rw [sizeLine_eq]; simp, fun te hte => ?_⟩
    have xt := ext_upd (o := .tup []) hte
    have mt : upd HA te (.tup []) te = some (.tup []) := upd_same
    generalize upd HA te (.tup []) = HT at *
    refine ⟨td, vv, rfl, ?_, q _ _ (sA.trans xt) ((cqA K).keep xt.kp hvv)⟩
    rw [← ev]
    exact DGet.t (xt.keep _ _ htd (fun _ z => by cases z)) mt
/-! ### carried, for the least -/
/-- a pair (cost, state) whose vertices from place i on are down -/
def lsA (K : PySem.W.Frag) (n : Nat) (os : List Int) (i : Nat) : Ar K (Option Int) where
  S := trS
  Val := fun H v x => ∃ a c st, v = .ref a ∧ NST.PrN K H a (c, st) ∧ st.length = n ∧ bits st ∧ (∀ w ∈ os.drop i, st.getD w.toNat 0 = 0) ∧ x = some (cd c st)
  keep := fun s ⟨a, c, st, e, ⟨b, h1, h2⟩, r⟩ => ⟨a, c, st, e, ⟨b, s.tup h1, s.tup h2⟩, r⟩
  Sz := fun _ _ _ => True
  sz_le := fun _ _ => trivial
  sz_add := fun _ _ => trivial
  sz_mul := fun _ _ => trivial
  sz_zero := fun _ => trivial
def spCarL (T : Top K mg) : Sp := fun vs H Q _ => ∃ (p oa : Addr) (v0 : V) (fs : List Int) (es : List Eg) (os : List Int), vs = [.ref p, .ref oa, v0, .ref T.f_with_spin, .ref T.f_lesser] ∧ SpAt T H p fs es ∧ Sq K H oa (os.map V.int) ∧ isOrd fs.length os ∧ fs.length ≤ 8 ∧ (lsA K fs.length os 0).Val H v0 (some 0) ∧ Tg T H ∧
  ∀ v H', Ext H H' → (lsA K fs.length os os.length).Val H' v (WF trS monT (fstsL fs.length fs os es) []) → Q v H'
theorem pr_keep {H H' : Hp} {a : Addr} {k : Int × List Int} (s : Keep H H') (h : NST.PrN K H a k) : NST.PrN K H' a k := by
  obtain ⟨b, h1, h2⟩ := h
  exact ⟨b, s.tup h1, s.tup h2⟩
theorem paid_val {H : Hp} {kp : Addr} {pc pr : Int} {pst : List Int} {n : Nat} {os : List Int} {i : Nat} {v s : Int} (hn : os.Nodup) (hv : os[i]? = some v) (hr : ∀ w ∈ os, 0 ≤ w ∧ w < (n : Int)) (hpl : pst.length = n) (hpb : bits pst) (hpz : ∀ w ∈ os.drop i, pst.getD w.toNat 0 = 0) (hs : s = 0 ∨ s = 1) (h : NST.PrN K H kp (pc + pr, putS pst v.toNat s)) :
    (lsA K n os (i + 1)).Val H (.ref kp) (trS.mul (some (cd pc pst)) (monT (pr * 2 ^ n + ptV n v s) s)) := by
  obtain ⟨hi, ev⟩ := List.getElem?_eq_some_iff.mp hv
  have hd : os.drop i = v :: os.drop (i + 1) := by rw [List.drop_eq_getElem_cons hi, ev]
  have hvr := hr v (List.mem_of_getElem? hv)
  have hvl : v.toNat < pst.length := by omega
  refine ⟨kp, pc + pr, putS pst v.toNat s, rfl, h, by rw [putS_len hvl, hpl], putS_bits hpb _ hs, fun w mw => ?_, ?_⟩
  · have hnd : (v :: os.drop (i + 1)).Nodup := by rw [← hd]; exact (List.drop_sublist i os).nodup hn
    have hne : w ≠ v := fun e => (List.nodup_cons.mp hnd).1 (e ▸ mw)
    have hwr := hr w (List.mem_of_mem_drop mw)
    rw [putS_at hvl s (by omega)]
    exact hpz w (by rw [hd]; exact List.mem_cons_of_mem _ mw)
  · have h0 := hpz v (by rw [hd]; exact List.mem_cons_self)
    show addO (some (cd pc pst)) (some (pr * 2 ^ n + ptV n v s)) = _
    rw [addO_ss]
    congr 1
    unfold cd ptV
    rw [putS_len hvl, putS_cd hvl h0, hpl, Int.add_mul]
    omega
theorem less_val {H : Hp} {b1 b2 : Addr} {c1 c2 : Int} {s1 s2 : List Int} {n : Nat} {os : List Int} {j : Nat} (h1 : NST.PrN K H b1 (c1, s1)) (h2 : NST.PrN K H b2 (c2, s2)) (l1 : s1.length = n) (u1 : bits s1) (z1 : ∀ w ∈ os.drop j, s1.getD w.toNat 0 = 0) (l2 : s2.length = n) (u2 : bits s2) (z2 : ∀ w ∈ os.drop j, s2.getD w.toNat 0 = 0) :
    (lsA K n os j).Val H (.ref (if NST.ltN (c2, s2) (c1, s1) = true then b2 else b1)) (trS.add (some (cd c1 s1)) (some (cd c2 s2))) := by
  have e : NST.ltN (c2, s2) (c1, s1) = decide (cd c2 s2 < cd c1 s1) := lex_cd (l2.trans l1.symm) u2 u1
  show ∃ _, _
  rw [e]
  by_cases h : cd c2 s2 < cd c1 s1
  · rw [decide_eq_true h, if_pos rfl]
    exact ⟨b2, c2, s2, rfl, h2, l2, u2, z2, by show minO (some (cd c1 s1)) (some (cd c2 s2)) = _; rw [minO_ss, if_pos h]⟩
  · rw [decide_eq_false h, if_neg Bool.false_ne_true]
    exact ⟨b1, c1, s1, rfl, h1, l1, u1, z1, by show minO (some (cd c1 s1)) (some (cd c2 s2)) = _; rw [minO_ss, if_neg h]⟩
theorem run_lastL {fs os : List Int} {es : List Eg} (hn : os.Nodup) (hoe : ∀ e ∈ prsOf es, e.1 ∈ os ∧ e.2 ∈ os) (h1 : 1 ≤ os.length) : MG.getA trS (runF trS monT (fstsL fs.length fs os es) [([], trS.one)]) [] = WF trS monT (fstsL fs.length fs os es) [] ∧ [] ∈ MG.keysA (runF trS monT (fstsL fs.length fs os es) [([], trS.one)]) := by
  obtain ⟨n, hl⟩ : ∃ n, os.length = n + 1 := ⟨os.length - 1, by omega⟩
  have lst : (fstsL fs.length fs os es).length = os.length := List.length_mapIdx
  have hv := List.getElem?_eq_getElem (show n < os.length by omega)
  have hs : (fstsL fs.length fs os es)[n]? = some (fstL fs.length fs os es n os[n]) := by rw [fstsL_at, hv]; rfl
  have hst : (fstL fs.length fs os es n os[n]).stay = [] := stay_last hn hoe hv (by omega)
  have e : fstsL fs.length fs os es = (fstsL fs.length fs os es).take n ++ [fstL fs.length fs os es n os[n]] := by
    rw [← take_snoc hs, List.take_of_length_le (by omega)]
  rw [e]
  exact runG_last trS monT hst
theorem run_keysL {fs os : List Int} {es : List Eg} (hn : os.Nodup) : ∀ i ≤ os.length, ∀ k ∈ MG.keysA (runF trS monT ((fstsL fs.length fs os es).take i) [([], trS.one)]), k.length = (FvO os (prsOf es) i).length
  | 0, _, k, m => by
    have m : k ∈ [([] : List Int)] := m
    rw [List.mem_singleton.mp m]
    rfl
  | i + 1, hi, k, m => by
    have hv := List.getElem?_eq_getElem (show i < os.length by omega)
    have hs : (fstsL fs.length fs os es)[i]? = some (fstL fs.length fs os es i os[i]) := by rw [fstsL_at, hv]; rfl
    rw [take_snoc hs, runF_snoc] at m
    refine keys_c2 trS monT (P := fun k => k.length = (FvO os (prsOf es) (i + 1)).length) (fstL fs.length fs os es i os[i]) (fun k s => ?_) _ [] (fun k m => absurd m List.not_mem_nil) k m
    show ((stayO os (prsOf es) i os[i]).map _).length = _
    have h1 := stay_map (fun _ : Int => (0 : Int)) 0 (fun w => lvF os (prsOf es) w ≠ (i : Int)) (l := FvO os (prsOf es) i ++ [os[i]]) (N := i + 1) (by rw [List.length_append, List.length_singleton]; have := fv_len os (prsOf es) i; omega)
    have h2 := congrArg List.length h1
    rw [List.length_map, List.length_map, ← fv_succ hn (prsOf es) hv] at h2
    rw [List.length_map]
    exact h2
theorem ok_carriedL (T : Top K mg) (B : Tb T base) : FnOk P w K mg base CX0 5 T.f_carried T.d_carried ["spins", "order", "start", "pay", "merge"] (spCarL T) := by
  refine T.F_carried.ok sc_carried (fun vs H Q E h => ?_) (fun A outer s H vs Q E hr h => ?_)
  · obtain ⟨p, oa, v0, fs, es, os, rfl, _⟩ := h
    rfl
  obtain ⟨p, oa, v0, fs, es, os, rfl, hp, ho, hord, l8, hv0, G, q⟩ := h
  refine ⟨_, (pss_cons (ps_set (i := 5) sc_carried.nd rfl (by first | exact .inl rfl | exact .inr rfl) (pe_dispT (hu_of hr) (pe_tup pa_nil) (pv 2)))
      (pss_cons (ps_set (i := 6) sc_carried.nd rfl (by first | exact .inl rfl | exact .inr rfl) (pe_lst pa_nil))
      (pss_cons (ps_for PassesOwn.never rfl (pi_list (pe_call (ok_steps_along T) (hr.mono (by decide)) (by rfl) T.g_steps_along T.F_steps_along.kp T.b_steps_along .nil pass0 (pa_cons (pe_fld (pv 0) rfl) (pa_cons (pv 1) pa_nil)))) (pg_tup rfl (pgs_cons (pg_name (i := 7) sc_carried.nd rfl (by first | exact .inl rfl | exact .inr rfl)) (pgs_cons (pg_name (i := 8) sc_carried.nd rfl (by first | exact .inl rfl | exact .inr rfl)) (pgs_cons (pg_name (i := 9) sc_carried.nd rfl (by first | exact .inl rfl | exact .inr rfl)) pgs_nil)))) (pss_cons (ps_set (i := 10) sc_carried.nd rfl (by first | exact .inl rfl | exact .inr rfl) (pe_call (ok_links T) (hr.mono (by decide)) (by rfl) T.g_links T.F_links.kp T.b_links .nil pass0 (pa_cons (pv 0) (pa_cons (pv 6) (pa_cons (pv 7) (pa_cons (pv 8) pa_nil))))))
      (pss_cons (ps_expr (pe_bm PySem.F.plainAttrs_list PySem.F.slot_list_append PySem.F.type_list_append mt_append (pv 6) (pa_cons (pv 7) pa_nil)))
      (pss_cons (ps_setLc (i := 11) (own := [("place", 12), ("other", 13)]) (g := gTup K 2 (gCons (gName 12) (gCons (gName 13) gNil))) rfl sc_carried.nd rfl rfl (sw_true rfl rfl rfl (by decide +kernel)) (pi_enumS rfl (by rfl) T.m_enumerate (pa_cons (pv 6) pa_nil)) (blkOk_by (own := [("place", 12), ("other", 13)]) (N := n_carried) (sc := defScope s_carried) (by decide +kernel)) (fun _ _ _ _ _ => (pg_tup rfl (pgs_cons (pg_name (i := 12) sc_carried.nd rfl (by first | exact .inl rfl | exact .inr rfl)) (pgs_cons (pg_name (i := 13) sc_carried.nd rfl (by first | exact .inl rfl | exact .inr rfl)) pgs_nil)))) (fun _ _ _ _ _ => pts_one (pt_cmpR (op_notIn_K (K := K) rfl) (pv 13) (pv 9) (by rfl))) (fun _ _ _ _ _ => (pv 12)))
      (pss_cons (ps_set (i := 14) sc_carried.nd rfl (by first | exact .inl rfl | exact .inr rfl) pe_dnewT)
      (pss_cons (ps_lock (ps_for PassesOwn.never rfl (pi_keys (pv 5)) (pg_name (i := 15) sc_carried.nd rfl (by first | exact .inl rfl | exact .inr rfl)) (pss_one (ps_for PassesOwn.never rfl (pi_tup (pe_tup (pa_cons pe_int (pa_cons pe_int pa_nil)))) (pg_name (i := 16) sc_carried.nd rfl (by first | exact .inl rfl | exact .inr rfl)) (pss_cons (ps_set (i := 17) sc_carried.nd rfl (by first | exact .inl rfl | exact .inr rfl) (pe_op op_add (pe_op op_mul (pv 16) (pe_ix ix_tup (pe_fld (pv 0) rfl) (pv 7) (fun _ _ => rfl))) (GXP.pe_sumGx (own := [("place", 12), ("j", 18)]) (g := gTup K 2 (gCons (gName 12) (gCons (gName 18) gNil))) (k := 0) (c := T.c_carried) (P := T.P_carried) (by rfl) T.m_sum ⟨hr.mono (by decide), rfl, B.t_carried, rfl, rfl, blkOk_by (own := [("place", 12), ("j", 18)]) (N := n_carried) (sc := defScope s_carried) (by decide +kernel), sc_carried.nd, by decide +kernel, rfl, (pi_list (pv 10)), fun A s H C cl code bi fp hrA => (pg_tup rfl (pgs_cons (pg_name (i := 12) sc_carried.nd rfl (by first | exact .inl rfl | exact .inr rfl)) (pgs_cons (pg_name (i := 18) sc_carried.nd rfl (by first | exact .inl rfl | exact .inr rfl)) pgs_nil))), fun A s H C cl code bi fp hrA => (pts_one (pt_cmpR op_ne (pe_ix (r := rIxT K) ix_tup (pv 15) (pv 12) (fun _ _ => rfl)) (pv 16) (nomark _))), fun A s H C cl code bi fp hrA => (pv 18), fun _ => rfl⟩)))
      (pss_cons (ps_set (i := 19) sc_carried.nd rfl (by first | exact .inl rfl | exact .inr rfl) (pe_callL (i := 3) (ok_with_spin T) (hr.mono (by decide)) rfl (Or.inl rfl) T.F_with_spin.kp T.b_with_spin .nil pass0 (pa_cons (pe_dget (hu_of hr) (pv 5) (pv 15) (fun _ _ => rfl)) (pa_cons (pv 7) (pa_cons (pv 16) (pa_cons (pv 17) pa_nil))))))
      (pss_cons (ps_set (i := 20) sc_carried.nd rfl (by first | exact .inl rfl | exact .inr rfl) (pe_op op_catA (pv 15) (pe_tup (pa_cons (pv 16) pa_nil))))
      (pss_cons (ps_set (i := 21) sc_carried.nd rfl (by first | exact .inl rfl | exact .inr rfl) (GXP.pe_tupleGx (own := [("place", 12)]) (g := gName 12) (tt := tYes) (k := 0) (c := T.c_carried) (P := T.P_carried) (by rfl) T.m_tuple ⟨hr.mono (by decide), rfl, B.t_carried, rfl, rfl, blkOk_by (own := [("place", 12)]) (N := n_carried) (sc := defScope s_carried) (by decide +kernel), sc_carried.nd, by decide +kernel, rfl, (pi_list (pv 11)), fun A s H C cl code bi fp hrA => (pg_name (i := 12) sc_carried.nd rfl (by first | exact .inl rfl | exact .inr rfl)), fun A s H C cl code bi fp hrA => pts_nil, fun A s H C cl code bi fp hrA => (pe_ix (r := rIxT K) ix_tup (pv 20) (pv 12) (fun _ _ => rfl)), fun _ => rfl⟩))
      (pss_one (ps_dput (hu_of hr) (pv 14) (pv 21) (pe_ifExp (pt_cmp (pc_din (hu_of hr) (pv 21) (pv 14))) (pe_callL (i := 4) (ok_lesser T) (hr.mono (by decide)) rfl (Or.inl rfl) T.F_lesser.kp T.b_lesser .nil pass0 (pa_cons (pe_dget (hu_of hr) (pv 14) (pv 21) (fun _ _ => rfl)) (pa_cons (pv 19) pa_nil))) (pv 19)) rfl))))))))))
      (pss_cons (ps_set (i := 5) sc_carried.nd rfl (by first | exact .inl rfl | exact .inr rfl) (pv 14))
      (pss_one (ps_set (i := 6) sc_carried.nd rfl (by first | exact .inl rfl | exact .inr rfl) (pe_lc (own := [("place", 12)]) (g := gName 12) (tt := tYes) rfl sc_carried.nd (pi_list (pv 11)) (blkOk_by (own := [("place", 12)]) (N := n_carried) (sc := defScope s_carried) (by decide +kernel)) (fun _ _ _ _ _ => (pg_name (i := 12) sc_carried.nd rfl (by first | exact .inl rfl | exact .inr rfl))) (fun _ _ _ _ _ => pts_nil) (fun _ _ _ _ _ => (pe_ix (r := rIxL K) ix_list (pv 6) (pv 12) (fun _ _ => rfl)))))))))))))
      (pss_one (ps_ret (pe_dget (hu_of hr) (pv 5) (pe_tup pa_nil) (fun _ _ => rfl))))))), ?_⟩
  have hp0 := hp
  obtain ⟨gf, ge, dx, fb, eb, ys, h1, h2, h3, h4⟩ := hp
  have hn := isOrd_nodup hord
  have hom : ∀ v, v ∈ os ↔ 0 ≤ v ∧ v < fs.length := fun v => (List.Perm.mem_iff hord).trans mem_rng
  have hol : os.length = fs.length := (List.Perm.length_eq hord).trans (rng_len _)
  have hin := inR_of ge
  have hoe : ∀ e ∈ prsOf es, e.1 ∈ os ∧ e.2 ∈ os := fun e m => by
    obtain ⟨a1, a2, a3, a4, _⟩ := hin e m
    exact ⟨(hom _).mpr ⟨a1, a2⟩, (hom _).mpr ⟨a3, a4⟩⟩
  have le24 := ge.1
  have lpr : (prsOf es).length = es.length := List.length_map _
  have lpe : (prsOf es).length < 1000000 := by omega
  refine fun d0 hd0 => ?_
  have x0 := ext_upd (o := .dT []) hd0
  have k0 : upd H d0 (.dT []) d0 = some (.dT []) := upd_same
  generalize upd H d0 (.dT []) = H0 at *
  refine ⟨by rw [sizeLine_eq]; simp, fun kt hkt => ?_⟩
  have x1 := ext_upd (o := .tup []) hkt
  have k1 : upd H0 kt (.tup []) kt = some (.tup []) := upd_same
  generalize upd H0 kt (.tup []) = H1 at *
  refine ⟨_, rfl, x1.keep _ _ k0 (fun _ z => by cases z), kt, [], rfl, k1, ?_⟩
  have s2 : Ext H (upd H1 d0 (.dT [([], v0)])) := (x0.trans x1).own hd0
  have k2 : upd H1 d0 (.dT [([], v0)]) d0 = some (.dT [([], v0)]) := upd_same
  have T0 : KvsM (lsA K fs.length os 0) (upd H1 d0 (.dT [([], v0)])) [([], v0)] [([], trS.one)] := .cons ⟨rfl, (lsA K fs.length os 0).keep s2.kp hv0⟩ .nil
  generalize upd H1 d0 (.dT [([], v0)]) = H2 at *
  refine ⟨by rw [sizeLine_eq]; simp, fun l0 hl0 => ?_⟩
  have x3 := ext_upd (o := .lst []) hl0
  have k3 : upd H2 l0 (.lst []) l0 = some (.lst []) := upd_same
  have k2' := x3.keep _ _ k2 (fun _ z => by cases z)
  have T0' := T0.kp x3.kp
  have s3 := s2.trans x3
  have nl0 := s2.free hl0
  generalize upd H2 l0 (.lst []) = HB at *
  have s3a := s3.sq ho
  refine ⟨_, rfl, p, T.C_Spins, dx, _, .ref eb, rfl, s3.keep _ _ h1 (fun _ z => by cases z), T.cl_Spins, T.na_Spins_edges, rfl, _, rfl, eb, oa, ys, prsOf es, os, rfl, s3.tup h3, edgeU_of (s3.edges h4), s3a, hn, hoe, lpe, by omega, fun bl HS ys2 sS nb hbl hst => ?_⟩
  have ls : (stepsOf os (prsOf es)).length = os.length := List.length_mapIdx
  have lys := hst.length
  rw [ls] at lys
  have lst : (fstsL fs.length fs os es).length = os.length := List.length_mapIdx
  refine ⟨bl, rfl, ⟨_, SqL.of hbl⟩, for_list (xs := ys2) (fun i σ HA => ∃ td fd kvs z7 z8 z9 z10 z11 z12 z13 z14 z15 z16 z17 z18 z19 z20 z21, σ = [some (.ref p), some (.ref oa), some v0, some (.ref T.f_with_spin), some (.ref T.f_lesser), some (.ref td), some (.ref fd), z7, z8, z9, z10, z11, z12, z13, z14, z15, z16, z17, z18, z19, z20, z21] ∧ Ext H HA ∧ Keep HS HA ∧ NK HB HS HA ∧ (HB fd ≠ none ∨ ∀ u, HS fd = some u → ∃ ps, u = HO.tbl ps) ∧ H td = none ∧ H fd = none ∧ HA td = some (.dT kvs) ∧ KvsM (lsA K fs.length os i) HA kvs (runF trS monT ((fstsL fs.length fs os es).take i) [([], trS.one)]) ∧ HA fd = some (.lst ((FvO os (prsOf es) i).map V.int)))
    ⟨d0, l0, _, _, _, _, _, _, _, _, _, _, _, _, _, _, _, _, rfl, s3.trans sS, Keep.refl _, fun a u n e t => e, .inl (by rw [k3]; exact fun z => nomatch z), hd0, nl0, sS.keep _ _ k2' (fun _ z => by cases z), T0'.kp sS.kp, sS.lst k3⟩ (fun i σ HA _ h => ?_) (fun i x σ HA hi hP => ?_) (fun σ HA hP => ?_)⟩
  · obtain ⟨_, _, _, _, _, _, _, _, _, _, _, _, _, _, _, _, _, _, _, _, _, nk, _⟩ := h
    exact SqL.of (nk _ _ nb hbl (fun _ z => by cases z))
  · obtain ⟨td, fd, kvs, z7, z8, z9, z10, z11, z12, z13, z14, z15, z16, z17, z18, z19, z20, z21, rfl, sA, kA, nk, nfd, ntd, nfd0, htd, hkv, hfd⟩ := hP
    obtain ⟨stp, hsi, a, b, c, rfl, ha, hb, hc, fb0, fc0⟩ := paired_at hst hi
    have hil : i < os.length := by
      have := (List.getElem?_eq_some_iff.mp hi).1
      omega
    obtain ⟨v, hv⟩ : ∃ v, os[i]? = some v := ⟨_, List.getElem?_eq_getElem hil⟩
    have e1 : stp = stepOf os (prsOf es) i v := by
      unfold stepsOf at hsi
      rw [List.getElem?_mapIdx, hv] at hsi
      exact (Option.some.inj hsi).symm
    subst e1
    have hst1 : (fstsL fs.length fs os es)[i]? = some (fstL fs.length fs os es i v) := by rw [fstsL_at, hv]; rfl
    have haA : HA a = some (.tup [.int v, .ref b, .ref c]) := kA _ _ ha (.inl ⟨_, rfl⟩)
    have hbA : HA b = some (.lst ((backs os (prsOf es) v).map V.int)) := nk _ _ fb0 hb (fun _ z => by cases z)
    have hcA : HA c = some (.lst ((os.filter fun w => decide (lvF os (prsOf es) w = (i : Int))).map V.int)) := nk _ _ fc0 hc (fun _ z => by cases z)
    have hvr := (hom v).mp (List.mem_of_getElem? hv)
    refine ⟨a, _, rfl, SqT.of haA, rfl, _, _, rfl, _, _, rfl, _, _, rfl, rfl, ?_⟩
    dsimp only [gName]
    have lF := fv_len os (prsOf es) i
    have lbk := backs_len os (prsOf es) v
    have hFin : ∀ w ∈ FvO os (prsOf es) i, w ∈ os := fun w m => List.mem_of_mem_take (List.mem_filter.mp m).1
    refine ⟨_, rfl, _, rfl, _, rfl, _, rfl, p, fd, b, fs, es, FvO os (prsOf es) i, backs os (prsOf es) v, v, rfl, hp0.up sA, hfd, hbA, by omega, fun k mk => ?_, fun lk H2 lxs s2 nlk hlk hlx => ?_⟩
    · obtain ⟨b1, _, _⟩ := back_ends hn hin hoe hv mk
      obtain ⟨j, e, g1, rfl, _⟩ := mem_backs.mp mk
      have := (List.getElem?_eq_some_iff.mp g1).1
      exact ⟨by omega, by omega, b1⟩
    dsimp only [gName]
    have hfd2 := s2.lst hfd
    refine ⟨_, rfl, .inl ⟨rfl, _, SqL.of hfd2⟩, _, rfl, fd, _, _, rfl, rfl, hfd2, sl_lt (by rw [List.length_map]; omega), ?_⟩
    have ntf : td ≠ fd := fun z => by
      rw [z, hfd] at htd
      cases htd
    have nlf : lk ≠ fd := fun z => by
      rw [z, hfd] at nlk
      cases nlk
    have sA3 : Ext H (upd H2 fd (.lst ((FvO os (prsOf es) i).map V.int ++ [V.int v]))) := (sA.trans s2).own nfd0
    have kH : Keep HA (upd H2 fd (.lst ((FvO os (prsOf es) i).map V.int ++ [V.int v]))) := s2.kp.trans (keep_upd hfd2 ntp_lst)
    have nk3 : NK HB HS (upd H2 fd (.lst ((FvO os (prsOf es) i).map V.int ++ [V.int v]))) := (nk.up s2).set nfd
    have htd3 : upd H2 fd (.lst ((FvO os (prsOf es) i).map V.int ++ [V.int v])) td = some (.dT kvs) := by
      rw [upd_ne ntf]
      exact s2.keep _ _ htd (fun _ z => by cases z)
    have hlk3 : upd H2 fd (.lst ((FvO os (prsOf es) i).map V.int ++ [V.int v])) lk = some (.lst lxs) := by
      rw [upd_ne nlf]
      exact hlk
    have hlx3 := lk_lst (o := .lst ((FvO os (prsOf es) i).map V.int ++ [V.int v])) hfd2 hlx
    have hkv3 := hkv.kp kH
    have kA3 := kA.trans kH
    have hfd3 : upd H2 fd (.lst ((FvO os (prsOf es) i).map V.int ++ [V.int v])) fd = some (.lst ((FvO os (prsOf es) i ++ [v]).map V.int)) := by
      rw [upd_same, List.map_append]
      rfl
    generalize upd H2 fd (.lst ((FvO os (prsOf es) i).map V.int ++ [V.int v])) = H3 at *
    have hcA3 : H3 c = some (.lst ((os.filter fun w => decide (lvF os (prsOf es) w = (i : Int))).map V.int)) := nk3 _ _ fc0 hc (fun _ z => by cases z)
    have hFv : ∀ w ∈ FvO os (prsOf es) i ++ [v], w ∈ os := fun w m => by
      rcases List.mem_append.mp m with m | m
      · exact hFin w m
      · rw [List.mem_singleton.mp m]
        exact List.mem_of_getElem? hv
    have est : stayO os (prsOf es) i v = (List.range (FvO os (prsOf es) i ++ [v]).length).filter fun p => decide (p < (FvO os (prsOf es) i ++ [v]).length ∧ lvF os (prsOf es) ((FvO os (prsOf es) i ++ [v]).getD p 0) ≠ (i : Int)) := stay_ext (by rw [List.length_append, List.length_singleton]; omega)
    have elnk : lnkO os es i v = lnks (FvO os (prsOf es) i) es (backs os (prsOf es) v) v := rfl
    rw [← elnk] at hlx3
    generalize hFF : FvO os (prsOf es) i ++ [v] = FF at *
    refine ⟨_, rfl, fd, _, H3, rfl, Ext.refl _, .inl (SqL.of hfd3), fun J wJ D hD => w_enum wJ (fun j H4 => Ext H3 H4 ∧ H4 D = some (.lst (stV ((List.range j).filter fun p => decide (p < FF.length ∧ lvF os (prsOf es) (FF.getD p 0) ≠ (i : Int)))))) ⟨ext_upd hD, upd_same⟩ (fun j H4 _ h => h.1) (fun j x T4 H4 hj hP hT => ?_) (fun H4 hP => ?_)⟩
    · obtain ⟨s4, hD4⟩ := hP
      rw [List.getElem?_map] at hj
      obtain ⟨w, hw, rfl⟩ := Option.map_eq_some_iff.mp hj
      have hjl := (List.getElem?_eq_some_iff.mp hw).1
      have egd : FF.getD j 0 = w := by rw [List.getD_eq_getElem?_getD, hw]; rfl
      have x4 := ext_upd (o := .tup [V.int (j : Int), .int w]) hT
      refine ⟨T4, _, rfl, SqT.of upd_same, rfl, _, _, rfl, _, _, rfl, rfl, ?_⟩
      have hD5 := x4.lst hD4
      have hc5 := x4.lst (s4.lst hcA3)
      generalize upd H4 T4 (.tup [V.int (j : Int), .int w]) = H5 at *
      have hnil : ((List.range j).filter fun p => decide (p < FF.length ∧ lvF os (prsOf es) (FF.getD p 0) ≠ (i : Int))).length ≤ j := Nat.le_trans (List.length_filter_le _ _) (by rw [List.length_range]; exact Nat.le_refl _)
      have hFl : FF.length ≤ i + 1 := by
        rw [← hFF, List.length_append, List.length_singleton]
        omega
      have hwo := hFv w (List.mem_of_getElem? hw)
      refine ⟨rfl, _, rfl, _, rfl, c, _, rfl, .inl (SqL.of hc5), rfl, flat_ints _, _, rfl, iteB (fun z => ?_) (fun z => ?_)⟩
      · rw [dec_in] at z
        have hq : lvF os (prsOf es) (FF.getD j 0) ≠ (i : Int) := fun e => by
          rw [egd] at e
          have hm : w ∈ os.filter fun w => decide (lvF os (prsOf es) w = (i : Int)) := List.mem_filter.mpr ⟨hwo, decide_eq_true e⟩
          rw [decide_eq_true hm] at z
          cases z
        refine ⟨_, rfl, _, hD5, sl_lt (by unfold stV; rw [List.length_map]; omega), (s4.trans x4).own hD, ?_⟩
        rw [upd_same, List.range_succ, List.filter_append, List.filter_cons_of_pos (by exact decide_eq_true ⟨hjl, hq⟩), List.filter_nil]
        unfold stV
        rw [List.map_append]
        rfl
      · rw [dec_in] at z
        have hq : ¬ lvF os (prsOf es) (FF.getD j 0) ≠ (i : Int) := fun hne => by
          rw [egd] at hne
          have hm : w ∉ os.filter fun w => decide (lvF os (prsOf es) w = (i : Int)) := fun m => hne (of_decide_eq_true (List.mem_filter.mp m).2)
          rw [decide_eq_false hm] at z
          cases z
        refine ⟨s4.trans x4, ?_⟩
        rw [List.range_succ, List.filter_append, List.filter_cons_of_neg (by rw [decide_eq_false (fun h => hq h.2)]; decide), List.filter_nil, List.append_nil]
        exact hD5
    obtain ⟨s4, hD4⟩ := hP
    rw [List.length_map, ← est] at hD4
    have sA4 := sA3.trans s4
    have kA4 := kA3.trans s4.kp
    have nk4 := nk3.up s4
    have htd4 := s4.keep _ _ htd3 (fun _ z => by cases z)
    have hlk4 := s4.lst hlk3
    have hlx4 := lk_up s4 hlx3
    have hkv4 := hkv3.kp s4.kp
    have hfd4 := s4.lst hfd3
    have nD := sA3.free hD
    clear hD s4
    dsimp only [gName]
    refine fun gd hgd => ?_
    have ngt : gd ≠ td := fun z => by
      rw [z, htd4] at hgd
      cases hgd
    refine ⟨td, _, (show upd H4 gd (.dT []) td = some (.dT kvs) by rw [upd_ne (Ne.symm ngt)]; exact htd4), trivial, fun od => ?_⟩
    dsimp only [gName]
    rw [upd_swap ngt]
    have hX : upd H4 td (.frz od (.dT kvs)) gd = none := by
      rw [upd_ne ngt]
      exact hgd
    have dX : upd H4 td (.frz od (.dT kvs)) td = some (.frz od (.dT kvs)) := upd_same
    have kX : Keep H4 (upd H4 td (.frz od (.dT kvs))) := keep_upd htd4 ntp_dt
    have gX : Tg T (upd H4 td (.frz od (.dT kvs))) := tg_lockT (G.ext sA4) htd4 (fun _ z => by cases z)
    have sX : Ext H (upd H4 td (.frz od (.dT kvs))) := sA4.own ntd
    have vX := hkv4.kp kX
    have ne1 : lk ≠ td := fun z => by
      rw [z, htd4] at hlk4
      cases hlk4
    have ne2 : D ≠ td := fun z => by
      rw [z, htd4] at hD4
      cases hD4
    have lkX : upd H4 td (.frz od (.dT kvs)) lk = some (.lst lxs) := by
      rw [upd_ne ne1]
      exact hlk4
    have lxX : Paired (LkAt K (upd H4 td (.frz od (.dT kvs)))) lxs (lnkO os es i v) := paired_imp (fun _ _ ⟨a, e, h⟩ => ⟨a, e, kX.tup h⟩) hlx4
    have DX : upd H4 td (.frz od (.dT kvs)) D = some (.lst (stV (stayO os (prsOf es) i v))) := by
      rw [upd_ne ne2]
      exact hD4
    have unl : ∀ H', Ext (upd H4 td (.frz od (.dT kvs))) H' → Ext H4 (upd H' td (.dT kvs)) := fun H' s => ext_unlock htd4 (fun _ z => by cases z) s
    generalize upd H4 td (.frz od (.dT kvs)) = HX at *
    have sG := ext_upd (o := .dT []) hX
    have kG : upd HX gd (.dT []) gd = some (.dT []) := upd_same
    have dG := sG.keep _ _ dX (fun _ z => by cases z)
    generalize upd HX gd (.dT []) = HG at *
    have lkv := hkv.length
    have hkl := run_keysL (fs := fs) (es := es) hn i (by omega)
    obtain ⟨ndL, llL⟩ := runG_size trS monT ((fstsL fs.length fs os es).take i) [([], trS.one)] (by simp [MG.keysA])
    have lti : ((fstsL fs.length fs os es).take i).length = i := by rw [List.length_take]; omega
    rw [lti, List.length_singleton, Nat.mul_one] at llL
    have p128 : 2 ^ i ≤ 128 := Nat.le_trans (Nat.pow_le_pow_right (by decide) (show i ≤ 7 by omega)) (by decide)
    rw [take_snoc hst1]
    simp only [runF_snoc]
    generalize hL : runF trS monT ((fstsL fs.length fs os es).take i) [([], trS.one)] = L at *
    have lkl : ∀ l ∈ lnkO os es i v, l.1 < (FvO os (prsOf es) i).length ∧ -9 ≤ l.2 ∧ l.2 ≤ 9 := fun l ml => by
      obtain ⟨k, mk, rfl⟩ := List.mem_map.mp ml
      obtain ⟨b1, _, _⟩ := back_ends hn hin hoe hv mk
      obtain ⟨j, e, g1, rfl, _⟩ := mem_backs.mp mk
      have hj := (List.getElem?_eq_some_iff.mp g1).1
      rw [Int.toNat_natCast] at b1 ⊢
      have he := ge.2.1 _ (List.mem_of_getElem? (eAt_at (es := es) (show j < es.length by omega)))
      exact ⟨List.idxOf_lt_length_of_mem b1, he.2.2.2.2.1, he.2.2.2.2.2⟩
    have llk : (lnkO os es i v).length ≤ 24 := by
      unfold lnkO
      rw [List.length_map]
      omega
    have hsty : ∀ p ∈ stayO os (prsOf es) i v, p < FF.length := fun p mp => by
      rw [est] at mp
      exact (of_decide_eq_true (List.mem_filter.mp mp).2).1
    have lsty : (stayO os (prsOf es) i v).length ≤ 8 := by
      unfold stayO
      refine Nat.le_trans (List.length_filter_le _ _) ?_
      rw [List.length_range]
      omega
    have lFF : FF.length = (FvO os (prsOf es) i).length + 1 := by rw [← hFF, List.length_append, List.length_singleton]
    refine ⟨_, rfl, td, od, rfl, .inr ⟨kvs, dG, for_keysT (fun t σ HC => (∃ z12 z13 z15 z16 z17 z18 z19 z20 z21, σ = [some (.ref p), some (.ref oa), some v0, some (.ref T.f_with_spin), some (.ref T.f_lesser), some (.ref td), some (.ref fd), some (.int v), some (.ref b), some (.ref c), some (.ref lk), some (.ref D), z12, z13, some (.ref gd), z15, z16, z17, z18, z19, z20, z21]) ∧ Ext HX HC ∧ ∃ kg, HC gd = some (.dT kg) ∧ KvsM (lsA K fs.length os (i + 1)) HC kg ((L.take t).foldl (c2F trS monT (fstL fs.length fs os es i v)) [])) ⟨⟨_, _, _, _, _, _, _, _, _, rfl⟩, sG, [], kG, .nil⟩ (fun t σ HC _ h => h.2.1.keep _ _ dX (fun _ z => by cases z)) (fun t k val kq σ HC hkt hqk hP => ?_) (fun σ HC hP => ?_)⟩⟩
    · obtain ⟨⟨z12, z13, z15, z16, z17, z18, z19, z20, z21, rfl⟩, sC, kg, hgC, hkg⟩ := hP
      obtain ⟨⟨m, xm⟩, hLt, hk1, hvx⟩ := paired_at vX hkt
      have hk1 : k = encI m := hk1
      subst hk1
      have hvx : (lsA K fs.length os i).Val HX val xm := hvx
      obtain ⟨pa, pc, pst, rfl, hpr0, hpl, hpb, hpz, rfl⟩ := hvx
      rw [encI_kV] at hqk
      have hLm := List.mem_of_getElem? hLt
      have hget : valV kvs (encI m) = some (.ref pa) := kvm_at hkv ndL hkt
      have hml : m.length = (FvO os (prsOf es) i).length := hkl m (List.mem_map.mpr ⟨_, hLm, rfl⟩)
      obtain ⟨nd0, l0'⟩ := cgoG_size trS monT (fstL fs.length fs os es i v) (L.take t) [] (by simp [MG.keysA])
      rw [List.length_nil, Nat.zero_add] at l0'
      have lt2 : (L.take t).length ≤ L.length := by rw [List.length_take]; omega
      rw [take_snoc hLt, List.foldl_append]
      generalize (L.take t).foldl (c2F trS monT (fstL fs.length fs os es i v)) [] = g at *
      dsimp only [gName]
      refine ⟨sl2, fun t2 ht2 => ?_⟩
      have x5 := ext_upd (o := .tup [V.int 0, .int 1]) ht2
      have m5 : upd HC t2 (.tup [V.int 0, .int 1]) t2 = some (.tup [V.int 0, .int 1]) := upd_same
      have sC5 := sC.trans x5
      have hqk5 := x5.at hqk
      have hg5 := x5.keep _ _ hgC (fun _ z => by cases z)
      have hkg5 := hkg.kp x5.kp
      generalize upd HC t2 (.tup [V.int 0, .int 1]) = H5 at *
      refine ⟨t2, rfl, ⟨_, SqT.of m5⟩, for_tup (xs := [V.int 0, .int 1]) (fun j σ HD => (∃ z12 z13 z16 z17 z18 z19 z20 z21, σ = [some (.ref p), some (.ref oa), some v0, some (.ref T.f_with_spin), some (.ref T.f_lesser), some (.ref td), some (.ref fd), some (.int v), some (.ref b), some (.ref c), some (.ref lk), some (.ref D), z12, z13, some (.ref gd), some (.ref kq), z16, z17, z18, z19, z20, z21]) ∧ Ext HX HD ∧ Keep H5 HD ∧ ∃ kg gj, gj = (([0, 1] : List Int).take j).foldl (fun g s => c1F trS monT (fstL fs.length fs os es i v) (m, some (cd pc pst)) g s) g ∧ HD gd = some (.dT kg) ∧ KvsM (lsA K fs.length os (i + 1)) HD kg gj ∧ (MG.keysA gj).Nodup ∧ gj.length ≤ g.length + j)
        ⟨⟨_, _, _, _, _, _, _, _, rfl⟩, sC5, Keep.refl _, kg, g, rfl, hg5, hkg5, nd0, by omega⟩ (fun j σ HD _ h => SqT.of (h.2.2.1 _ _ m5 (.inl ⟨_, rfl⟩))) (fun j x σ HD hj hP => ?_) (fun σ HD hP => ?_)⟩
      · obtain ⟨⟨z12, z13, z16, z17, z18, z19, z20, z21, rfl⟩, sD, kD, kg, gj, egj, hgD, hkgj, ndj, llj⟩ := hP
        obtain ⟨s, hs, rfl⟩ : ∃ s : Int, ([0, 1] : List Int)[j]? = some s ∧ x = .int s := by
          match j, hj with
          | 0, hj => exact ⟨0, rfl, by simpa using hj.symm⟩
          | 1, hj => exact ⟨1, rfl, by simpa using hj.symm⟩
          | j + 2, hj => simp at hj
        have hj2 : j < 2 := by
          have := (List.getElem?_eq_some_iff.mp hs).1
          simpa using this
        have hs01 : s = 0 ∨ s = 1 := by
          have := List.mem_of_getElem? hs
          simpa using this
        have sHD := sX.trans sD
        have hkqD := kD _ _ hqk5 (.inl ⟨_, rfl⟩)
        dsimp only [gName]
        refine ⟨_, rfl, _, rfl, p, T.C_Spins, dx, _, .ref fb, rfl, sHD.keep _ _ h1 (fun _ z => by cases z), T.cl_Spins, T.na_Spins_fields, rfl, _, rfl, fb, _, v, _, rfl, rfl, sHD.tup h2, atI_fs hvr.1 hvr.2, ?_⟩
        have hlkD := sD.lst lkX
        have lX := lxX.length
        refine ⟨_, _, rfl, rfl, .inl (by rcases hs01 with e | e <;> rw [e] <;> exact ⟨by decide, by decide⟩), _, rfl, lk, rfl, ⟨_, SqL.of hlkD⟩, (gX.ext sD).t_carried, fun HE t3 => ?_⟩
        have eE : Ext HD HE := ext_tabbed (gX.ext sD).t_carried t3
        have hlkE := eE.lst hlkD
        have hkqE := eE.at hkqD
        refine gx_list (xs := lxs) (fun n zs HF => Ext HE HF ∧ zs = ((((lnkO os es i v).take n).filter fun l => decide (m.getD l.1 0 ≠ s)).map fun l => l.2).map V.int) ⟨Ext.refl _, rfl⟩ (fun n zs HF _ h => SqL.of (h.1.lst hlkE)) (fun n x0 zs HF hn2 hP2 => ?_) (fun zs HF hP2 => ?_)
        · obtain ⟨sF, rfl⟩ := hP2
          obtain ⟨⟨pl0, jj⟩, hln, a1, rfl, ha1⟩ := paired_at lxX hn2
          obtain ⟨q1, q2, q3⟩ := lkl _ (List.mem_of_getElem? hln)
          have q1 : pl0 < (FvO os (prsOf es) i).length := q1
          have q2 : -9 ≤ jj := q2
          have q3 : jj ≤ 9 := q3
          have hnl := (List.getElem?_eq_some_iff.mp hln).1
          have hbd := sum_bound (c := 9) (l := (((lnkO os es i v).take n).filter fun l => decide (m.getD l.1 0 ≠ s)).map fun l => l.2) (fun x mx => by
            obtain ⟨l, ml, rfl⟩ := List.mem_map.mp mx
            obtain ⟨_, w1, w2⟩ := lkl l (List.mem_of_mem_take (List.mem_filter.mp ml).1)
            exact ⟨w1, w2⟩)
          have hbl2 : ((((lnkO os es i v).take n).filter fun l => decide (m.getD l.1 0 ≠ s)).map fun l => l.2).length ≤ 24 := by
            rw [List.length_map]
            refine Nat.le_trans (List.length_filter_le _ _) ?_
            rw [List.length_take]
            omega
          refine ⟨a1, _, rfl, (sD.trans (eE.trans sF)).tup ha1, rfl, _, _, rfl, _, _, rfl, rfl, ?_⟩
          refine ⟨rfl, _, rfl, _, rfl, kq, _, (pl0 : Int), _, rfl, rfl, SqT.of (sF.at hkqE), atI_fs (by omega) (by omega), _, rfl, rfl, _, rfl, iteB (fun z => ?_) (fun z => ?_)⟩
          · have hne : m.getD pl0 0 ≠ s := fun e => by
              rw [Int.toNat_natCast, e] at z
              simp at z
            refine ⟨_, rfl, jj, rfl, in_long (by omega), in_long (by rw [sumV_ints]; omega), sF, ?_⟩
            rw [take_snoc hln, List.filter_append, List.filter_cons_of_pos (by simpa using hne), List.filter_nil, List.map_append, List.map_append]
            rfl
          · have hne : ¬ m.getD pl0 0 ≠ s := fun e => by
              rw [Int.toNat_natCast, decide_eq_false (fun w => e (V.int.inj w))] at z
              cases z
            refine ⟨sF, ?_⟩
            rw [take_snoc hln, List.filter_append, List.filter_cons_of_neg (by simpa using hne), List.filter_nil, List.append_nil]
        · obtain ⟨sF, rfl⟩ := hP2
          have epr : s * fs.getD v.toNat 0 + (((((lnkO os es i v).take lxs.length).filter fun l => decide (m.getD l.1 0 ≠ s)).map fun l => l.2)).sum = (fstO fs os es i v).price m s := by
            rw [lX, List.take_length, filt_sum]
            rfl
          refine ⟨_, _, rfl, rfl, ?_⟩
          dsimp only [gName]
          rw [sumV_ints, epr]
          generalize hpr : (fstO fs os es i v).price m s = pr
          have sDF := eE.trans sF
          have sXF := sD.trans sDF
          have tdF := sXF.keep _ _ dX (fun _ z => by cases z)
          have hkqF := sDF.at hkqD
          refine ⟨rfl, _, rfl, _, rfl, td, .ref pa, rfl, .inr ⟨kvs, encI m, kq, .inr ⟨od, tdF⟩, rfl, by rw [encI_kV]; exact hkqF, hget.symm⟩, _, rfl, _, rfl, _, rfl, pa, pc, pst, v.toNat, s, pr, by rw [Int.toNat_of_nonneg hvr.1]; rfl, pr_keep sXF.kp hpr0, by omega, by omega, fun kp HG2 sG2 hkept0 => ?_⟩
          have hkept := paid_val hn hv (fun w mw => (hom w).mp mw) hpl hpb hpz hs01 hkept0
          dsimp only [gName]
          refine ⟨_, rfl, _, rfl, by rw [sizeLine_eq]; simp, fun t6 ht6 => ?_⟩
          have x6 := ext_upd (o := .tup [V.int s]) ht6
          have m6 : upd HG2 t6 (.tup [V.int s]) t6 = some (.tup [V.int s]) := upd_same
          have sX6 := (sXF.trans sG2).trans x6
          have sD6 := (sDF.trans sG2).trans x6
          have hkept6 := (lsA K fs.length os (i + 1)).keep x6.kp hkept
          generalize upd HG2 t6 (.tup [V.int s]) = H6 at *
          refine st_catI (s := m) (z := s) (SqT.of (sD6.at hkqD)) m6 (by omega) (fun lg H7 s7 hlg => ?_)
          dsimp only [gName]
          have sX7 := sX6.trans s7
          have sD7 := sD6.trans s7
          have hkept7 := (lsA K fs.length os (i + 1)).keep s7.kp hkept6
          have hD7 := sX7.lst DX
          refine ⟨_, rfl, D, rfl, ⟨_, SqL.of hD7⟩, (gX.ext sX7).t_carried, fun H8 t8 => ?_⟩
          have e8 : Ext H7 H8 := ext_tabbed (gX.ext sX7).t_carried t8
          refine gx_list (xs := stV (stayO os (prsOf es) i v)) (fun n zs HN => Ext H8 HN ∧ zs = (((stayO os (prsOf es) i v).take n).map fun p => (m ++ [s]).getD p 0).map V.int) ⟨Ext.refl _, rfl⟩ (fun n zs HN _ h => SqL.of ((e8.trans h.1).lst hD7)) (fun n x0 zs HN hn2 hP2 => ?_) (fun zs HN hP2 => ?_)
          · obtain ⟨sN, rfl⟩ := hP2
            obtain ⟨pl0, hpl, rfl⟩ : ∃ pl0 : Nat, (stayO os (prsOf es) i v)[n]? = some pl0 ∧ x0 = V.int ((pl0 : Nat) : Int) := by
              unfold stV at hn2
              rw [List.getElem?_map] at hn2
              obtain ⟨o, g1, g2⟩ := Option.map_eq_some_iff.mp hn2
              exact ⟨o, g1, g2.symm⟩
            have hplt := hsty pl0 (List.mem_of_getElem? hpl)
            have hnl := (List.getElem?_eq_some_iff.mp hpl).1
            refine ⟨rfl, _, rfl, _, rfl, lg, _, (pl0 : Int), _, rfl, rfl, (e8.trans sN).tup hlg, atI_fs (by omega) (by rw [List.length_append, List.length_singleton]; omega), sl_lt (by rw [List.length_map, List.length_map, List.length_take]; omega), sN, ?_⟩
            rw [take_snoc hpl, List.map_append, List.map_append, Int.toNat_natCast]
            rfl
          · obtain ⟨sN, rfl⟩ := hP2
            have lstv : (stV (stayO os (prsOf es) i v)).length = (stayO os (prsOf es) i v).length := List.length_map _
            rw [lstv, List.take_length]
            intro tg htg
            have etg : (stayO os (prsOf es) i v).map (fun p => (m ++ [s]).getD p 0) = tgtF (fstL fs.length fs os es i v) m s := rfl
            rw [etg]
            have x9 := ext_upd (o := .tup ((tgtF (fstL fs.length fs os es i v) m s).map V.int)) htg
            have m9 : upd HN tg (.tup ((tgtF (fstL fs.length fs os es i v) m s).map V.int)) tg = some (.tup ((tgtF (fstL fs.length fs os es i v) m s).map V.int)) := upd_same
            have s79 := (e8.trans sN).trans x9
            dsimp only [gName]
            generalize upd HN tg (.tup ((tgtF (fstL fs.length fs os es i v) m s).map V.int)) = H9 at *
            have sX9 := sX7.trans s79
            have sD9 := sD7.trans s79
            have hkept9 := (lsA K fs.length os (i + 1)).keep s79.kp hkept7
            have hg9 := sD9.keep _ _ hgD (fun _ z => by cases z)
            have hkg9 := hkgj.kp sD9.kp
            have hkD9 := kD.trans sD9.kp
            have tg9 : H9 tg = some (.tup ((encI (tgtF (fstL fs.length fs os es i v) m s)).map kV)) := by rw [encI_kV]; exact m9
            obtain ⟨c1a, c1c⟩ := c1G_size trS monT (fstL fs.length fs os es i v) (m, some (cd pc pst)) ndj s
            have ec1 : c1F trS monT (fstL fs.length fs os es i v) (m, some (cd pc pst)) gj s = MG.addA trS gj (tgtF (fstL fs.length fs os es i v) m s) (trS.mul (some (cd pc pst)) (monT (pr * 2 ^ fs.length + ptV fs.length v s) s)) := by
              rw [← hpr]
              rfl
            refine eval_via (te := tIf _ _ _) (fun v' H' => Ext H9 H' ∧ (lsA K fs.length os (i + 1)).Val H' v' (trS.add (MG.getA trS gj (tgtF (fstL fs.length fs os es i v) m s)) (trS.mul (some (cd pc pst)) (monT (pr * 2 ^ fs.length + ptV fs.length v s) s)))) (fun Q' hQ => ?_) (fun v' HV hv' => ?_)
            · by_cases hm : tgtF (fstL fs.length fs os es i v) m s ∈ MG.keysA gj
              · obtain ⟨v1, ev1, b1, k1, t1, rfl, hb1, l1, u1, z1, e1⟩ := kvm_val hkg9 hm
                obtain ⟨b2, k2, t2, eb2, hb2, l2, u2, z2, e2⟩ := hkept9
                cases eb2
                have dg9 : DGet H9 gd (.ref tg) (some (.ref b1)) := by
                  rw [← ev1]
                  exact DGet.t hg9 tg9
                refine ⟨_, rfl, _, rfl, gd, _, rfl, dg9, _, rfl, iteB (fun _ => ?_) (fun z => by cases z)⟩
                refine ⟨rfl, _, rfl, _, rfl, gd, _, rfl, dg9, _, rfl, b1, kp, (k1, t1), (k2, t2), rfl, hb1, hb2, hQ _ _ ⟨Ext.refl _, ?_⟩⟩
                have e1 : MG.getA trS gj (tgtF (fstL fs.length fs os es i v) m s) = some (cd k1 t1) := e1
                rw [e1, e2]
                exact less_val hb1 hb2 l1 u1 z1 l2 u2 z2
              · have ev1 := kvm_none hkg9 hm
                have dg9 : DGet H9 gd (.ref tg) none := by
                  rw [← ev1]
                  exact DGet.t hg9 tg9
                refine ⟨_, rfl, _, rfl, gd, _, rfl, dg9, _, rfl, iteB (fun z => by cases z) (fun _ => ?_)⟩
                refine ⟨_, rfl, hQ _ _ ⟨Ext.refl _, ?_⟩⟩
                rw [MG.get_none trS hm, trS.zero_add]
                exact hkept9
            · obtain ⟨sV, hvV⟩ := hv'
              have hgV := sV.keep _ _ hg9 (fun _ z => by cases z)
              have tgV := sV.at tg9
              have lkg := hkgj.length
              refine ⟨_, rfl, _, rfl, gd, _, rfl, DPut.t hgV tgV (sl_lt (by omega)), ?_⟩
              refine ⟨⟨_, _, _, _, _, _, _, _, rfl⟩, (sX9.trans sV).own hX, (hkD9.trans sV.kp).trans (keep_upd hgV ntp_dt), _, c1F trS monT (fstL fs.length fs os es i v) (m, some (cd pc pst)) gj s, ?_, upd_same, ?_, c1a, ?_⟩
              · rw [take_snoc hs, List.foldl_append, ← egj]
                rfl
              · rw [ec1]
                exact (kvm_put hvV (hkg9.kp sV.kp)).kp (keep_upd hgV ntp_dt)
              · omega
      · obtain ⟨⟨z12, z13, z16, z17, z18, z19, z20, z21, rfl⟩, sD, kD, kg2, gj, egj, hgD, hkgj, ndj, llj⟩ := hP
        refine ⟨⟨_, _, _, _, _, _, _, _, _, rfl⟩, sD, kg2, hgD, ?_⟩
        have e2 : gj = c2F trS monT (fstL fs.length fs os es i v) g (m, some (cd pc pst)) := egj
        rw [e2] at hkgj
        exact hkgj
    · obtain ⟨⟨z12, z13, z15, z16, z17, z18, z19, z20, z21, rfl⟩, sC, kg, hgC, hkg⟩ := hP
      have tdC := sC.keep _ _ dX (fun _ z => by cases z)
      rw [lkv, List.take_length] at hkg
      have uR := unl HC sC
      have hgR : upd HC td (.dT kvs) gd = some (.dT kg) := by
        rw [upd_ne ngt]
        exact hgC
      have hkR : KvsM (lsA K fs.length os (i + 1)) (upd HC td (.dT kvs)) kg (cStF trS monT (fstL fs.length fs os es i v) L) := hkg.kp (keep_upd tdC ntp_frt)
      refine ⟨tdC, ?_⟩
      generalize upd HC td (.dT kvs) = HR at *
      have hDR := uR.lst hD4
      have hfR := uR.lst hfd4
      have lstv : (stV (stayO os (prsOf es) i v)).length = (stayO os (prsOf es) i v).length := List.length_map _
      refine ⟨_, rfl, _, rfl, D, rfl, ⟨_, SqL.of hDR⟩, fun D2 hD2 => w_list (xs := stV (stayO os (prsOf es) i v)) (fun n HN => Ext HR HN ∧ HN D2 = some (.lst ((((stayO os (prsOf es) i v).take n).map fun p => FF.getD p 0).map V.int))) ⟨ext_upd hD2, upd_same⟩ (fun n HN _ h => SqL.of (h.1.lst hDR)) (fun n x0 HN hn2 hP2 => ?_) (fun HN hP2 => ?_)⟩
      · obtain ⟨sN, hD2N⟩ := hP2
        obtain ⟨pl0, hpl, rfl⟩ : ∃ pl0 : Nat, (stayO os (prsOf es) i v)[n]? = some pl0 ∧ x0 = V.int ((pl0 : Nat) : Int) := by
          unfold stV at hn2
          rw [List.getElem?_map] at hn2
          obtain ⟨o, g1, g2⟩ := Option.map_eq_some_iff.mp hn2
          exact ⟨o, g1, g2.symm⟩
        have hplt := hsty pl0 (List.mem_of_getElem? hpl)
        refine ⟨rfl, _, rfl, _, rfl, fd, _, (pl0 : Int), _, rfl, rfl, SqL.of (sN.lst hfR), atI_fs (by omega) (by omega), _, hD2N, sl_lt (by rw [List.length_map, List.length_map, List.length_take]; omega), sN.own hD2, ?_⟩
        rw [upd_same, take_snoc hpl, List.map_append, List.map_append, Int.toNat_natCast]
        rfl
      · obtain ⟨sN, hD2N⟩ := hP2
        rw [lstv, List.take_length] at hD2N
        have s4N := uR.trans sN
        have efv : (stayO os (prsOf es) i v).map (fun p => FF.getD p 0) = FvO os (prsOf es) (i + 1) := by
          have h1 := stay_map (fun w : Int => w) 0 (fun w => lvF os (prsOf es) w ≠ (i : Int)) (l := FF) (N := i + 1) (by omega)
          rw [List.map_id'] at h1
          rw [fv_succ hn (prsOf es) hv, hFF, ← List.map_id' (FF.filter _), ← h1]
          unfold stayO
          rw [hFF]
        rw [efv] at hD2N
        have nkN := nk4.up s4N
        refine ⟨gd, D2, kg, _, _, _, _, _, _, _, _, _, _, _, _, _, _, _, rfl, sA4.trans s4N, kA4.trans s4N.kp, nkN, ?_, sX.free hX, (sA4.trans uR).free hD2, sN.keep _ _ hgR (fun _ z => by cases z), hkR.kp sN.kp, hD2N⟩
        by_cases hb2 : HB D2 = none
        · refine .inr fun u hu => ?_
          by_cases ht : ∃ ps, u = HO.tbl ps
          · exact ht
          · have := (nk4.up uR) _ _ hb2 hu (fun ps z => ht ⟨ps, z⟩)
            rw [hD2] at this
            cases this
        · exact .inl hb2
  · obtain ⟨td, fd, kvs, z7, z8, z9, z10, z11, z12, z13, z14, z15, z16, z17, z18, z19, z20, z21, rfl, sA, kA, nk, nfd, ntd, nfd0, htd, hkv, hfd⟩ := hP
    rw [lys, List.take_of_length_le (by omega)] at hkv
    obtain ⟨r1, r2⟩ := run_lastL (fs := fs) (es := es) hn hoe (by rw [hol]; exact gf.1)
    obtain ⟨vv, ev, hvv⟩ := kvm_val hkv r2
    rw [show MG.getA (lsA K fs.length os os.length).S = MG.getA trS from rfl, r1] at hvv
    refine ⟨_, rfl, by rw [sizeLine_eq]; simp, fun te hte => ?_⟩
    have xt := ext_upd (o := .tup []) hte
    have mt : upd HA te (.tup []) te = some (.tup []) := upd_same
    generalize upd HA te (.tup []) = HT at *
    refine ⟨td, vv, rfl, ?_, q _ _ (sA.trans xt) ((lsA K fs.length os os.length).keep xt.kp hvv)⟩
    rw [← ev]
    exact DGet.t (xt.keep _ _ htd (fun _ z => by cases z)) mt
/-! ### sum_by_transfer -/
theorem mon_mul (a b c d : Int) : cpS.mul (monC a b) (monC c d) = monC (a + c) (b + d) := cp_ext ((PM.eqv_canon _).trans (by
  show PM.Eqv (mulT [((a, b), 1)] [((c, d), 1)]) [((a + c, b + d), 1)]
  exact .refl _))
theorem sum_zraw (fs : List Int) (es : List Eg) : ∀ l : List (List Int), sumLs cpS (fun st => monC (costZ fs es st) st.sum) l = ⟨canon (l.map (termS fs es)), PM.canon_canon _⟩
  | [] => rfl
  | st :: l => by
    rw [sumLs, sum_zraw fs es l]
    refine cp_ext ((PM.eqv_canon _).trans (PM.Eqv.trans ?_ (PM.eqv_canon _).symm))
    exact (PM.Eqv.refl [termS fs es st]).append (PM.eqv_canon _)
def spTr (T : Top K mg) : Sp := fun vs H Q E => ∃ (p oa : Addr) (fs : List Int) (es : List Eg) (os : List Int), vs = [.ref p, .ref oa] ∧ SpAt T H p fs es ∧ SqL K H oa (os.map V.int) ∧ os.length < 64 ∧ fs.length ≤ 8 ∧ Tg T H ∧
  (isOrd fs.length os → ∀ v H', Ext H H' → (∃ a, v = .ref a ∧ PolyAt K H' a (canon (zraw fs es))) → Q v H') ∧ (¬ isOrd fs.length os → ∀ H', Ext H H' → E (.ref T.f_InvalidOrder) none H')
theorem ok_sum_by_transfer (T : Top K mg) (B : Tb T base) : FnOk P w K mg base (L2.CX P w) 6 T.f_sum_by_transfer T.d_sum_by_transfer ["spins", "order"] (spTr T) := by
  refine T.F_sum_by_transfer.okX sc_sum_by_transfer (fun vs H Q E h => ?_) (fun cdv A outer s H vs Q E hr h => ?_)
  · obtain ⟨p, oa, fs, es, os, rfl, _⟩ := h
    rfl
  obtain ⟨p, oa, fs, es, os, rfl, hp, ho, lo, l8, G, q1, q2⟩ := h
  refine ⟨_, (pss_cons (ps_expr (pe_call (ok_check_order T) (hr.mono (by decide)) (by rfl) T.g_check_order T.F_check_order.kp T.b_check_order .nil (passes_call (takes_of rfl rfl rfl rfl) (fun _ _ _ _ h => h)) (pa_cons (pv 0) (pa_cons (pv 1) pa_nil))))
      (pss_one (ps_ret (pe_call (ok_carried T B) (hr.mono (by decide)) (by rfl) T.g_carried T.F_carried.kp T.b_carried .nil pass0 (pa_cons (pv 0) (pa_cons (pv 1) (pa_cons (pe_glob (v := .ref T.f_ONE) (by rfl) T.g_ONE rfl) (pa_cons (pe_glob (v := .ref T.f_times_spin) (by rfl) T.g_times_spin rfl) (pa_cons (pe_glob (v := .ref T.f_plus) (by rfl) T.g_plus rfl) pa_nil))))))))), ?_⟩
  refine ⟨_, rfl, _, rfl, p, oa, fs, es, os, rfl, hp, ho, lo, fun hord H1 s1 => ?_, fun h H1 s1 => q2 h H1 s1⟩
  refine ⟨_, rfl, _, rfl, p, oa, .ref T.f_ONE, fs, es, os, rfl, hp.up s1, .inl (s1.seq ho), hord, l8, ⟨_, rfl, T.k_ONE _⟩, G.ext s1, fun v H2 s2 hv => q1 hord v H2 (s1.trans s2) ?_⟩
  obtain ⟨a, rfl, ha⟩ := hv
  refine ⟨a, rfl, ?_⟩
  have e := carried_sum cpS monC rfl mon_mul hord rfl (inR_of hp.ge)
  rw [e, sum_zraw] at ha
  exact ha
/-! ### least_by_transfer -/
theorem flat0 (x : V) : ∀ k : Nat, (List.replicate k [x]).flatten = List.replicate k x
  | 0 => rfl
  | k + 1 => by rw [List.replicate_succ, List.flatten_cons, flat0 x k]; rfl
theorem zeros_tup {H : Hp} {t0 : Addr} {n : Nat} {Q : VK} (k1 : H t0 = some (.tup [V.int 0])) (hn : n ≤ 100) (q : ∀ p H', Ext H H' → SqT K H' p ((List.replicate n (0 : Int)).map V.int) → Q (.ref p) H') : rRepA K (.ref t0) (.int (n : Int)) H Q := by
  refine ⟨t0, n, [V.int 0], rfl, rfl, SqT.of k1, by simp, by omega, by omega, by simp, fun e => ?_, fun _ p hp => ?_⟩
  · have : n = 1 := by omega
    subst this
    exact q _ _ (Ext.refl H) (SqT.of k1)
  · refine q p _ (ext_upd hp) (SqT.of ?_)
    rw [upd_same, Int.toNat_natCast, flat0, List.map_replicate]
theorem cdS_zero : ∀ n : Nat, cdS (List.replicate n 0) = 0
  | 0 => rfl
  | n + 1 => by rw [List.replicate_succ, cdS, cdS_zero n, Int.zero_mul]; rfl
theorem zeros_val {H : Hp} {a b : Addr} {n : Nat} {os : List Int} (h1 : SqT K H a [.int 0, .ref b]) (h2 : SqT K H b ((List.replicate n (0 : Int)).map V.int)) : (lsA K n os 0).Val H (.ref a) (some 0) := by
  refine ⟨a, 0, List.replicate n 0, rfl, ⟨b, h1, h2⟩, List.length_replicate, fun x m => .inl (List.eq_of_mem_replicate m), fun w _ => ?_, ?_⟩
  · rw [List.getD_eq_getElem?_getD, List.getElem?_replicate]
    split <;> rfl
  · unfold cd
    rw [cdS_zero, Int.zero_mul]
    rfl
def spLt (T : Top K mg) : Sp := fun vs H Q E => ∃ (p oa : Addr) (fs : List Int) (es : List Eg) (os : List Int), vs = [.ref p, .ref oa] ∧ SpAt T H p fs es ∧ SqL K H oa (os.map V.int) ∧ os.length < 64 ∧ fs.length ≤ 8 ∧ Tg T H ∧
  (isOrd fs.length os → ∀ a H' c st, Ext H H' → NST.PrN K H' a (c, st) → st.length = fs.length → bits st → WF trS monT (fstsL fs.length fs os es) [] = some (cd c st) → Q (.ref a) H') ∧ (¬ isOrd fs.length os → ∀ H', Ext H H' → E (.ref T.f_InvalidOrder) none H')
theorem ok_least_by_transfer (T : Top K mg) (B : Tb T base) : FnOk P w K mg base (L2.CX P w) 6 T.f_least_by_transfer T.d_least_by_transfer ["spins", "order"] (spLt T) := by
  refine T.F_least_by_transfer.okX sc_least_by_transfer (fun vs H Q E h => ?_) (fun cdv A outer s H vs Q E hr h => ?_)
  · obtain ⟨p, oa, fs, es, os, rfl, _⟩ := h
    rfl
  obtain ⟨p, oa, fs, es, os, rfl, hp, ho, lo, l8, G, q1, q2⟩ := h
  refine ⟨_, (pss_cons (ps_expr (pe_call (ok_check_order T) (hr.mono (by decide)) (by rfl) T.g_check_order T.F_check_order.kp T.b_check_order .nil (passes_call (takes_of rfl rfl rfl rfl) (fun _ _ _ _ h => h)) (pa_cons (pv 0) (pa_cons (pv 1) pa_nil))))
      (pss_cons (ps_set (i := 2) sc_least_by_transfer.nd rfl (by first | exact .inl rfl | exact .inr rfl) (pe_tup (pa_cons pe_int (pa_cons (pe_op op_repA (pe_tup (pa_cons pe_int pa_nil)) (pe_callB call_len_seq (by rfl) T.m_len (by decide +kernel) (pa_cons (pe_fld (pv 0) rfl) pa_nil))) pa_nil))))
      (pss_one (ps_ret (pe_call (ok_carriedL T B) (hr.mono (by decide)) (by rfl) T.g_carried T.F_carried.kp T.b_carried .nil pass0 (pa_cons (pv 0) (pa_cons (pv 1) (pa_cons (pv 2) (pa_cons (pe_glob (v := .ref T.f_with_spin) (by rfl) T.g_with_spin rfl) (pa_cons (pe_glob (v := .ref T.f_lesser) (by rfl) T.g_lesser rfl) pa_nil)))))))))), ?_⟩
  refine ⟨_, rfl, _, rfl, p, oa, fs, es, os, rfl, hp, ho, lo, fun hord H1 s1 => ?_, fun h H1 s1 => q2 h H1 s1⟩
  dsimp only [gName]
  have hp1 := hp.up s1
  have hp1' := hp1
  obtain ⟨gf, ge, dx, fb, eb, ys, h1, h2, h3, h4⟩ := hp1'
  have en : (fs.map V.int).length = fs.length := List.length_map _
  refine ⟨by rw [sizeLine_eq]; simp, fun t0 ht0 => ?_⟩
  have x0 := ext_upd (o := .tup [V.int 0]) ht0
  have k0 : upd H1 t0 (.tup [V.int 0]) t0 = some (.tup [V.int 0]) := upd_same
  generalize upd H1 t0 (.tup [V.int 0]) = H2 at *
  refine ⟨_, rfl, p, T.C_Spins, dx, _, .ref fb, rfl, x0.keep p _ h1 (fun _ z => by cases z), T.cl_Spins, T.na_Spins_fields, rfl, fb, _, rfl, .inr (x0.tup h2), ?_⟩
  rw [en]
  refine zeros_tup k0 (by omega) fun z H3 s3 hz => ⟨sl2, fun t1 ht1 => ?_⟩
  have x1 := ext_upd (o := .tup [V.int 0, .ref z]) ht1
  have k1 : upd H3 t1 (.tup [V.int 0, .ref z]) t1 = some (.tup [V.int 0, .ref z]) := upd_same
  have hz := x1.tup hz
  generalize upd H3 t1 (.tup [V.int 0, .ref z]) = H4 at *
  have sx := (x0.trans s3).trans x1
  dsimp only [gName]
  refine ⟨_, rfl, _, rfl, _, rfl, p, oa, .ref t1, fs, es, os, rfl, hp1.up sx, .inl ((s1.trans sx).seq ho), hord, l8, zeros_val (SqT.of k1) hz, G.ext (s1.trans sx), fun v H5 s5 hv => ?_⟩
  obtain ⟨a, c, st, rfl, hpr, hl, hb, _, e⟩ := hv
  exact q1 hord a H5 c st ((s1.trans sx).trans s5) hpr hl hb e
theorem TermT.upd {H : Hp} {D : Addr} {o : HO} {acc : List V} {v : V} {t : Trm} (hD : H D = some (.lst acc)) (h : TermT H v t) : TermT (L2.upd H D o) v t := by
  obtain ⟨a, b, e, h1, h2⟩ := h
  have n1 : a ≠ D := fun z => by rw [z, hD] at h1; cases h1
  have n2 : b ≠ D := fun z => by
    have h2 : H b = some (.tup [.int t.1.1, .int t.1.2]) := h2
    rw [z, hD] at h2
    cases h2
  exact ⟨a, b, e, by rw [upd_ne n1]; exact h1, by show L2.upd H D o b = _; rw [upd_ne n2]; exact h2⟩
theorem termsT_upd {H : Hp} {D : Addr} {o : HO} {acc : List V} {vs : List V} {ts : List Trm} (hD : H D = some (.lst acc)) (h : TermsT H vs ts) : TermsT (L2.upd H D o) vs ts := paired_imp (fun _ _ k => TermT.upd hD k) h
theorem termT_one {H : Hp} {a b : Addr} {t : Trm} (h1 : H a = some (.tup [.ref b, .int t.2])) (h2 : PairAt H t.1 b) : TermT H (.ref a) t := ⟨a, b, rfl, h1, h2⟩
theorem read_len (D : List Trm) (ks : List Ex) : (PM.read D ks).length ≤ ks.length := by
  unfold PM.read
  rw [List.length_map]
  exact List.length_filter_le _ _
theorem read_yes {D : List Trm} {ks : List Ex} {k : Ex} (nz : look D k ≠ 0) : PM.read D (ks ++ [k]) = PM.read D ks ++ [(k, look D k)] := by
  unfold PM.read
  rw [List.filter_append, List.filter_cons_of_pos (by simp [nz]), List.filter_nil, List.map_append]
  rfl
theorem read_no {D : List Trm} {ks : List Ex} {k : Ex} (nz : look D k = 0) : PM.read D (ks ++ [k]) = PM.read D ks := by
  unfold PM.read
  rw [List.filter_append, List.filter_cons_of_neg (by simp [nz]), List.filter_nil, List.append_nil]
theorem nz_yes {x : Int} (z : (!decide (V.int x = V.int 0)) = true) : x ≠ 0 := fun w => by
  rw [w] at z
  cases z
theorem nz_no {x : Int} (z : (!decide (V.int x = V.int 0)) = false) : x = 0 := by
  have z2 : decide (V.int x = V.int 0) = true := by simpa using z
  exact V.int.inj (of_decide_eq_true z2)
def spLPoly (K : PySem.W.Frag) : Sp := fun vs H Q _ => ∃ (a : Addr) (xs : List V) (ts : List Trm), vs = [.ref a] ∧ (SqL K H a xs ∨ SqT K H a xs) ∧ TermsT H xs ts ∧ ts.length < 1000000 ∧ NewP H Q (canon ts)
theorem ok_law_poly (T : Top K mg) : FnOk P w K mg base CX0 1 T.f_law_poly T.d_law_poly ["terms"] (spLPoly K) := by
  refine T.F_law_poly.ok sc_law_poly (fun vs H Q E h => ?_) (fun cdv A outer s H vs Q E hr h => ?_)
  · obtain ⟨a, xs, ts, rfl, _⟩ := h
    rfl
  · obtain ⟨a, xs, ts, rfl, ha, hts, hlen, q⟩ := h
    refine ⟨_, (pss_cons (ps_set (i := 1) sc_law_poly.nd rfl (by first | exact .inl rfl | exact .inr rfl) pe_dnewT)
      (pss_cons (ps_for PassesOwn.never rfl (pi_seq (pv 0)) (pg_tup rfl (pgs_cons (pg_name (i := 2) sc_law_poly.nd rfl (by first | exact .inl rfl | exact .inr rfl)) (pgs_cons (pg_name (i := 3) sc_law_poly.nd rfl (by first | exact .inl rfl | exact .inr rfl)) pgs_nil))) (pss_one (ps_dput (hu_of hr) (pv 1) (pv 2) (pe_op op_add (pe_dget2 (hu_of hr) (pv 1) (pv 2) pe_int ⟨rfl, rfl, rfl, rfl⟩) (pv 3)) rfl)))
      (pss_one (ps_ret (pe_callTy call_tuple_of (by rfl) T.m_tuple (by decide +kernel) (pa_cons (pe_lc (own := [("key", 2)]) (g := gName 2) rfl sc_law_poly.nd (pi_list (pe_callB (SDT.cr_sortedDT rfl) (by rfl) T.m_sorted (by decide +kernel) (pa_cons (pv 1) pa_nil))) (blkOk_by (own := [("key", 2)]) (N := n_law_poly) (sc := defScope s_law_poly) (by decide +kernel)) (fun _ _ _ _ _ => (pg_name (i := 2) sc_law_poly.nd rfl (by first | exact .inl rfl | exact .inr rfl))) (fun _ _ _ _ _ => pts_one (pt_cmpR op_ne (pe_dget (hu_of hr) (pv 1) (pv 2) (fun _ _ => rfl)) pe_int (nomark _))) (fun _ _ _ _ _ => (pe_tup (pa_cons (pv 2) (pa_cons (pe_dget (hu_of hr) (pv 1) (pv 2) (fun _ _ => rfl)) pa_nil))))) pa_nil)))))), ?_⟩
    intro d hd
    have e1 : Ext H (upd H d (.dT [])) := ext_upd hd
    have hxl := hts.length
    refine ⟨_, rfl, a, rfl, for_seq (xs := xs) ha (fun i σ H1 => (∃ x y, σ = [some (.ref a), some (.ref d), x, y]) ∧ Ext H H1 ∧ H1 d = some (.dT (kvsOf (gather (ts.take i))))) ⟨⟨_, _, rfl⟩, e1, upd_same⟩ (fun i σ H1 _ h => h.2.1) (fun i x σ H1 hi hP => ?_) (fun σ H1 hP => ?_)⟩
    · obtain ⟨⟨x1, x2, rfl⟩, s1, hd1⟩ := hP
      obtain ⟨t, ht, ht1⟩ := paired_at hts hi
      obtain ⟨a1, b1, rfl, g1, g2⟩ := s1.termT ht1
      refine ⟨a1, _, rfl, .inl (.inl g1), rfl, _, _, rfl, _, _, rfl, rfl, ?_⟩
      refine ⟨_, rfl, d, rfl, .inr ⟨_, .inl hd1⟩, _, rfl, _, DGet.t hd1 (k := pairKey t.1) g2, _, rfl, look (gather (ts.take i)) t.1, t.2, getD_kvs _ _, rfl, ?_⟩
      refine ⟨_, rfl, _, rfl, d, _, rfl, DPut.t hd1 (k := pairKey t.1) g2 ?_, ?_⟩
      · have l1 := gather_len (ts.take i)
        have l2 : (ts.take i).length ≤ ts.length := by rw [List.length_take]; omega
        rw [length_kvs]
        exact sl_lt (by omega)
      · refine ⟨⟨_, _, rfl⟩, s1.own hd, ?_⟩
        rw [upd_same, put_kvs, take_snoc ht, gather_snoc]
        rfl
    · obtain ⟨⟨x1, x2, rfl⟩, s1, hd1⟩ := hP
      have l1 := gather_len ts
      rw [hxl, List.take_length] at hd1
      have hn := PM.gather_nodup ts
      refine ⟨_, rfl, d, _, keys (gather ts), rfl, .inl hd1, keys_kvs _, fun ks bs l hp hs hb hl => ?_⟩
      have s2 : Ext H (upd H1 l (.lst (bs.map V.ref))) := s1.new hl
      have kl : ks.length ≤ ts.length := by
        have h3 := hp.length_eq
        have h4 : (keys (gather ts)).length = (gather ts).length := by
          unfold keys
          rw [List.length_map]
        omega
      refine ⟨l, rfl, ⟨_, SqL.of upd_same⟩, fun D hD => lc_list (xs := bs.map V.ref) (fun i H3 => Ext (upd H1 l (.lst (bs.map V.ref))) H3 ∧ ∃ zs, H3 D = some (.lst zs) ∧ TermsT H3 zs (PM.read (gather ts) (ks.take i)))
        ⟨ext_upd hD, [], upd_same, .nil⟩ (fun i H3 _ h => SqL.of (h.1.lst upd_same)) (fun i x H3 hi hP => ?_) (fun H3 hP => ?_)⟩
      · obtain ⟨s3, zs, hz, hy⟩ := hP
        rw [List.getElem?_map] at hi
        cases hbi : bs[i]? with
        | none => rw [hbi] at hi; cases hi
        | some b =>
          rw [hbi] at hi
          cases hi
          obtain ⟨k, hk, hkb⟩ := paired_at' hb hbi
          have e3 : Ext H1 H3 := (ext_upd hl).trans s3
          have hb3 : PairAt H3 k b := e3.at hkb
          have hm : k ∈ keys (gather ts) := hp.mem_iff.mp (List.mem_of_getElem? hk)
          have hg : DGet H3 d (.ref b) (some (.int (look (gather ts) k))) := by
            have := DGet.t (e3.dt hd1) (k := pairKey k) hb3
            rw [valV_kvs, if_pos hm] at this
            exact this
          refine ⟨rfl, _, rfl, _, rfl, d, _, rfl, hg, rfl, _, rfl, iteB (fun z => ?_) (fun z => ?_)⟩
          · refine ⟨_, rfl, _, rfl, _, rfl, d, _, rfl, hg, sl2, fun p2 hp2 => ?_⟩
            have hz2 := (ext_upd (o := .tup [.ref b, .int (look (gather ts) k)]) hp2).lst hz
            refine ⟨zs, hz2, ?_, (s3.new hp2).own hD, zs ++ [.ref p2], upd_same, ?_⟩
            · have l3 := hy.length
              have l4 := read_len (gather ts) (ks.take i)
              have l5 : (ks.take i).length ≤ ks.length := by rw [List.length_take]; omega
              exact sl_lt (by omega)
            · rw [take_snoc hk, read_yes (nz_yes z)]
              exact termsT_upd hz2 (paired_snoc ((ext_upd hp2).termsT hy) ⟨p2, b, rfl, upd_same, (ext_upd hp2).at hb3⟩)
          · refine ⟨s3, zs, hz, ?_⟩
            rw [take_snoc hk, read_no (nz_no z)]
            exact hy
      · obtain ⟨s3, zs, hz, hy⟩ := hP
        have ek : PM.read (gather ts) (ks.take (bs.map V.ref).length) = canon ts := by
          rw [List.length_map, ← hb.length, List.take_length]
          exact PM.read_canon hn (PM.gather_eqv ts) hp (hs.imp fun h => lex_lt.mp h)
        rw [ek] at hy
        have e3 : Ext H H3 := s2.trans s3
        refine ⟨D, zs, rfl, .inl ⟨SqL.of hz, fun p hp2 => ?_⟩⟩
        exact q p _ (e3.new hp2) ⟨zs, upd_same, (ext_upd hp2).termsT hy⟩ (e3.free hp2)
/-- a state -/
def StAt (K : PySem.W.Frag) (H : Hp) (v : V) (st : List Int) : Prop := ∃ a, v = .ref a ∧ SqT K H a (st.map V.int)
theorem _root_.EXT.Ext.sts {H H' : Hp} (s : Ext H H') {xs : List V} {l : List (List Int)} (h : Paired (StAt K H) xs l) : Paired (StAt K H') xs l := paired_imp (fun _ _ ⟨a, e, h⟩ => ⟨a, e, s.tup h⟩) h
theorem sts_lst {H : Hp} {p : Addr} {acc xs : List V} {l : List (List Int)} {o : HO} (hp : H p = some (.lst acc)) (h : Paired (StAt K H) xs l) : Paired (StAt K (upd H p o)) xs l := paired_imp (fun _ _ ⟨a, e, h⟩ => ⟨a, e, sqt_lst hp h⟩) h
def two (s : List Int) : List (List Int) := [s ++ [0], s ++ [1]]
theorem pow8 {n : Nat} (h : n ≤ 8) : 2 ^ n ≤ 256 := Nat.le_trans (Nat.pow_le_pow_right (by decide) h) (by decide)
/-- s + (b,) as a state -/
theorem st_cat {H : Hp} {Q : VK} {a b : Addr} {s : List Int} {z : Int} (h1 : SqT K H a (s.map V.int)) (h2 : H b = some (.tup [V.int z])) (hl : s.length ≤ 100)
    (q : ∀ v H', Ext H H' → (∀ D acc, H D = some (.lst acc) → H' D = some (.lst acc)) → StAt K H' v (s ++ [z]) → Q v H') : rCatA K (.ref a) (.ref b) H Q := by
  refine ⟨a, b, s.map V.int, [V.int z], rfl, rfl, h1, SqT.of h2, sl_of (by rw [List.length_map]; simp only [List.length_cons, List.length_nil]; omega), fun e => ?_, fun _ e => (nomatch e), fun _ _ p hp => ?_⟩
  · have e0 : s = [] := List.map_eq_nil_iff.mp e
    subst e0
    exact q _ _ (Ext.refl H) (fun D acc h => h) ⟨b, rfl, SqT.of h2⟩
  · refine q _ _ (ext_upd hp) (fun D acc h => (ext_upd hp).lst h) ⟨p, rfl, ?_⟩
    rw [List.map_append]
    exact SqT.of upd_same
theorem atI_st {st : List Int} {i : Int} (h0 : 0 ≤ i) (h1 : i < st.length) : atI (st.map V.int) i = some (.int (atS st i)) := by
  obtain ⟨k, rfl⟩ := Int.eq_ofNat_of_zero_le h0
  have hk : k < st.length := by omega
  refine atI_nat (j := k) ?_
  unfold atS
  rw [List.getElem?_map, Int.toNat_natCast, List.getD_eq_getElem?_getD, List.getElem?_eq_getElem hk]
  rfl
def spLStates (K : PySem.W.Frag) : Sp := fun vs H Q _ => ∃ n : Nat, vs = [.int (n : Int)] ∧ n ≤ 8 ∧ ∀ l H' xs, Ext H H' → H l = none → H' l = some (.lst xs) → Paired (StAt K H') xs (states n) → Q (.ref l) H'
theorem ok_law_states (T : Top K mg) : FnOk P w K mg base CX0 1 T.f_law_states T.d_law_states ["count"] (spLStates K) := by
  refine T.F_law_states.ok sc_law_states (fun vs H Q E h => ?_) (fun cdv A outer s H vs Q E hr h => ?_)
  · obtain ⟨n, rfl, _⟩ := h
    rfl
  obtain ⟨n, rfl, l8, q⟩ := h
  refine ⟨_, (pss_cons (ps_set (i := 1) sc_law_states.nd rfl (by first | exact .inl rfl | exact .inr rfl) (pe_lst (pa_cons (pe_tup pa_nil) pa_nil)))
      (pss_cons (ps_for PassesOwn.never rfl (pi_range1 (by rfl) T.m_range (pa_cons (pv 0) pa_nil)) (pg_name (i := 2) sc_law_states.nd rfl (by first | exact .inl rfl | exact .inr rfl)) (pss_cons (ps_set (i := 3) sc_law_states.nd rfl (by first | exact .inl rfl | exact .inr rfl) (pe_lst pa_nil))
      (pss_cons (ps_for PassesOwn.never rfl (pi_list (pv 1)) (pg_name (i := 4) sc_law_states.nd rfl (by first | exact .inl rfl | exact .inr rfl)) (pss_one (ps_aug (i := 3) sc_law_states.nd rfl (by first | exact .inl rfl | exact .inr rfl) (pe_lst (pa_cons (pe_op op_catA (pv 4) (pe_tup (pa_cons pe_int pa_nil))) (pa_cons (pe_op op_catA (pv 4) (pe_tup (pa_cons pe_int pa_nil))) pa_nil))) iop_ext)))
      (pss_one (ps_set (i := 1) sc_law_states.nd rfl (by first | exact .inl rfl | exact .inr rfl) (pv 3))))))
      (pss_one (ps_ret (pv 1))))), ?_⟩
  refine ⟨by rw [sizeLine_eq]; simp, fun e0 he0 => ⟨by rw [sizeLine_eq]; simp, fun l0 hl0 => ?_⟩⟩
  have x0 : Ext H (upd (upd H e0 (.tup [])) l0 (.lst [V.ref e0])) := (ext_upd he0).new hl0
  refine ⟨_, rfl, _, rfl, by omega, by omega, for_range (n := n) (fun i σ H1 => ∃ l x y z xs, σ = [some (.int (n : Int)), some (.ref l), x, y, z] ∧ Ext H H1 ∧ H l = none ∧ H1 l = some (.lst xs) ∧ Paired (StAt K H1) xs (states i))
    ⟨l0, none, none, none, [.ref e0], rfl, x0, (ext_upd he0).free hl0, upd_same, .cons ⟨e0, rfl, SqT.of ((ext_upd hl0).at upd_same)⟩ .nil⟩ (fun i σ H1 hi hP => ?_) (fun σ H1 hP => ?_)⟩
  · obtain ⟨l, x1, y1, z1, xs, rfl, s1, nl, hl, hst⟩ := hP
    have lst := hst.length
    rw [length_states] at lst
    have c256 : xs.length ≤ 256 := by rw [lst]; exact pow8 (by omega)
    refine ⟨by rw [sizeLine_eq]; simp, fun D hD => ?_⟩
    refine ⟨_, rfl, l, rfl, ⟨_, SqL.of ((ext_upd hD).lst hl)⟩, for_list (xs := xs) (fun j σ H2 => ∃ z zs, σ = [some (.int (n : Int)), some (.ref l), some (.int (0 + (i : Int))), some (.ref D), z] ∧ Ext H1 H2 ∧ H2 D = some (.lst zs) ∧ Paired (StAt K H2) zs (((states i).take j).flatMap two) ∧ zs.length = 2 * j)
      ⟨z1, [], rfl, ext_upd hD, upd_same, .nil, rfl⟩ (fun j σ H2 _ ⟨z, zs, h⟩ => SqL.of (h.2.1.lst hl)) (fun j v σ H2 hj hP => ?_) (fun σ H2 hP => ?_)⟩
    · obtain ⟨z2, zs, rfl, s2, hz, hp2, lz⟩ := hP
      have hjl := (List.getElem?_eq_some_iff.mp hj).1
      obtain ⟨st, hsj, a, rfl, ha⟩ := paired_at hst hj
      have tk : ((states i).take (j + 1)).flatMap two = ((states i).take j).flatMap two ++ two st := by
        rw [take_snoc hsj, List.flatMap_append]
        simp
      have lst1 := (states_ok i st (List.mem_of_getElem? hsj)).1
      refine ⟨_, rfl, _, rfl, by rw [sizeLine_eq]; simp, fun c hc => ?_⟩
      have x3 := ext_upd (o := .tup [V.int 0]) hc
      refine st_cat (s := st) (z := 0) (x3.tup (s2.tup ha)) upd_same (by omega) (fun v3 H3 s3 keep3 hv3 => ?_)
      have s23 := x3.trans s3
      refine ⟨_, rfl, by rw [sizeLine_eq]; simp, fun c2 hc2 => ?_⟩
      have x4 := ext_upd (o := .tup [V.int 1]) hc2
      refine st_cat (s := st) (z := 1) (x4.tup (s23.tup (s2.tup ha))) upd_same (by omega) (fun v4 H4 s4 keep4 hv4 => ?_)
      have s24 := s23.trans (x4.trans s4)
      refine ⟨by rw [sizeLine_eq]; simp, fun e he => ?_⟩
      have x5 := ext_upd (o := .lst [v3, v4]) he
      have hD5 := x5.lst (s24.lst hz)
      obtain ⟨a3, rfl, h3⟩ := hv3
      obtain ⟨a4, rfl, h4⟩ := hv4
      refine ⟨D, e, zs, [.ref a3, .ref a4], rfl, rfl, hD5, upd_same, sl_of (by simp only [List.length_append, List.length_cons, List.length_nil]; omega), ?_⟩
      refine ⟨_, _, rfl, ((s2.trans s24).trans x5).own hD, upd_same, ?_, ?_⟩
      · rw [tk]
        refine sts_lst hD5 (paired_app ((s24.trans x5).sts hp2) (.cons ⟨a3, rfl, ?_⟩ (.cons ⟨a4, rfl, ?_⟩ .nil)))
        · exact x5.tup ((x4.trans s4).tup h3)
        · exact x5.tup h4
      · simp only [List.length_append, List.length_cons, List.length_nil]
        omega
    · obtain ⟨z2, zs, rfl, s2, hz, hp2, lz⟩ := hP
      rw [lst, ← length_states, List.take_length] at hp2
      exact ⟨_, rfl, D, _, _, _, zs, rfl, s1.trans s2, s1.free hD, hz, hp2⟩
  · obtain ⟨l, x1, y1, z1, xs, rfl, s1, nl, hl, hst⟩ := hP
    exact ⟨_, rfl, q l H1 xs s1 nl hl hst⟩
def spLCost (K : PySem.W.Frag) : Sp := fun vs H Q _ => ∃ (fa ea a : Addr) (fs : List Int) (xs : List V) (es : List Eg) (st : List Int), vs = [.ref fa, .ref ea, .ref a] ∧ SqL K H fa (fs.map V.int) ∧ SqL K H ea xs ∧ Paired (EdgeAt K H) xs es ∧ SqT K H a (st.map V.int) ∧ st.length = fs.length ∧ bits st ∧ goodF fs ∧ goodE fs.length es ∧
  Q (.int (costZ fs es st)) H
theorem ok_law_cost (T : Top K mg) : FnOk P w K mg base CX0 1 T.f_law_cost T.d_law_cost ["fields", "edges", "state"] (spLCost K) := by
  refine T.F_law_cost.ok sc_law_cost (fun vs H Q E h => ?_) (fun cdv A outer s H vs Q E hr h => ?_)
  · obtain ⟨fa, ea, a, fs, xs, es, st, rfl, _⟩ := h
    rfl
  obtain ⟨fa, ea, a, fs, xs, es, st, rfl, hf, he, hes, ha, hls, hb, gf, ge, q⟩ := h
  have f12 := gf.2.1
  refine ⟨_, (pss_cons (ps_set (i := 3) sc_law_cost.nd rfl (by first | exact .inl rfl | exact .inr rfl) pe_int)
      (pss_cons (ps_for PassesOwn.never rfl (pi_range1 (by rfl) T.m_range (pa_cons (pe_callB call_len_seq (by rfl) T.m_len (by decide +kernel) (pa_cons (pv 0) pa_nil)) pa_nil)) (pg_name (i := 4) sc_law_cost.nd rfl (by first | exact .inl rfl | exact .inr rfl)) (pss_one (ps_aug (i := 3) sc_law_cost.nd rfl (by first | exact .inl rfl | exact .inr rfl) (pe_op op_mul (pe_ix ix_list (pv 0) (pv 4) (fun _ _ => rfl)) (pe_ix ix_tup (pv 2) (pv 4) (fun _ _ => rfl))) ip_add)))
      (pss_cons (ps_for PassesOwn.never rfl (pi_list (pv 1)) (pg_tup rfl (pgs_cons (pg_name (i := 5) sc_law_cost.nd rfl (by first | exact .inl rfl | exact .inr rfl)) (pgs_cons (pg_name (i := 6) sc_law_cost.nd rfl (by first | exact .inl rfl | exact .inr rfl)) (pgs_cons (pg_name (i := 7) sc_law_cost.nd rfl (by first | exact .inl rfl | exact .inr rfl)) pgs_nil)))) (pss_one (ps_if (pt_cmpR op_ne (pe_ix ix_tup (pv 2) (pv 5) (fun _ _ => rfl)) (pe_ix ix_tup (pv 2) (pv 6) (fun _ _ => rfl)) (nomark _)) (pss_one (ps_aug (i := 3) sc_law_cost.nd rfl (by first | exact .inl rfl | exact .inr rfl) (pv 7) ip_add)) pss_nil)))
      (pss_one (ps_ret (pv 3)))))), ?_⟩
  have hl4 := hes.length
  refine ⟨_, rfl, fa, _, rfl, .inl hf, _, rfl, by rw [List.length_map]; omega, by rw [List.length_map]; omega, for_range (n := (fs.map V.int).length) (fun i σ H1 => H1 = H ∧ ∃ x, σ = [some (.ref fa), some (.ref ea), some (.ref a), some (.int (dotC (fs.take i) (st.take i))), x, none, none, none])
    ⟨rfl, none, rfl⟩ (fun i σ H1 hi hP => ?_) (fun σ H1 hP => ?_)⟩
  · obtain ⟨rfl, x, rfl⟩ := hP
    rw [List.length_map] at hi
    have i0 : (0 : Int) + (i : Int) = (i : Int) := Int.zero_add _
    refine ⟨_, rfl, _, rfl, _, rfl, fa, _, _, _, rfl, rfl, hf, (by rw [i0]; exact atI_nat (j := i) (by rw [List.getElem?_map, List.getElem?_eq_getElem hi]; rfl)), _, rfl, _, rfl, a, _, _, _, rfl, rfl, ha, (by rw [i0]; exact atI_nat (j := i) (by rw [List.getElem?_map, List.getElem?_eq_getElem (show i < st.length by omega)]; rfl)), ?_⟩
    have m1 := gf.2.2 _ (List.getElem_mem hi)
    refine ⟨_, _, rfl, rfl, .inl ⟨by omega, by omega⟩, _, _, rfl, rfl, rfl, some (.int (0 + (i : Int))), ?_⟩
    rw [dot_snoc (List.getElem?_eq_getElem hi) (List.getElem?_eq_getElem (show i < st.length by omega))]
    rfl
  · obtain ⟨rfl, x, rfl⟩ := hP
    rw [List.length_map, List.take_length, ← hls, List.take_length, dot_field hb]
    refine ⟨_, rfl, ea, rfl, ⟨_, he⟩, for_list (xs := xs) (fun i σ H2 => H2 = H1 ∧ ∃ y u v j, σ = [some (.ref fa), some (.ref ea), some (.ref a), some (.int (fieldC fs st + edgeC (es.take i) st)), y, u, v, j])
      ⟨rfl, x, none, none, none, ?_⟩ (fun i σ H2 _ h => by rw [h.1]; exact he) (fun i x' σ H2 hi hP => ?_) (fun σ H2 hP => ?_)⟩
    · rw [List.take_zero, show edgeC [] st = 0 from rfl, Int.add_zero]
    · obtain ⟨rfl, y, u1, v1, j1, rfl⟩ := hP
      obtain ⟨⟨u, v, j⟩, hei, a1, rfl, g1⟩ := paired_at hes hi
      have hm := List.mem_of_getElem? hei
      obtain ⟨k1, k2, k3, k4, k5, k6⟩ := ge.2.1 _ hm
      have k1 : 0 ≤ u := k1
      have k2 : u < v := k2
      have k3 : v < fs.length := k3
      refine ⟨a1, _, rfl, g1, rfl, _, _, rfl, _, _, rfl, _, _, rfl, rfl, ?_⟩
      refine ⟨_, rfl, _, rfl, a, _, u, _, rfl, rfl, ha, atI_st k1 (by rw [hls]; omega), _, rfl, _, rfl, a, _, v, _, rfl, rfl, ha, atI_st (by omega) (by rw [hls]; exact k3), rfl, _, rfl, iteB (fun z => ?_) (fun z => ?_)⟩
      · have hne : atS st u ≠ atS st v := fun e => by
          rw [e] at z
          simp at z
        refine ⟨_, rfl, _, rfl, _, _, rfl, rfl, rfl, y, some (.int u), some (.int v), some (.int j), ?_⟩
        have : edgeC (es.take (i + 1)) st = edgeC (es.take i) st + j := by
          unfold edgeC
          rw [take_snoc hei, List.filter_append, List.filter_cons_of_pos (by simpa using hne), List.filter_nil, List.map_append, List.sum_append]
          simp
        rw [this, ← Int.add_assoc]
        rfl
      · have hne : ¬ atS st u ≠ atS st v := fun e => by
          rw [decide_eq_false (fun w => e (V.int.inj w))] at z
          cases z
        refine ⟨rfl, y, some (.int u), some (.int v), some (.int j), ?_⟩
        have : edgeC (es.take (i + 1)) st = edgeC (es.take i) st := by
          unfold edgeC
          rw [take_snoc hei, List.filter_append, List.filter_cons_of_neg (by simpa using hne), List.filter_nil, List.append_nil]
        rw [this]
        rfl
    · obtain ⟨rfl, y, u1, v1, j1, rfl⟩ := hP
      rw [hl4, List.take_length]
      have : fieldC fs st + edgeC es st = costZ fs es st := Int.add_comm _ _
      rw [this]
      exact ⟨_, rfl, q⟩
def spLSum (K : PySem.W.Frag) : Sp := fun vs H Q _ => ∃ (fa ea : Addr) (fs : List Int) (xs : List V) (es : List Eg), vs = [.ref fa, .ref ea] ∧ SqL K H fa (fs.map V.int) ∧ SqL K H ea xs ∧ Paired (EdgeAt K H) xs es ∧ goodF fs ∧ goodE fs.length es ∧ fs.length ≤ 8 ∧
  NewP H Q (canon (zraw fs es))
theorem ok_law_sum (T : Top K mg) : FnOk P w K mg base CX0 2 T.f_law_sum T.d_law_sum ["fields", "edges"] (spLSum K) := by
  refine T.F_law_sum.ok sc_law_sum (fun vs H Q E h => ?_) (fun cdv A outer s H vs Q E hr h => ?_)
  · obtain ⟨fa, ea, fs, xs, es, rfl, _⟩ := h
    rfl
  obtain ⟨fa, ea, fs, xs, es, rfl, hf, he, hes, gf, ge, l8, q⟩ := h
  refine ⟨_, (pss_one (ps_ret (pe_call (ok_law_poly T) (hr.mono (by decide)) (by rfl) T.g_law_poly T.F_law_poly.kp T.b_law_poly .nil pass0 (pa_cons (pe_lc (own := [("state", 2)]) (g := gName 2) (tt := tYes) rfl sc_law_sum.nd (pi_list (pe_call (ok_law_states T) (hr.mono (by decide)) (by rfl) T.g_law_states T.F_law_states.kp T.b_law_states .nil pass0 (pa_cons (pe_callB call_len_seq (by rfl) T.m_len (by decide +kernel) (pa_cons (pv 0) pa_nil)) pa_nil))) (blkOk_by (own := [("state", 2)]) (N := n_law_sum) (sc := defScope s_law_sum) (by decide +kernel)) (fun _ _ _ _ _ => (pg_name (i := 2) sc_law_sum.nd rfl (by first | exact .inl rfl | exact .inr rfl))) (fun _ _ _ _ _ => pts_nil) (fun _ _ _ _ _ => (pe_tup (pa_cons (pe_tup (pa_cons (pe_call (ok_law_cost T) (hr.mono (by decide)) (by rfl) T.g_law_cost T.F_law_cost.kp T.b_law_cost .nil pass0 (pa_cons (pv 0) (pa_cons (pv 1) (pa_cons (pv 2) pa_nil)))) (pa_cons (pe_callB (r := rSumT K) (cr_sumT rfl) (by rfl) T.m_sum (by decide +kernel) (pa_cons (pv 2) pa_nil)) pa_nil))) (pa_cons pe_int pa_nil))))) pa_nil)))), ?_⟩
  have en : (fs.map V.int).length = fs.length := List.length_map _
  refine ⟨_, rfl, fa, _, rfl, .inl hf, fs.length, by rw [en]; rfl, l8, fun l H1 ys s1 nl hl hst => ⟨l, rfl, ⟨_, SqL.of hl⟩, fun D hD => w_list (xs := ys) (fun i H2 => Ext H1 H2 ∧ ∃ zs, H2 D = some (.lst zs) ∧ TermsT H2 zs (((states fs.length).take i).map (termS fs es)))
    ⟨ext_upd hD, [], upd_same, .nil⟩ (fun j H2 _ h => SqL.of (h.1.lst hl)) (fun i v H2 hi hP => ?_) (fun H2 hP => ?_)⟩⟩
  · obtain ⟨s2, zs, hz, hzs⟩ := hP
    obtain ⟨st, hsi, a, rfl, ha⟩ := paired_at hst hi
    have hok := states_ok _ st (List.mem_of_getElem? hsi)
    have s12 := s1.trans s2
    refine ⟨rfl, _, rfl, _, rfl, _, rfl, fa, ea, a, fs, xs, es, st, rfl, s12.seq hf, s12.seq he, s12.edges hes, s2.tup ha, hok.1, hok.2, gf, ge, ?_⟩
    refine ⟨_, rfl, a, st, rfl, s2.tup ha, sl2, fun p1 hp1 => ⟨sl2, fun p2 hp2 => ?_⟩⟩
    have x4 := ext_upd (o := .tup [V.int (costZ fs es st), .int st.sum]) hp1
    have x5 := ext_upd (o := .tup [V.ref p1, .int 1]) hp2
    have hD5 := x5.lst (x4.lst hz)
    have ln := hzs.length
    rw [List.length_map, List.length_take, length_states] at ln
    have := pow8 l8
    refine ⟨zs, hD5, sl_lt (by omega), ((s2.trans x4).trans x5).own hD, zs ++ [.ref p2], upd_same, ?_⟩
    rw [take_snoc hsi, List.map_append]
    exact paired_snoc (termsT_upd hD5 (x5.termsT (x4.termsT hzs))) (TermT.upd hD5 (termT_one (t := termS fs es st) upd_same (x5.at upd_same)))
  · obtain ⟨s2, zs, hz, hzs⟩ := hP
    have l1 := hst.length
    rw [l1, List.take_length] at hzs
    have ln := length_zraw fs es
    have := pow8 l8
    exact ⟨D, zs, zraw fs es, rfl, .inl (SqL.of hz), hzs, by omega, fun p H' s' hp' h0 => q p H' ((s1.trans s2).trans s') hp' ((s1.trans s2).free h0)⟩
/-- len of a list or a tuple -/
def rLenS (K : PySem.W.Frag) : List V → Hp → VK → Prop := fun xs H Q => ∃ p ys, xs = [V.ref p] ∧ (SqL K H p ys ∨ SqT K H p ys) ∧ Q (.int (ys.length : Int)) H
theorem erase_map : ∀ (l : List Int) (k : Nat), (l.map V.int).eraseIdx k = (l.eraseIdx k).map V.int
  | [], _ => rfl
  | _ :: _, 0 => rfl
  | a :: l, k + 1 => by
    show V.int a :: (l.map V.int).eraseIdx k = _
    rw [erase_map l k]
    rfl
theorem erase_perm : ∀ (l : List Int) (k : Nat) (h : k < l.length), (l[k] :: l.eraseIdx k).Perm l
  | [], _, h => absurd h (by simp)
  | _ :: _, 0, _ => List.Perm.refl _
  | a :: l, k + 1, h => by
    have ih := erase_perm l k (Nat.lt_of_succ_lt_succ h)
    exact (List.Perm.swap a _ _).trans (ih.cons a)
def spOrder : Sp := fun vs H Q _ => ∃ (c : Int) (n : Nat), vs = [.int c, .int (n : Int)] ∧ n ≤ 7 ∧ ∀ l H' os, Ext H H' → H l = none → H' l = some (.lst (os.map V.int)) → isOrd n os → Q (.ref l) H'
theorem ok_law_order (T : Top K mg) : FnOk P w K mg base CX0 3 T.f_law_order T.d_law_order ["cell", "count"] spOrder := by
  refine T.F_law_order.ok sc_law_order (fun vs H Q E h => ?_) (fun cdv A outer s H vs Q E hr h => ?_)
  · obtain ⟨c, n, rfl, _⟩ := h
    rfl
  obtain ⟨c, n, rfl, hn7, q⟩ := h
  refine ⟨_, (pss_cons (ps_set (i := 2) sc_law_order.nd rfl (by first | exact .inl rfl | exact .inr rfl) (pe_listRg rfl (by rfl) T.m_list (prg_1 (by rfl) T.m_range (pv 1))))
      (pss_cons (ps_set (i := 3) sc_law_order.nd rfl (by first | exact .inl rfl | exact .inr rfl) (pe_lst pa_nil))
      (pss_cons (ps_for PassesOwn.never rfl (pi_list (pe_call (ok_law_row T) (hr.mono (by decide)) (by rfl) T.g_law_row T.F_law_row.kp T.b_law_row .nil pass0 (pa_cons (pv 0) (pa_cons (pv 1) (pa_cons pe_int pa_nil))))) (pg_name (i := 4) sc_law_order.nd rfl (by first | exact .inl rfl | exact .inr rfl)) (pss_one (ps_expr (pe_bm PySem.F.plainAttrs_list PySem.F.slot_list_append PySem.F.type_list_append mt_append (pv 3) (pa_cons (pe_bm PySem.F.plainAttrs_list PySem.F.slot_list_pop PySem.F.type_list_pop mt_popAt (pv 2) (pa_cons (pe_op op_mod (pv 4) (pe_callB call_len_seq (by rfl) T.m_len (by decide +kernel) (pa_cons (pv 2) pa_nil))) pa_nil)) pa_nil)))))
      (pss_one (ps_ret (pv 3)))))), ?_⟩
  refine ⟨_, rfl, _, rfl, ⟨by decide, by decide, by omega, by omega, by omega⟩, fun l hl => ?_⟩
  have x1 := ext_upd (o := .lst (rgV 0 (n : Int))) hl
  have h1 : upd H l (.lst (rgV 0 (n : Int))) l = some (.lst ((rng n).map V.int)) := by rw [upd_same, rgV_rng]
  generalize upd H l (.lst (rgV 0 (n : Int))) = H1 at *
  refine ⟨by rw [sizeLine_eq]; simp, fun f hf => ?_⟩
  have x2 := x1.new (o := .lst []) hf
  have h2 := (ext_upd (o := .lst []) hf).lst h1
  have nlf : l ≠ f := ne_of_none h1 hf
  have hf0 : H f = none := x1.free hf
  have h3 : upd H1 f (.lst []) f = some (.lst []) := upd_same
  generalize upd H1 f (.lst []) = H2 at *
  refine ⟨_, rfl, _, rfl, c, 60, n, rfl, by omega, by decide, by decide, fun r H3 rs s3 nr hr3 lrs hrs => ?_⟩
  have nlr : l ≠ r := ne_of_none h2 nr
  have nfr : f ≠ r := ne_of_none h3 nr
  refine ⟨r, rfl, ⟨_, SqL.of hr3⟩, for_list (xs := rs.map V.int) (fun i σ H4 => ∃ (x : Option V) (rem fnd : List Int), σ = [some (.int c), some (.int (n : Int)), some (.ref l), some (.ref f), x] ∧ Ext H H4 ∧ H4 l = some (.lst (rem.map V.int)) ∧ H4 f = some (.lst (fnd.map V.int)) ∧ H4 r = some (.lst (rs.map V.int)) ∧ (fnd ++ rem).Perm (rng n) ∧ fnd.length = i)
    ⟨none, rng n, [], rfl, x2.trans s3, s3.lst h2, s3.lst h3, hr3, by simp, rfl⟩ (fun i σ H4 _ ⟨x, rem, fnd, h⟩ => SqL.of h.2.2.2.2.1) (fun i x σ H4 hi hPv => ?_) (fun σ H4 hPv => ?_)⟩
  · obtain ⟨x4, rem, fnd, rfl, s4, hl4, hf4, hr4, hp, lf⟩ := hPv
    obtain ⟨dg, hdg, rfl⟩ := at_int hi
    have hlt := (List.getElem?_eq_some_iff.mp hdg).1
    have lp := hp.length_eq
    rw [List.length_append, rng_len] at lp
    have rpos : 0 < rem.length := by omega
    have lrm : (rem.map V.int).length = rem.length := List.length_map _
    obtain ⟨k, hk, hk2⟩ : ∃ k : Nat, dg % ((rem.map V.int).length : Int) = (k : Int) ∧ k < rem.length := by
      rw [lrm]
      have h1 := Int.emod_nonneg dg (show (rem.length : Int) ≠ 0 by omega)
      have h2 := Int.emod_lt_of_pos dg (show 0 < (rem.length : Int) by omega)
      exact ⟨(dg % (rem.length : Int)).toNat, by omega, by omega⟩
    refine ⟨_, rfl, .inl ⟨rfl, _, SqL.of hf4⟩, _, rfl, .inl ⟨rfl, _, SqL.of hl4⟩, _, rfl, _, rfl, l, _, rfl, .inl (SqL.of hl4), _, _, rfl, rfl, (show (0 : Int) < ((rem.map V.int).length : Int) by rw [lrm]; omega), l, rem.map V.int, _, k, .int rem[k], rfl, rfl, hl4, by rw [hk]; omega, by rw [hk]; omega, by rw [hk]; exact seqIdx (by rw [lrm]; exact hk2), by rw [List.getElem?_map, List.getElem?_eq_getElem hk2]; rfl, ?_⟩
    have hf5 : upd H4 l (.lst ((rem.map V.int).eraseIdx k)) f = some (.lst (fnd.map V.int)) := by
      rw [upd_ne nlf.symm]
      exact hf4
    refine ⟨f, _, _, rfl, rfl, hf5, sl_lt (by rw [List.length_map]; omega), _, rem.eraseIdx k, fnd ++ [rem[k]], rfl, (s4.own hl).own hf0, ?_, ?_, ?_, ?_, by rw [List.length_append, lf]; rfl⟩
    · rw [upd_ne nlf, upd_same, erase_map]
    · rw [upd_same, List.map_append]
      rfl
    · rw [upd_ne nfr.symm, upd_ne nlr.symm]
      exact hr4
    · refine List.Perm.trans ?_ hp
      rw [List.append_assoc]
      exact List.Perm.append_left _ (erase_perm rem k hk2)
  · obtain ⟨x4, rem, fnd, rfl, s4, hl4, hf4, hr4, hp, lf⟩ := hPv
    have lp := hp.length_eq
    rw [List.length_append, rng_len] at lp
    rw [List.length_map] at lf
    have r0 : rem = [] := List.length_eq_zero_iff.mp (by omega)
    subst r0
    rw [List.append_nil] at hp
    exact ⟨_, rfl, q f H4 fnd s4 hf0 hf4 hp⟩
def wWhen (p : Prop) (t : TS) : TS := fun D σ H => p ∧ t D σ H
theorem pss_when {X : Cx} {p : Prop} {b : List Stmt} {t : TS} (h : p → PSs X b t) : PSs X b (wWhen p t) := ⟨fun pins s σ H D I q => (h q.1).run pins s σ H D I q.2⟩
/-! ### the law's question to a list that is no order -/
def spRef (T : Top K mg) : Sp := fun vs H Q _ => ∃ (p oa : Addr) (fs : List Int) (es : List Eg) (os : List Int) (k : Int), vs = [.ref p, .ref oa, .int k] ∧ SpAt T H p fs es ∧ SqL K H oa (os.map V.int) ∧ os.length < 64 ∧ fs.length ≤ 8 ∧ Tg T H ∧ ¬ isOrd fs.length os ∧ ∀ H', Ext H H' → Q (.bl true) H'
theorem ok_law_refused (T : Top K mg) (B : Tb T base) : FnOk P w K mg base CX0 7 T.f_law_refused T.d_law_refused ["spins", "order", "question"] (spRef T) := by
  refine T.F_law_refused.ok sc_law_refused (fun vs H Q E h => ?_) (fun cdv A outer s H vs Q E hr h => ?_)
  · obtain ⟨p, oa, fs, es, os, k, rfl, _⟩ := h
    rfl
  obtain ⟨p, oa, fs, es, os, k, rfl, hp, ho, lo, l8, G, no, q⟩ := h
  refine ⟨_, (pss_one (ps_try_as (i := 3) (tb := fun W => tSeq (tIfS _ (tDrop (tCallS (spTr T) (WE W) _)) (tDrop (tCallS (spLt T) (WE W) _))) _) (ts := fun a cls d => wWhen (cls = .ref T.f_InvalidOrder ∧ d = none) _) (Wout := fun _ _ _ _ => False) rfl rfl sc_law_refused.nd rfl rfl ⟨rfl, by decide, Or.inl T.g_FieldError⟩ takes0 (fun W pn xe tk _ => (pss_cons (ps_if (pt_cmpR op_eq (pv 2) pe_int (nomark _)) (pss_one (ps_expr (pe_callS (ok_sum_by_transfer T B) (hr.mono (by decide)) (by rfl) T.g_sum_by_transfer T.F_sum_by_transfer.kp T.b_sum_by_transfer (fun σ => passAt tk σ) (pa_cons (pv 0) (pa_cons (pv 1) pa_nil))))) (pss_one (ps_expr (pe_callS (ok_least_by_transfer T B) (hr.mono (by decide)) (by rfl) T.g_least_by_transfer T.F_least_by_transfer.kp T.b_least_by_transfer (fun σ => passAt tk σ) (pa_cons (pv 0) (pa_cons (pv 1) pa_nil)))))) (pss_one (ps_ret pe_bl)))) (fun a oe cls d pn hz hf => pss_when fun hq => pss_one (ps_ret (pe_callB (r := rIsE K T.f_InvalidOrder a) (call_isE T.ec (hq.1 ▸ hq.2 ▸ hz) hf) (by rfl) T.m_isinstance (by decide +kernel) (pa_cons (pv 3) (pa_cons (pe_glob (v := .ref T.f_InvalidOrder) (by rfl) T.g_InvalidOrder rfl) pa_nil))))))), ?_⟩
  refine ⟨_, rfl, rfl, _, rfl, iteB (fun _ => ?_) (fun _ => ?_)⟩
  · refine ⟨_, rfl, _, rfl, p, oa, fs, es, os, rfl, hp, ho, lo, l8, G, fun h => absurd h no, fun _ H1 s1 => ?_⟩
    refine ⟨true, T.xm, fun _ a0 ha0 => ⟨⟨rfl, rfl⟩, ?_⟩, fun z => Bool.noConfusion z⟩
    exact ⟨_, rfl, _, .ref T.f_InvalidOrder, true, rfl, fun u r => r, T.ki, q _ s1⟩
  · refine ⟨_, rfl, _, rfl, p, oa, fs, es, os, rfl, hp, ho, lo, l8, G, fun h => absurd h no, fun _ H1 s1 => ?_⟩
    refine ⟨true, T.xm, fun _ a0 ha0 => ⟨⟨rfl, rfl⟩, ?_⟩, fun z => Bool.noConfusion z⟩
    exact ⟨_, rfl, _, .ref T.f_InvalidOrder, true, rfl, fun u r => r, T.ki, q _ s1⟩
def spLaw (T : Top K mg) : Sp := fun vs H Q _ => ∃ (a : Addr) (ns : List Int), vs = [.ref a] ∧ SqL K H a (ns.map V.int) ∧ Tg T H ∧ ∀ H', Q (.bl true) H'
theorem law_in (T : Top K mg) (H : Hp) (a : Addr) (ns : List Int) (hl : ns.length ≤ 63) (hb : ∀ z ∈ ns, Builtin.Int.intBits z ≤ 1048576) (G : Tg T H) (hS : SqL K H a (ns.map V.int)) : spLaw T [.ref a] H (fun v _ => v = .bl true) fun _ _ _ => False := ⟨a, ns, rfl, hS, G, fun _ => rfl⟩
theorem Drawn.goodE {most : Int} {fs : List Int} {es : List Eg} (h : Drawn most fs es) (l : es.length ≤ 24) : goodE fs.length es := ⟨l, h.ok, fun i x y hx hy => by
  obtain ⟨h1, rfl⟩ := List.getElem?_eq_some_iff.mp hx
  obtain ⟨h2, rfl⟩ := List.getElem?_eq_some_iff.mp hy
  exact List.pairwise_iff_getElem.mp h.asc i (i + 1) h1 h2 (Nat.lt_succ_self i)⟩
theorem Drawn.goodF {most : Int} {fs : List Int} {es : List Eg} (h : Drawn most fs es) (l : most ≤ 12) : goodF fs := ⟨h.one, by have := h.most; omega, fun f m => by have := h.small f m; omega⟩
theorem init_at (T : Top K mg) {H : Hp} {R : VK} {E : XK} {fa ea : Addr} {fs : List Int} {xs : List V} {es : List Eg} (hf : Sq K H fa (fs.map V.int)) (he : Sq K H ea xs) (hes : Paired (EdgeAt K H) xs es) (le : es.length < 1000000) (lf : fs.length < 1000000) (G : Tg T H) (gf : goodF fs) (ge : goodE fs.length es)
    {x dx : Addr} (hx : H x = none) (hdx : H dx = none) (q : ∀ H', Ext H H' → SpAt T H' x fs es → R .non H') : spInit T [.ref x, .ref fa, .ref ea] (upd (upd H dx (.own x)) x (.ins T.C_Spins dx [])) R E := by
  have x5 : Ext H (upd (upd H dx (.own x)) x (.ins T.C_Spins dx [])) := (ext_upd hdx).own hx
  exact ⟨x, dx, fa, ea, fs, xs, es, H, rfl, upd_same, hx, x5, hf, he, hes, le, lf, G, fun gf ge H' fc ec ys s h1 h2 h3 h4 => q H' s ⟨gf, ge, dx, fc, ec, ys, h1, h2, h3, h4⟩, fun bad => absurd ⟨gf, ge⟩ bad⟩
/-- what the law keeps -/
structure KeptL (K : PySem.W.Frag) (H0 H : Hp) (fb eb : Addr) (fs : List Int) (xs : List V) (es : List Eg) : Prop where
  ext : Ext H0 H
  f : H fb = some (.lst (fs.map V.int))
  e : H eb = some (.lst xs)
  ee : Paired (EdgeAt K H) xs es
theorem KeptL.up {H0 H H' : Hp} {fb eb : Addr} {fs : List Int} {xs : List V} {es : List Eg} (h : KeptL K H0 H fb eb fs xs es) (s : Ext H H') : KeptL K H0 H' fb eb fs xs es := ⟨h.ext.trans s, s.lst h.f, s.lst h.e, s.edges h.ee⟩
theorem cut_ints (os : List Int) (lo hi : Option Int) : ∃ l : List Int, cutV (os.map V.int) lo hi = l.map V.int ∧ l.length ≤ os.length := by
  unfold cutV
  refine ⟨(os.drop (HT.sIx (os.map V.int).length 0 lo)).take (HT.sIx (os.map V.int).length (os.map V.int).length hi - HT.sIx (os.map V.int).length 0 lo), ?_, ?_⟩
  · rw [← List.map_drop, ← List.map_take]
  · rw [List.length_take, List.length_drop]
    omega
theorem sl_ints {H : Hp} {ob : Addr} {os : List Int} {lo hi : Option Int} {Q : VK} (h : H ob = some (.lst (os.map V.int))) (q : ∀ p H' (l : List Int), Ext H H' → H' p = some (.lst (l.map V.int)) → l.length ≤ os.length → Q (.ref p) H') : rSlL K (.ref ob) lo hi H Q := by
  obtain ⟨l, e, hl⟩ := cut_ints os lo hi
  exact ⟨ob, _, rfl, SqL.of h, fun p hp => q p _ l (ext_upd hp) (by rw [upd_same, e]) hl⟩
theorem cat_ints {H : Hp} {p1 p2 : Addr} {l1 l2 : List Int} {Q : VK} (h1 : H p1 = some (.lst (l1.map V.int))) (h2 : H p2 = some (.lst (l2.map V.int))) (hl : l1.length + l2.length ≤ 1000000) (q : ∀ p H', Ext H H' → H' p = some (.lst ((l1 ++ l2).map V.int)) → Q (.ref p) H') : rCat (.ref p1) (.ref p2) H Q :=
  ⟨p1, p2, _, _, rfl, rfl, h1, h2, sl_of (by rw [List.length_map, List.length_map]; exact hl), fun p hp => q p _ (ext_upd hp) (by rw [upd_same, List.map_append])⟩
theorem gd_term (t : Trm) : Gd 5 (termD t) := gd_tup fun x m => by
  rcases List.mem_cons.mp m with rfl | m
  · exact gd_tup fun y m => by
      rcases List.mem_cons.mp m with rfl | m
      · exact gd_int _
      · rw [List.mem_singleton.mp m]
        exact gd_int _
  · rw [List.mem_singleton.mp m]
    exact (gd_int _).up (by decide)
theorem gd_poly (ts : List Trm) : Gd 6 (polyD ts) := gd_tup fun x m => by
  obtain ⟨t, _, rfl⟩ := List.mem_map.mp m
  exact gd_term t
theorem tupD_poly {ts : List Trm} (h : ts.length < 1000000) : tupD 4 (polyD ts) := ⟨by rw [List.length_map]; exact h, fun x m => by
  obtain ⟨t, _, rfl⟩ := List.mem_map.mp m
  refine ⟨by simp, fun y m => ?_⟩
  rcases List.mem_cons.mp m with rfl | m
  · refine ⟨by simp, fun z m => ?_⟩
    rcases List.mem_cons.mp m with rfl | m
    · trivial
    · rw [List.mem_singleton.mp m]
      trivial
  · rw [List.mem_singleton.mp m]
    trivial⟩
theorem cut_one (xs : List V) : cutV xs (some 1) none = xs.drop 1 := by
  unfold cutV
  rw [show (some (1 : Int)) = some ((1 : Nat) : Int) from rfl, HT.sIx_nat, HT.sIx_none]
  by_cases z : xs.length = 0
  · obtain rfl := List.length_eq_zero_iff.mp z
    rfl
  · have z1 : min 1 xs.length = 1 := by omega
    rw [z1]
    refine List.take_of_length_le ?_
    rw [List.length_drop]
    exact Nat.le_refl _
theorem not_ord {n : Nat} {l : List Int} (h : l.length ≠ n) : ¬ isOrd n l := fun z => by
  have := List.Perm.length_eq z
  rw [rng_len] at this
  exact h this
/-- one of three lists that are no order -/
theorem three_wrong {H : Hp} {n : Nat} {w1 w2 w3 : Addr} {a b c : List Int} (h1 : H w1 = some (.lst (a.map V.int))) (h2 : H w2 = some (.lst (b.map V.int))) (h3 : H w3 = some (.lst (c.map V.int))) (l1 : a.length ≠ n ∧ a.length < 64) (l2 : b.length ≠ n ∧ b.length < 64) (l3 : c.length ≠ n ∧ c.length < 64) (z : Int) (z0 : 0 ≤ z) (z3 : z < 3) :
    ∃ w l, atI [V.ref w1, .ref w2, .ref w3] z = some (.ref w) ∧ H w = some (.lst (l.map V.int)) ∧ ¬ isOrd n l ∧ l.length < 64 := by
  have : z = 0 ∨ z = 1 ∨ z = 2 := by omega
  rcases this with rfl | rfl | rfl
  · exact ⟨w1, a, rfl, h1, not_ord l1.1, l1.2⟩
  · exact ⟨w2, b, rfl, h2, not_ord l2.1, l2.2⟩
  · exact ⟨w3, c, rfl, h3, not_ord l3.1, l3.2⟩
def prnD (k : Int × List Int) : PyData := .tuple [.int k.1, .tuple (k.2.map PyData.int)]
theorem dp_prn {H : Hp} {a : Addr} {k : Int × List Int} (h : NST.PrN K H a k) : Dp K H (.ref a) (prnD k) := by
  obtain ⟨b, h1, h2⟩ := h
  exact .tup h1 (.cons (.int _) (.cons (.tup h2 (ints_dpa _)) .nil))
theorem gd_prn (k : Int × List Int) : Gd 5 (prnD k) := gd_tup fun x m => by
  rcases List.mem_cons.mp m with rfl | m
  · exact (gd_int _).up (by decide)
  · rw [List.mem_singleton.mp m]
    exact gd_tup fun y my => by
      obtain ⟨i, _, rfl⟩ := List.mem_map.mp my
      exact gd_int i
theorem tupD_prn {k : Int × List Int} (h : k.2.length < 1000000) : tupD 4 (prnD k) := ⟨by simp, fun x m => by
  rcases List.mem_cons.mp m with rfl | m
  · trivial
  · rw [List.mem_singleton.mp m]
    exact ⟨by rw [List.length_map]; exact h, fun y my => by
      obtain ⟨i, _, rfl⟩ := List.mem_map.mp my
      trivial⟩⟩
theorem prv_up {H H' : Hp} (s : Ext H H') {xs : List V} {ks : List (Int × List Int)} (h : Paired (NST.PrV K H) xs ks) : Paired (NST.PrV K H') xs ks := paired_imp (fun _ _ ⟨t, e, b, h1, h2⟩ => ⟨t, e, b, s.tup h1, s.tup h2⟩) h
theorem prv_lst {H : Hp} {p : Addr} {acc xs : List V} {ks : List (Int × List Int)} {o : HO} (hp : H p = some (.lst acc)) (h : Paired (NST.PrV K H) xs ks) : Paired (NST.PrV K (upd H p o)) xs ks := paired_imp (fun _ _ ⟨t, e, b, h1, h2⟩ => ⟨t, e, b, sqt_lst hp h1, sqt_lst hp h2⟩) h
theorem least_is {n : Nat} {fs : List Int} {es : List Eg} {j0 : Int × List Int} {jr : List (Int × List Int)} (hp : (j0 :: jr).Perm ((states n).map fun st => (costZ fs es st, st))) (hs : (j0 :: jr).Pairwise (fun u v => NST.ltN v u = false)) {c : Int} {st : List Int} (hl : st.length = n) (hb : bits st) (hW : sumLs trS (fun st => some (cd (costZ fs es st) st)) (states n) = some (cd c st)) : j0 = (c, st) := by
  obtain ⟨s0, ms0, e0⟩ := List.mem_map.mp ((List.Perm.mem_iff hp).mp List.mem_cons_self)
  obtain ⟨m, h1, ⟨z, mz, h2⟩, h3⟩ := least_of (fun st => cd (costZ fs es st) st) (states n) (fun e => by rw [e] at ms0; cases ms0)
  rw [h1] at hW
  have hm : m = cd c st := Option.some.inj hW
  obtain ⟨l0, b0⟩ := states_ok n s0 ms0
  obtain ⟨lz, bz⟩ := states_ok n z mz
  subst e0
  have hle : cd (costZ fs es s0) s0 ≤ m := by
    rcases List.mem_cons.mp ((List.Perm.mem_iff hp).mpr (List.mem_map.mpr ⟨z, mz, rfl⟩)) with e | mj
    · have e2 : z = s0 := congrArg Prod.snd e
      rw [← e2]
      omega
    · have hf := (List.pairwise_cons.mp hs).1 _ mj
      have hx : NST.ltN (costZ fs es z, z) (costZ fs es s0, s0) = decide (cd (costZ fs es z) z < cd (costZ fs es s0) s0) := lex_cd (lz.trans l0.symm) bz b0
      rw [hx] at hf
      have := of_decide_eq_false hf
      omega
  have hge : m ≤ cd (costZ fs es s0) s0 := h3 s0 ms0
  obtain ⟨e1, e2⟩ := cd_inj (c := costZ fs es s0) (d := c) (l0.trans hl.symm) b0 hb (by omega)
  rw [e1, e2]
theorem ok_law {f : Addr} {d : FuncData} (F : Fun K "law" "law" s_law f d) (T : Top K mg) (B : Tb T base) : FnOk P w K mg base CX0 8 f d ["script"] (spLaw T) := by
  refine F.ok sc_law (fun vs H Q E h => ?_) (fun cdv A outer s H vs Q E hr h => ?_)
  · obtain ⟨a, ns, rfl, _⟩ := h
    rfl
  obtain ⟨a, ns, rfl, hS, G, q⟩ := h
  refine ⟨_, (pss_cons (ps_asg (pe_call (ok_law_spins T) (hr.mono (by decide)) (by rfl) T.g_law_spins T.F_law_spins.kp T.b_law_spins .nil pass0 (pa_cons (pv 0) (pa_cons pe_int (pa_cons pe_int (pa_cons pe_int pa_nil))))) (pg_tup rfl (pgs_cons (pg_name (i := 1) sc_law.nd rfl (by first | exact .inl rfl | exact .inr rfl)) (pgs_cons (pg_name (i := 2) sc_law.nd rfl (by first | exact .inl rfl | exact .inr rfl)) pgs_nil))))
      (pss_cons (ps_set (i := 3) sc_law.nd rfl (by first | exact .inl rfl | exact .inr rfl) (pe_make T.mk_Spins (ok_Spins_init T B) (hr.mono (by decide)) (by rfl) T.g_Spins T.b_Spins_init .nil passes_no (pa_cons (pv 1) (pa_cons (pv 2) pa_nil))))
      (pss_cons (ps_set (i := 4) sc_law.nd rfl (by first | exact .inl rfl | exact .inr rfl) (pe_call (ok_law_order T) (hr.mono (by decide)) (by rfl) T.g_law_order T.F_law_order.kp T.b_law_order .nil pass0 (pa_cons (pe_call (ok_law_cell T) (hr.mono (by decide)) (by rfl) T.g_law_cell T.F_law_cell.kp T.b_law_cell .nil pass0 (pa_cons (pv 0) (pa_cons pe_int pa_nil))) (pa_cons (pe_callB call_len_seq (by rfl) T.m_len (by decide +kernel) (pa_cons (pv 1) pa_nil)) pa_nil))))
      (pss_cons (ps_if (pt_cmpR op_eq (pe_op op_mod (pe_call (ok_law_cell T) (hr.mono (by decide)) (by rfl) T.g_law_cell T.F_law_cell.kp T.b_law_cell .nil pass0 (pa_cons (pv 0) (pa_cons pe_int pa_nil))) pe_int) pe_int (nomark _)) (pss_cons (ps_set (i := 5) sc_law.nd rfl (by first | exact .inl rfl | exact .inr rfl) (pe_ix ix_tup (pe_tup (pa_cons (pe_op op_cat (pv 4) (pe_lst (pa_cons pe_int pa_nil))) (pa_cons (pe_slice sl_list (pv 4) (po_some pe_int) po_none) (pa_cons (pe_op op_rep (pe_lst (pa_cons pe_int pa_nil)) (pe_op op_add (pe_callB call_len_seq (by rfl) T.m_len (by decide +kernel) (pa_cons (pv 4) pa_nil)) pe_int)) pa_nil)))) (pe_op op_mod (pe_op op_fdivZ (pe_call (ok_law_cell T) (hr.mono (by decide)) (by rfl) T.g_law_cell T.F_law_cell.kp T.b_law_cell .nil pass0 (pa_cons (pv 0) (pa_cons pe_int pa_nil))) pe_int) pe_int) (fun _ _ => rfl)))
      (pss_one (ps_ret (pe_and (pe_call (ok_law_refused T B) (hr.mono (by decide)) (by rfl) T.g_law_refused T.F_law_refused.kp T.b_law_refused .nil pass0 (pa_cons (pv 3) (pa_cons (pv 5) (pa_cons pe_int pa_nil)))) (pe_one (pe_call (ok_law_refused T B) (hr.mono (by decide)) (by rfl) T.g_law_refused T.F_law_refused.kp T.b_law_refused .nil pass0 (pa_cons (pv 3) (pa_cons (pv 5) (pa_cons pe_int pa_nil))))))))) pss_nil)
      (pss_cons (ps_set (i := 6) sc_law.nd rfl (by first | exact .inl rfl | exact .inr rfl) (pe_callTy call_list_of (by rfl) T.m_list (by decide +kernel) (pa_cons (pv 4) pa_nil)))
      (pss_cons (ps_set (i := 7) sc_law.nd rfl (by first | exact .inl rfl | exact .inr rfl) (pe_call (ok_sum_by_transfer T B) (hr.mono (by decide)) (by rfl) T.g_sum_by_transfer T.F_sum_by_transfer.kp T.b_sum_by_transfer .nil passes_no (pa_cons (pv 3) (pa_cons (pv 6) pa_nil))))
      (pss_cons (ps_if (PW.pt (pw_or (pt_cmpR (op_neD hr.units) (pv 7) (pe_call (ok_law_sum T) (hr.mono (by decide)) (by rfl) T.g_law_sum T.F_law_sum.kp T.b_law_sum .nil pass0 (pa_cons (pv 1) (pa_cons (pv 2) pa_nil))) (nomark _)) (pw_or1 (pt_not (pt_val (pe_call (ok_law_tuples T 4) (hr.mono (by decide)) (by rfl) T.g_law_tuples T.F_law_tuples.kp T.b_law_tuples .nil pass0 (pa_cons (pv 7) pa_nil))))))) (pss_one (ps_ret pe_bl)) pss_nil)
      (pss_cons (ps_set (i := 8) sc_law.nd rfl (by first | exact .inl rfl | exact .inr rfl) (pe_callB (r := NST.rSortN K) (NST.cr_sortedN (Nat.lt_of_le_of_lt (Nat.add_le_add_left (by decide) _) hr.units)) (by rfl) T.m_sorted (by decide +kernel) (pa_cons (pe_lc (own := [("state", 9)]) (g := gName 9) (tt := tYes) rfl sc_law.nd (pi_list (pe_call (ok_law_states T) (hr.mono (by decide)) (by rfl) T.g_law_states T.F_law_states.kp T.b_law_states .nil pass0 (pa_cons (pe_callB call_len_seq (by rfl) T.m_len (by decide +kernel) (pa_cons (pv 1) pa_nil)) pa_nil))) (blkOk_by (own := [("state", 9)]) (N := n_law) (sc := defScope s_law) (by decide +kernel)) (fun _ _ _ _ _ => (pg_name (i := 9) sc_law.nd rfl (by first | exact .inl rfl | exact .inr rfl))) (fun _ _ _ _ _ => pts_nil) (fun _ _ _ _ _ => (pe_tup (pa_cons (pe_call (ok_law_cost T) (hr.mono (by decide)) (by rfl) T.g_law_cost T.F_law_cost.kp T.b_law_cost .nil pass0 (pa_cons (pv 1) (pa_cons (pv 2) (pa_cons (pv 9) pa_nil)))) (pa_cons (pv 9) pa_nil))))) pa_nil)))
      (pss_cons (ps_set (i := 10) sc_law.nd rfl (by first | exact .inl rfl | exact .inr rfl) (pe_call (ok_least_by_transfer T B) (hr.mono (by decide)) (by rfl) T.g_least_by_transfer T.F_least_by_transfer.kp T.b_least_by_transfer .nil passes_no (pa_cons (pv 3) (pa_cons (pv 6) pa_nil))))
      (pss_one (ps_ret (pe_and (pe_callB call_isi (by rfl) T.m_isinstance (by decide +kernel) (pa_cons (pv 10) (pa_cons (pe_bltn (v := .ty "tuple") (by rfl) T.m_tuple boot_tuple rfl) pa_nil))) (pe_and (pe_cmpR (op_eqD hr.units) (pv 10) (pe_ix ix_list (pv 8) pe_int (fun _ _ => rfl)) (nomark _)) (pe_and (pe_call (ok_law_tuples T 4) (hr.mono (by decide)) (by rfl) T.g_law_tuples T.F_law_tuples.kp T.b_law_tuples .nil pass0 (pa_cons (pv 10) pa_nil)) (pe_one (pe_cmpR (r := rEqD K) (op_eqD hr.units) (pv 6) (pv 4) (nomark _))))))))))))))))), ?_⟩
  refine ⟨_, rfl, a, ns, 0, 6, 0, rfl, hS, by decide, by decide, fun l1 H1 fb eb fs xs es s1 n1 hl1 nf hf ne he hes dr => ⟨l1, _, rfl, SqT.of hl1, rfl, _, _, rfl, _, _, rfl, rfl, ?_⟩⟩
  have f6 : fs.length ≤ 6 := by have := dr.most; omega
  have f1 := dr.one
  have e21 : es.length ≤ 15 := by
    have := dr.cnt
    have h2 : fs.length * (fs.length - 1) ≤ 6 * 5 := Nat.mul_le_mul f6 (by omega)
    omega
  have gf := dr.goodF (by decide)
  have ge := dr.goodE (by omega)
  have M : KeptL K H H1 fb eb fs xs es := ⟨s1, hf, he, edges_at hes⟩
  have en : (fs.map V.int).length = fs.length := List.length_map _
  refine ⟨_, rfl, _, rfl, fun sp dx hx hdx hne => init_at T (fs := fs) (es := es) (.inl (SqL.of M.f)) (.inl (SqL.of M.e)) M.ee (by omega) (by omega) (G.ext M.ext) gf ge hx hdx (fun H2 s2 hsp => ⟨rfl, ?_⟩)⟩
  have M := M.up s2
  refine ⟨_, rfl, a, ns, 3, rfl, M.ext.seq hS, _, rfl, fb, _, rfl, .inl (SqL.of M.f), cellZ ns 3, fs.length, by rw [en]; rfl, by omega, fun ob H3 os s3 _ hob hord => ?_⟩
  have M := M.up s3
  have hsp := hsp.up s3
  have lom : (os.map V.int).length = os.length := List.length_map _
  have lo : os.length = fs.length := by
    have := hord.length_eq
    rw [rng_len] at this
    exact this
  refine ⟨_, rfl, a, ns, 4, rfl, M.ext.seq hS, _, _, rfl, rfl, (by decide : (0 : Int) < 8), rfl, _, rfl, iteB (fun _ => ?_) (fun _ => ?_)⟩
  · refine ⟨_, rfl, by rw [sizeLine_eq]; simp, fun a1 ha1 => cat_ints (l1 := os) (l2 := [0]) ((ext_upd ha1).lst hob) upd_same (by simp; omega) fun w1 H4 s4' hw1 => ?_⟩
    have s4 := (ext_upd (o := .lst [V.int 0]) ha1).trans s4'
    refine ⟨_, rfl, _, rfl, ?_⟩
    unfold tNoPart
    refine ⟨ob, _, rfl, SqL.of (s4.lst hob), fun w2 hw2 => ?_⟩
    rw [cut_one, ← List.map_drop]
    have x5 := ext_upd (o := .lst ((os.drop 1).map V.int)) hw2
    have k5 : upd H4 w2 (.lst ((os.drop 1).map V.int)) w2 = some (.lst ((os.drop 1).map V.int)) := upd_same
    generalize upd H4 w2 (.lst ((os.drop 1).map V.int)) = H5 at *
    refine ⟨by rw [sizeLine_eq]; simp, fun l0 hl0 => ?_⟩
    have y1 := ext_upd (o := .lst [V.int 0]) hl0
    have k0 : upd H5 l0 (.lst [V.int 0]) l0 = some (.lst [V.int 0]) := upd_same
    have s6 := (s4.trans x5).trans y1
    have hw1 := (x5.trans y1).lst hw1
    have k5 := y1.lst k5
    generalize upd H5 l0 (.lst [V.int 0]) = H6 at *
    refine ⟨_, rfl, ob, _, rfl, .inl (SqL.of (s6.lst hob)), _, _, rfl, rfl, l0, _, [V.int 0], rfl, rfl, k0, by omega, by omega, ?_, fun w3 hw3 => ?_⟩
    · rw [sizeLine_eq]
      show 1 * (((os.map V.int).length : Int) + 1).toNat ≤ _
      omega
    have e3 : (List.replicate (((os.map V.int).length : Int) + 1).toNat [V.int 0]).flatten = (List.replicate (os.length + 1) (0 : Int)).map V.int := by
      rw [lom, show ((os.length : Int) + 1).toNat = os.length + 1 by omega, flat0, List.map_replicate]
    rw [e3]
    have y2 := ext_upd (o := .lst ((List.replicate (os.length + 1) (0 : Int)).map V.int)) hw3
    have k3 : upd H6 w3 (.lst ((List.replicate (os.length + 1) (0 : Int)).map V.int)) w3 = some (.lst ((List.replicate (os.length + 1) (0 : Int)).map V.int)) := upd_same
    have s7 := s6.trans y2
    have hw1 := y2.lst hw1
    have k5 := y2.lst k5
    generalize upd H6 w3 (.lst ((List.replicate (os.length + 1) (0 : Int)).map V.int)) = H7 at *
    refine ⟨by rw [sizeLine_eq]; simp, fun t ht => ?_⟩
    have y3 := ext_upd (o := .tup [V.ref w1, .ref w2, .ref w3]) ht
    have kt : upd H7 t (.tup [V.ref w1, .ref w2, .ref w3]) t = some (.tup [V.ref w1, .ref w2, .ref w3]) := upd_same
    have s8 := s7.trans y3
    have hw1 := y3.lst hw1
    have k5 := y3.lst k5
    have k3 := y3.lst k3
    generalize upd H7 t (.tup [V.ref w1, .ref w2, .ref w3]) = H8 at *
    have M := M.up s8
    have hsp := hsp.up s8
    obtain ⟨w, l, hat, hw, hno, hll⟩ := three_wrong (n := fs.length) hw1 k5 k3 ⟨by rw [List.length_append, List.length_singleton]; omega, by rw [List.length_append, List.length_singleton]; omega⟩ ⟨by rw [List.length_drop]; omega, by rw [List.length_drop]; omega⟩ ⟨by rw [List.length_replicate]; omega, by rw [List.length_replicate]; omega⟩ ((cellZ ns 4).fdiv 8 % 3) (Int.emod_nonneg _ (by decide)) (Int.emod_lt_of_pos _ (by decide))
    refine ⟨_, rfl, a, ns, 4, rfl, M.ext.seq hS, _, _, rfl, rfl, ⟨by decide, by decide⟩, _, _, rfl, rfl, (by decide : (0 : Int) < 3), t, _, _, .ref w, rfl, rfl, SqT.of kt, hat, ?_⟩
    dsimp only [gName]
    refine ⟨_, rfl, _, rfl, sp, w, fs, es, l, 0, rfl, hsp, SqL.of hw, hll, by omega, G.ext M.ext, hno, fun H9 s9 => ⟨_, rfl, iteT ?_⟩⟩
    exact ⟨_, rfl, _, rfl, sp, w, fs, es, l, 1, rfl, hsp.up s9, SqL.of (s9.lst hw), hll, by omega, G.ext (M.ext.trans s9), hno, fun H10 s10 => q _⟩
  · refine ⟨_, rfl, ob, _, rfl, .inl (SqL.of hob), fun cp hcp => ?_⟩
    have x4 := ext_upd (o := .lst (os.map V.int)) hcp
    have k4 : upd H3 cp (.lst (os.map V.int)) cp = some (.lst (os.map V.int)) := upd_same
    have hob := x4.lst hob
    have M := M.up x4
    have hsp := hsp.up x4
    generalize upd H3 cp (.lst (os.map V.int)) = H4 at *
    dsimp only [gName]
    refine ⟨_, rfl, _, rfl, sp, cp, fs, es, os, rfl, hsp, SqL.of k4, by omega, by omega, G.ext M.ext, fun _ v H5 s5 hv => ?_, fun h => absurd hord h⟩
    obtain ⟨wh, rfl, hwh⟩ := hv
    have M := M.up s5
    have hsp := hsp.up s5
    have hob := s5.lst hob
    have k4 := s5.lst k4
    dsimp only [gName]
    refine ⟨_, rfl, _, rfl, _, rfl, fb, eb, fs, xs, es, rfl, SqL.of M.f, SqL.of M.e, M.ee, gf, ge, by omega, fun w2 H6 s6 hw2 _ => ?_⟩
    refine ⟨_, _, (s6.poly hwh).dp, hw2.at.dp, (gd_poly _).sh, (gd_poly _).sh, ?_⟩
    rw [eqv_self (gd_poly _)]
    refine ⟨_, rfl, iteF ?_⟩
    have lz := length_zraw fs es
    have lc := PM.length_canon_le (zraw fs es)
    have lp := Nat.pow_le_pow_right (show 0 < 2 by decide) f6
    refine ⟨_, rfl, .ref wh, _, rfl, (s6.poly hwh).dp, tupD_poly (by omega), fun H7 z7 => ⟨_, rfl, iteF ?_⟩⟩
    have x7 := s6.trans z7.ext
    have M := M.up x7
    have hsp := hsp.up x7
    have hob := x7.lst hob
    have k4 := x7.lst k4
    refine ⟨_, rfl, fb, _, rfl, .inl (SqL.of M.f), fs.length, by rw [en]; rfl, by omega, fun st H8 sv s8 _ hst hsv => ⟨st, rfl, ⟨_, SqL.of hst⟩, fun D hD => w_list (xs := sv) (fun i H' => Ext H8 H' ∧ ∃ zs, H' D = some (.lst zs) ∧ Paired (NST.PrV K H') zs (((states fs.length).take i).map fun st => (costZ fs es st, st))) ⟨ext_upd hD, [], upd_same, .nil⟩ (fun i H' _ h => SqL.of (h.1.lst hst)) (fun i y H' hi hP => ?_) (fun H' hP => ?_)⟩⟩
    · obtain ⟨sN, zs, hz, hzs⟩ := hP
      obtain ⟨st1, hsi, v, rfl, hv⟩ := paired_at hsv hi
      have hil : i < sv.length := (List.getElem?_eq_some_iff.mp hi).1
      obtain ⟨lst1, bst1⟩ := states_ok _ st1 (List.mem_of_getElem? hsi)
      have sM := s8.trans sN
      have M := M.up sM
      refine ⟨rfl, _, rfl, _, rfl, _, rfl, fb, eb, v, fs, xs, es, st1, rfl, SqL.of M.f, SqL.of M.e, M.ee, sN.tup hv, lst1, bst1, gf, ge, _, rfl, sl2, fun t ht => ?_⟩
      have x1 := ext_upd (o := .tup [V.int (costZ fs es st1), .ref v]) ht
      have k1 : upd H' t (.tup [V.int (costZ fs es st1), .ref v]) t = some (.tup [V.int (costZ fs es st1), .ref v]) := upd_same
      have hz := x1.lst hz
      have hzs := prv_up x1 hzs
      have hv := (sN.trans x1).tup hv
      have sN := sN.trans x1
      dsimp only
      generalize upd H' t (.tup [V.int (costZ fs es st1), .ref v]) = H'' at *
      have lzs := hzs.length
      rw [List.length_map, List.length_take] at lzs
      have lsv := hsv.length
      rw [length_states] at lsv
      refine ⟨zs, hz, sl_lt (by omega), sN.own hD, zs ++ [.ref t], upd_same, ?_⟩
      rw [take_snoc hsi, List.map_append]
      exact paired_snoc (prv_lst hz hzs) ⟨t, rfl, v, sqt_lst hz (SqT.of k1), sqt_lst hz hv⟩
    · obtain ⟨sN, zs, hz, hzs⟩ := hP
      have lsv := hsv.length
      rw [lsv, List.take_length] at hzs
      have sM := s8.trans sN
      have M := M.up sM
      have hsp := hsp.up sM
      have hob := sM.lst hob
      have k4 := sM.lst k4
      refine ⟨D, zs, _, rfl, SqL.of hz, hzs, fun ys js p hys hperm hsrt hp => ?_⟩
      have xp := ext_upd (o := .lst ys) hp
      have kp : upd H' p (.lst ys) p = some (.lst ys) := upd_same
      have hys := prv_up xp hys
      have M := M.up xp
      have hsp := hsp.up xp
      have hob := xp.lst hob
      have k4 := xp.lst k4
      generalize upd H' p (.lst ys) = H9 at *
      dsimp only [gName]
      refine ⟨_, rfl, _, rfl, sp, cp, fs, es, os, rfl, hsp, SqL.of k4, by omega, by omega, G.ext M.ext, fun _ ta H10 c st2 s10 hpr hl2 hb2 hW => ?_, fun h => absurd hord h⟩
      have hys := prv_up s10 hys
      have hob := s10.lst hob
      have k4 := s10.lst k4
      have kp := s10.lst kp
      have hpr' := hpr
      obtain ⟨tb, t1, t2⟩ := hpr'
      rw [least_sum hord rfl (inR_of ge)] at hW
      dsimp only [gName]
      refine ⟨_, rfl, _, _, _, _, _, rfl, .ty _, sqt_ty t1, kit_ty (r := true) (by decide +kernel), _, rfl, iteT ?_⟩
      cases hys with
      | nil =>
        have := hperm.length_eq
        rw [List.length_map, length_states] at this
        have h2 := Nat.pow_pos (n := fs.length) (show 0 < 2 by decide)
        simp at this
        omega
      | cons hy0 hyr =>
        rename_i y0 j0 yr jr
        obtain ⟨t0, rfl, hpr0⟩ := hy0
        have ej := least_is hperm hsrt hl2 hb2 hW
        subst ej
        refine ⟨_, rfl, _, rfl, p, _, 0, V.ref t0, rfl, rfl, SqL.of kp, atI_nat (j := 0) rfl, prnD (c, st2), prnD (c, st2), dp_prn hpr, dp_prn hpr0, (gd_prn _).sh, (gd_prn _).sh, ?_⟩
        rw [eqv_self (gd_prn _)]
        refine ⟨_, rfl, iteT ?_⟩
        refine ⟨_, rfl, .ref ta, _, rfl, dp_prn hpr, tupD_prn (show st2.length < 1000000 by omega), fun H11 z11 => ⟨_, rfl, iteT ?_⟩⟩
        have g := (gd_intsL os)
        refine ⟨_, rfl, _, rfl, intsL os, intsL os, .lst (SqL.of (z11.ext.lst k4)) (ints_dpa _), .lst (SqL.of (z11.ext.lst hob)) (ints_dpa _), g.sh, g.sh, ?_⟩
        rw [eqv_self g]
        exact q _
theorem k_one {fO t1 t2 : Addr} {q1 q2 q3 : Option Addr} {m1 m2 m3 : Nat} {u1 u2 u3 : Tok} {w1 w2 w3 : Array (Option Value)} (o1 : K.lookup fO = some ⟨.type "tuple", q1, .seq #[.ref t1] m1, w1⟩) (o2 : K.lookup t1 = some ⟨.type "tuple", q2, .seq #[.ref t2, .int 1 u1] m2, w2⟩)
    (o3 : K.lookup t2 = some ⟨.type "tuple", q3, .seq #[.int 0 u2, .int 0 u3] m3, w3⟩) : ∀ H, PolyAt K H fO one := fun H =>
  ⟨[.ref t1], .inr ⟨_, _, _, o1, rfl, rfl, by rw [sizeLine_eq]; simp, .cons rfl .nil⟩, .cons ⟨t1, t2, rfl, .inr ⟨_, _, _, o2, rfl, rfl, by rw [sizeLine_eq]; simp, .cons rfl (.cons ⟨_, rfl⟩ .nil)⟩, .inr ⟨_, _, _, o3, rfl, rfl, by rw [sizeLine_eq]; simp, .cons ⟨_, rfl⟩ (.cons ⟨_, rfl⟩ .nil)⟩⟩ .nil⟩
theorem tabG0 {H : Hp} {p : Addr} (h : H p = some (.tbl #[])) : GxR.TabG H p := ⟨#[], h, by simp [TriplesOk]⟩
end
theorem all_mk {l : PySem.W.OpenLaw} {q : Program} {w : World} {K : PySem.W.Frag} {h : Heap} {mg : Str → Option Value} {fa : Addr} (X : K.In h) (G : h.Ns mainGlobals mg) (hfa : mg "law" = some (.ref fa)) (AT : LamX.AllTab q K h)
    {f0 f1 c1 P1 f2 f3 f4 f5 f6 c6 P6 f7 f8 f9 f10 f11 f12 f13 C_Spins c13 P13 f14 c14 P14 f15 f16 f17 f18 f19 f20 f21 f22 f23 f24 f25 f26 f27 X_FieldError X_InvalidSpins X_InvalidOrder : Addr}
    {oc0 kV0 dc0 pm0 ct0 cd0 oc1 kV1 dc1 pm1 ct1 ge1 oc2 kV2 dc2 pm2 ct2 cd2 oc3 kV3 dc3 pm3 ct3 cd3 oc4 kV4 dc4 pm4 ct4 cd4 oc5 kV5 dc5 pm5 ct5 cd5 oc6 kV6 dc6 pm6 ct6 ge6 oc7 kV7 dc7 pm7 ct7 cd7 oc8 kV8 dc8 pm8 ct8 cd8 oc9 kV9 dc9 pm9 ct9 cd9 oc10 kV10 dc10 pm10 ct10 cd10 oc11 kV11 dc11 pm11 ct11 cd11 oc12 kV12 dc12 pm12 ct12 cd12 oc13 kV13 dc13 pm13 ct13 ge13 oc14 kV14 dc14 pm14 ct14 ge14 oc15 kV15 dc15 pm15 ct15 cd15 oc16 kV16 dc16 pm16 ct16 cd16 oc17 kV17 dc17 pm17 ct17 cd17 oc18 kV18 dc18 pm18 ct18 cd18 oc19 kV19 dc19 pm19 ct19 cd19 oc20 kV20 dc20 pm20 ct20 cd20 oc21 kV21 dc21 pm21 ct21 cd21 oc22 kV22 dc22 pm22 ct22 cd22 oc23 kV23 dc23 pm23 ct23 cd23 oc24 kV24 dc24 pm24 ct24 cd24 oc25 kV25 dc25 pm25 ct25 cd25 oc26 kV26 dc26 pm26 ct26 cd26 oc27 kV27 dc27 pm27 ct27 cd27 : Value}
    {od0 an0 od1 an1 gd1 od2 an2 od3 an3 od4 an4 od5 an5 od6 an6 gd6 od7 an7 od8 an8 od9 an9 od10 an10 od11 an11 od12 an12 od13 an13 gd13 od14 an14 gd14 od15 an15 od16 an16 od17 an17 od18 an18 od19 an19 od20 an20 od21 an21 od22 an22 od23 an23 od24 an24 od25 an25 od26 an26 od27 an27 : Option Addr}
    {sl0 sl1 gs1 sl2 sl3 sl4 sl5 sl6 gs6 sl7 sl8 sl9 sl10 sl11 sl12 sl13 gs13 sl14 gs14 sl15 sl16 sl17 sl18 sl19 sl20 sl21 sl22 sl23 sl24 sl25 sl26 sl27 : Array (Option Value)}
    {gv1 gv6 gv13 gv14 : Array Value}
    {tk_MOST_VERTICES tk_MOST_EDGES tk_MOST_SIZE : Tok}
    (a0 : PySem.W.nsIn K mainGlobals "polynomial" = some (some (.ref f0)))
    (l0 : K.lookup f0 = some ⟨oc0, od0, .func (PySem.W.fnOf "polynomial" "polynomial" (defArgs s_polynomial) (defBody s_polynomial) (defScope s_polynomial) .none kV0 dc0 pm0 an0 cd0 ct0), sl0⟩)
    (x0 : PySem.W.codeIn K cd0 "polynomial" = true)
    (k0 : PySem.W.keepIn K (.ref f0) = true)
    (a1 : PySem.W.nsIn K mainGlobals "_in_order" = some (some (.ref f1)))
    (l1 : K.lookup f1 = some ⟨oc1, od1, .func (PySem.W.fnOf "_in_order" "_in_order" (defArgs s_in_order) (defBody s_in_order) (defScope s_in_order) .none kV1 dc1 pm1 an1 (.ref c1) ct1), sl1⟩)
    (x1 : PySem.W.codeIn K (.ref c1) "_in_order" = true)
    (k1 : PySem.W.keepIn K (.ref f1) = true)
    (h1 : K.lookup c1 = some ⟨ge1, gd1, .fields gv1, gs1⟩)
    (v1 : gv1[11]? = some (.ref P1))
    (n1 : K.lookup P1 = none)
    (e1 : PySem.W.codeHdIn K c1 P1 = true)
    (r1 : ((recsOf q).any fun r => r.name == ("_in_order" : Str)) = true)
    (a2 : PySem.W.nsIn K mainGlobals "plus" = some (some (.ref f2)))
    (l2 : K.lookup f2 = some ⟨oc2, od2, .func (PySem.W.fnOf "plus" "plus" (defArgs s_plus) (defBody s_plus) (defScope s_plus) .none kV2 dc2 pm2 an2 cd2 ct2), sl2⟩)
    (x2 : PySem.W.codeIn K cd2 "plus" = true)
    (k2 : PySem.W.keepIn K (.ref f2) = true)
    (a3 : PySem.W.nsIn K mainGlobals "times" = some (some (.ref f3)))
    (l3 : K.lookup f3 = some ⟨oc3, od3, .func (PySem.W.fnOf "times" "times" (defArgs s_times) (defBody s_times) (defScope s_times) .none kV3 dc3 pm3 an3 cd3 ct3), sl3⟩)
    (x3 : PySem.W.codeIn K cd3 "times" = true)
    (k3 : PySem.W.keepIn K (.ref f3) = true)
    (a4 : PySem.W.nsIn K mainGlobals "check_order" = some (some (.ref f4)))
    (l4 : K.lookup f4 = some ⟨oc4, od4, .func (PySem.W.fnOf "check_order" "check_order" (defArgs s_check_order) (defBody s_check_order) (defScope s_check_order) .none kV4 dc4 pm4 an4 cd4 ct4), sl4⟩)
    (x4 : PySem.W.codeIn K cd4 "check_order" = true)
    (k4 : PySem.W.keepIn K (.ref f4) = true)
    (a5 : PySem.W.nsIn K mainGlobals "steps_along" = some (some (.ref f5)))
    (l5 : K.lookup f5 = some ⟨oc5, od5, .func (PySem.W.fnOf "steps_along" "steps_along" (defArgs s_steps_along) (defBody s_steps_along) (defScope s_steps_along) .none kV5 dc5 pm5 an5 cd5 ct5), sl5⟩)
    (x5 : PySem.W.codeIn K cd5 "steps_along" = true)
    (k5 : PySem.W.keepIn K (.ref f5) = true)
    (a6 : PySem.W.nsIn K mainGlobals "carried" = some (some (.ref f6)))
    (l6 : K.lookup f6 = some ⟨oc6, od6, .func (PySem.W.fnOf "carried" "carried" (defArgs s_carried) (defBody s_carried) (defScope s_carried) .none kV6 dc6 pm6 an6 (.ref c6) ct6), sl6⟩)
    (x6 : PySem.W.codeIn K (.ref c6) "carried" = true)
    (k6 : PySem.W.keepIn K (.ref f6) = true)
    (h6 : K.lookup c6 = some ⟨ge6, gd6, .fields gv6, gs6⟩)
    (v6 : gv6[11]? = some (.ref P6))
    (n6 : K.lookup P6 = none)
    (e6 : PySem.W.codeHdIn K c6 P6 = true)
    (r6 : ((recsOf q).any fun r => r.name == ("carried" : Str)) = true)
    (a7 : PySem.W.nsIn K mainGlobals "_links" = some (some (.ref f7)))
    (l7 : K.lookup f7 = some ⟨oc7, od7, .func (PySem.W.fnOf "_links" "_links" (defArgs s_links) (defBody s_links) (defScope s_links) .none kV7 dc7 pm7 an7 cd7 ct7), sl7⟩)
    (x7 : PySem.W.codeIn K cd7 "_links" = true)
    (k7 : PySem.W.keepIn K (.ref f7) = true)
    (a8 : PySem.W.nsIn K mainGlobals "sum_by_transfer" = some (some (.ref f8)))
    (l8 : K.lookup f8 = some ⟨oc8, od8, .func (PySem.W.fnOf "sum_by_transfer" "sum_by_transfer" (defArgs s_sum_by_transfer) (defBody s_sum_by_transfer) (defScope s_sum_by_transfer) .none kV8 dc8 pm8 an8 cd8 ct8), sl8⟩)
    (x8 : PySem.W.codeIn K cd8 "sum_by_transfer" = true)
    (k8 : PySem.W.keepIn K (.ref f8) = true)
    (a9 : PySem.W.nsIn K mainGlobals "_times_spin" = some (some (.ref f9)))
    (l9 : K.lookup f9 = some ⟨oc9, od9, .func (PySem.W.fnOf "_times_spin" "_times_spin" (defArgs s_times_spin) (defBody s_times_spin) (defScope s_times_spin) .none kV9 dc9 pm9 an9 cd9 ct9), sl9⟩)
    (x9 : PySem.W.codeIn K cd9 "_times_spin" = true)
    (k9 : PySem.W.keepIn K (.ref f9) = true)
    (a10 : PySem.W.nsIn K mainGlobals "least_by_transfer" = some (some (.ref f10)))
    (l10 : K.lookup f10 = some ⟨oc10, od10, .func (PySem.W.fnOf "least_by_transfer" "least_by_transfer" (defArgs s_least_by_transfer) (defBody s_least_by_transfer) (defScope s_least_by_transfer) .none kV10 dc10 pm10 an10 cd10 ct10), sl10⟩)
    (x10 : PySem.W.codeIn K cd10 "least_by_transfer" = true)
    (k10 : PySem.W.keepIn K (.ref f10) = true)
    (a11 : PySem.W.nsIn K mainGlobals "_with_spin" = some (some (.ref f11)))
    (l11 : K.lookup f11 = some ⟨oc11, od11, .func (PySem.W.fnOf "_with_spin" "_with_spin" (defArgs s_with_spin) (defBody s_with_spin) (defScope s_with_spin) .none kV11 dc11 pm11 an11 cd11 ct11), sl11⟩)
    (x11 : PySem.W.codeIn K cd11 "_with_spin" = true)
    (k11 : PySem.W.keepIn K (.ref f11) = true)
    (a12 : PySem.W.nsIn K mainGlobals "_lesser" = some (some (.ref f12)))
    (l12 : K.lookup f12 = some ⟨oc12, od12, .func (PySem.W.fnOf "_lesser" "_lesser" (defArgs s_lesser) (defBody s_lesser) (defScope s_lesser) .none kV12 dc12 pm12 an12 cd12 ct12), sl12⟩)
    (x12 : PySem.W.codeIn K cd12 "_lesser" = true)
    (k12 : PySem.W.keepIn K (.ref f12) = true)
    (ac_Spins : PySem.W.nsIn K mainGlobals "Spins" = some (some (.ref C_Spins)))
    (a13 : PySem.W.findIn K (.ref C_Spins) "__init__" = some (some (.ref f13)))
    (i13 : PySem.W.isFn K (.ref f13) = true)
    (l13 : K.lookup f13 = some ⟨oc13, od13, .func (PySem.W.fnOf "__init__" "Spins.__init__" (defArgs s_Spins_init) (defBody s_Spins_init) (defScope s_Spins_init) .none kV13 dc13 pm13 an13 (.ref c13) ct13), sl13⟩)
    (x13 : PySem.W.codeIn K (.ref c13) "Spins.__init__" = true)
    (k13 : PySem.W.keepIn K (.ref f13) = true)
    (h13 : K.lookup c13 = some ⟨ge13, gd13, .fields gv13, gs13⟩)
    (v13 : gv13[11]? = some (.ref P13))
    (n13 : K.lookup P13 = none)
    (e13 : PySem.W.codeHdIn K c13 P13 = true)
    (t13 : h.get? P13 = some { cls := .none, data := .fields #[] })
    (a14 : PySem.W.nsIn K mainGlobals "_check_fields" = some (some (.ref f14)))
    (l14 : K.lookup f14 = some ⟨oc14, od14, .func (PySem.W.fnOf "_check_fields" "_check_fields" (defArgs s_check_fields) (defBody s_check_fields) (defScope s_check_fields) .none kV14 dc14 pm14 an14 (.ref c14) ct14), sl14⟩)
    (x14 : PySem.W.codeIn K (.ref c14) "_check_fields" = true)
    (k14 : PySem.W.keepIn K (.ref f14) = true)
    (h14 : K.lookup c14 = some ⟨ge14, gd14, .fields gv14, gs14⟩)
    (v14 : gv14[11]? = some (.ref P14))
    (n14 : K.lookup P14 = none)
    (e14 : PySem.W.codeHdIn K c14 P14 = true)
    (r14 : ((recsOf q).any fun r => r.name == ("_check_fields" : Str)) = true)
    (a15 : PySem.W.nsIn K mainGlobals "_check_edges" = some (some (.ref f15)))
    (l15 : K.lookup f15 = some ⟨oc15, od15, .func (PySem.W.fnOf "_check_edges" "_check_edges" (defArgs s_check_edges) (defBody s_check_edges) (defScope s_check_edges) .none kV15 dc15 pm15 an15 cd15 ct15), sl15⟩)
    (x15 : PySem.W.codeIn K cd15 "_check_edges" = true)
    (k15 : PySem.W.keepIn K (.ref f15) = true)
    (a16 : PySem.W.nsIn K mainGlobals "_law_cell" = some (some (.ref f16)))
    (l16 : K.lookup f16 = some ⟨oc16, od16, .func (PySem.W.fnOf "_law_cell" "_law_cell" (defArgs s_law_cell) (defBody s_law_cell) (defScope s_law_cell) .none kV16 dc16 pm16 an16 cd16 ct16), sl16⟩)
    (x16 : PySem.W.codeIn K cd16 "_law_cell" = true)
    (k16 : PySem.W.keepIn K (.ref f16) = true)
    (a17 : PySem.W.nsIn K mainGlobals "_law_mix" = some (some (.ref f17)))
    (l17 : K.lookup f17 = some ⟨oc17, od17, .func (PySem.W.fnOf "_law_mix" "_law_mix" (defArgs s_law_mix) (defBody s_law_mix) (defScope s_law_mix) .none kV17 dc17 pm17 an17 cd17 ct17), sl17⟩)
    (x17 : PySem.W.codeIn K cd17 "_law_mix" = true)
    (k17 : PySem.W.keepIn K (.ref f17) = true)
    (a18 : PySem.W.nsIn K mainGlobals "_law_row" = some (some (.ref f18)))
    (l18 : K.lookup f18 = some ⟨oc18, od18, .func (PySem.W.fnOf "_law_row" "_law_row" (defArgs s_law_row) (defBody s_law_row) (defScope s_law_row) .none kV18 dc18 pm18 an18 cd18 ct18), sl18⟩)
    (x18 : PySem.W.codeIn K cd18 "_law_row" = true)
    (k18 : PySem.W.keepIn K (.ref f18) = true)
    (a19 : PySem.W.nsIn K mainGlobals "_law_tuples" = some (some (.ref f19)))
    (l19 : K.lookup f19 = some ⟨oc19, od19, .func (PySem.W.fnOf "_law_tuples" "_law_tuples" (defArgs s_law_tuples) (defBody s_law_tuples) (defScope s_law_tuples) .none kV19 dc19 pm19 an19 cd19 ct19), sl19⟩)
    (x19 : PySem.W.codeIn K cd19 "_law_tuples" = true)
    (k19 : PySem.W.keepIn K (.ref f19) = true)
    (a20 : PySem.W.nsIn K mainGlobals "_law_poly" = some (some (.ref f20)))
    (l20 : K.lookup f20 = some ⟨oc20, od20, .func (PySem.W.fnOf "_law_poly" "_law_poly" (defArgs s_law_poly) (defBody s_law_poly) (defScope s_law_poly) .none kV20 dc20 pm20 an20 cd20 ct20), sl20⟩)
    (x20 : PySem.W.codeIn K cd20 "_law_poly" = true)
    (k20 : PySem.W.keepIn K (.ref f20) = true)
    (a21 : PySem.W.nsIn K mainGlobals "_law_spins" = some (some (.ref f21)))
    (l21 : K.lookup f21 = some ⟨oc21, od21, .func (PySem.W.fnOf "_law_spins" "_law_spins" (defArgs s_law_spins) (defBody s_law_spins) (defScope s_law_spins) .none kV21 dc21 pm21 an21 cd21 ct21), sl21⟩)
    (x21 : PySem.W.codeIn K cd21 "_law_spins" = true)
    (k21 : PySem.W.keepIn K (.ref f21) = true)
    (a22 : PySem.W.nsIn K mainGlobals "_law_states" = some (some (.ref f22)))
    (l22 : K.lookup f22 = some ⟨oc22, od22, .func (PySem.W.fnOf "_law_states" "_law_states" (defArgs s_law_states) (defBody s_law_states) (defScope s_law_states) .none kV22 dc22 pm22 an22 cd22 ct22), sl22⟩)
    (x22 : PySem.W.codeIn K cd22 "_law_states" = true)
    (k22 : PySem.W.keepIn K (.ref f22) = true)
    (a23 : PySem.W.nsIn K mainGlobals "_law_cost" = some (some (.ref f23)))
    (l23 : K.lookup f23 = some ⟨oc23, od23, .func (PySem.W.fnOf "_law_cost" "_law_cost" (defArgs s_law_cost) (defBody s_law_cost) (defScope s_law_cost) .none kV23 dc23 pm23 an23 cd23 ct23), sl23⟩)
    (x23 : PySem.W.codeIn K cd23 "_law_cost" = true)
    (k23 : PySem.W.keepIn K (.ref f23) = true)
    (a24 : PySem.W.nsIn K mainGlobals "_law_sum" = some (some (.ref f24)))
    (l24 : K.lookup f24 = some ⟨oc24, od24, .func (PySem.W.fnOf "_law_sum" "_law_sum" (defArgs s_law_sum) (defBody s_law_sum) (defScope s_law_sum) .none kV24 dc24 pm24 an24 cd24 ct24), sl24⟩)
    (x24 : PySem.W.codeIn K cd24 "_law_sum" = true)
    (k24 : PySem.W.keepIn K (.ref f24) = true)
    (a25 : PySem.W.nsIn K mainGlobals "_law_order" = some (some (.ref f25)))
    (l25 : K.lookup f25 = some ⟨oc25, od25, .func (PySem.W.fnOf "_law_order" "_law_order" (defArgs s_law_order) (defBody s_law_order) (defScope s_law_order) .none kV25 dc25 pm25 an25 cd25 ct25), sl25⟩)
    (x25 : PySem.W.codeIn K cd25 "_law_order" = true)
    (k25 : PySem.W.keepIn K (.ref f25) = true)
    (a26 : PySem.W.nsIn K mainGlobals "_law_refused" = some (some (.ref f26)))
    (l26 : K.lookup f26 = some ⟨oc26, od26, .func (PySem.W.fnOf "_law_refused" "_law_refused" (defArgs s_law_refused) (defBody s_law_refused) (defScope s_law_refused) .none kV26 dc26 pm26 an26 cd26 ct26), sl26⟩)
    (x26 : PySem.W.codeIn K cd26 "_law_refused" = true)
    (k26 : PySem.W.keepIn K (.ref f26) = true)
    (a27 : PySem.W.nsIn K mainGlobals "law" = some (some (.ref f27)))
    (l27 : K.lookup f27 = some ⟨oc27, od27, .func (PySem.W.fnOf "law" "law" (defArgs s_law) (defBody s_law) (defScope s_law) .none kV27 dc27 pm27 an27 cd27 ct27), sl27⟩)
    (x27 : PySem.W.codeIn K cd27 "law" = true)
    (k27 : PySem.W.keepIn K (.ref f27) = true)
    {fO t1 t2 : Addr} {q1 q2 q3 : Option Addr} {m1 m2 m3 : Nat} {u1 u2 u3 : Tok} {w1 w2 w3 : Array (Option Value)} (o0 : PySem.W.nsIn K mainGlobals "ONE" = some (some (.ref fO))) (o1 : K.lookup fO = some ⟨.type "tuple", q1, .seq #[.ref t1] m1, w1⟩) (o2 : K.lookup t1 = some ⟨.type "tuple", q2, .seq #[.ref t2, .int 1 u1] m2, w2⟩) (o3 : K.lookup t2 = some ⟨.type "tuple", q3, .seq #[.int 0 u2, .int 0 u3] m3, w3⟩)
    (n_MOST_VERTICES : PySem.W.nsIn K mainGlobals "MOST_VERTICES" = some (some (.int 12 tk_MOST_VERTICES)))
    (n_MOST_EDGES : PySem.W.nsIn K mainGlobals "MOST_EDGES" = some (some (.int 24 tk_MOST_EDGES)))
    (n_MOST_SIZE : PySem.W.nsIn K mainGlobals "MOST_SIZE" = some (some (.int 9 tk_MOST_SIZE)))
    (ax_FieldError : PySem.W.nsIn K mainGlobals "FieldError" = some (some (.ref X_FieldError)))
    (q_FieldError : PySem.W.excIn K X_FieldError veB "ValueError.__new__" = true)
    (kx_FieldError : PySem.W.keepIn K (.ref X_FieldError) = true)
    (bx_FieldError : PySem.W.subIn K (.ref X_FieldError) (.type "BaseException") = some true)
    (yx_FieldError : PySem.W.typeIn K (.ref X_FieldError) = some (.type "type"))
    (ax_InvalidSpins : PySem.W.nsIn K mainGlobals "InvalidSpins" = some (some (.ref X_InvalidSpins)))
    (q_InvalidSpins : PySem.W.excIn K X_InvalidSpins veB "ValueError.__new__" = true)
    (kx_InvalidSpins : PySem.W.keepIn K (.ref X_InvalidSpins) = true)
    (bx_InvalidSpins : PySem.W.subIn K (.ref X_InvalidSpins) (.type "BaseException") = some true)
    (yx_InvalidSpins : PySem.W.typeIn K (.ref X_InvalidSpins) = some (.type "type"))
    (ax_InvalidOrder : PySem.W.nsIn K mainGlobals "InvalidOrder" = some (some (.ref X_InvalidOrder)))
    (q_InvalidOrder : PySem.W.excIn K X_InvalidOrder veB "ValueError.__new__" = true)
    (kx_InvalidOrder : PySem.W.keepIn K (.ref X_InvalidOrder) = true)
    (bx_InvalidOrder : PySem.W.subIn K (.ref X_InvalidOrder) (.type "BaseException") = some true)
    (yx_InvalidOrder : PySem.W.typeIn K (.ref X_InvalidOrder) = some (.type "type"))
    (pg_Spins : PySem.W.plainGet K C_Spins Str.empty = true)
    (hd_Spins : PySem.W.hasDictIn K C_Spins = true)
    (po_Spins : PySem.W.plainOver K C_Spins = true)
    (sa_Spins : PySem.W.findIn K (.ref C_Spins) "__setattr__" = some (some (.builtin "object.__setattr__")))
    (mk_Spins : PySem.W.makesIn K C_Spins = true)
    (kc_Spins : PySem.W.keepIn K (.ref C_Spins) = true)
    (na_Spins_fields : PySem.W.findIn K (.ref C_Spins) "fields" = some none)
    (na_Spins_edges : PySem.W.findIn K (.ref C_Spins) "edges" = some none)
    (z_abs : PySem.W.nsIn K mainGlobals "abs" = some none)
    (z_all : PySem.W.nsIn K mainGlobals "all" = some none)
    (z_bool : PySem.W.nsIn K mainGlobals "bool" = some none)
    (z_enumerate : PySem.W.nsIn K mainGlobals "enumerate" = some none)
    (z_int : PySem.W.nsIn K mainGlobals "int" = some none)
    (z_isinstance : PySem.W.nsIn K mainGlobals "isinstance" = some none)
    (z_len : PySem.W.nsIn K mainGlobals "len" = some none)
    (z_list : PySem.W.nsIn K mainGlobals "list" = some none)
    (z_max : PySem.W.nsIn K mainGlobals "max" = some none)
    (z_min : PySem.W.nsIn K mainGlobals "min" = some none)
    (z_range : PySem.W.nsIn K mainGlobals "range" = some none)
    (z_sorted : PySem.W.nsIn K mainGlobals "sorted" = some none)
    (z_sum : PySem.W.nsIn K mainGlobals "sum" = some none)
    (z_tuple : PySem.W.nsIn K mainGlobals "tuple" = some none)
    (z_zip : PySem.W.nsIn K mainGlobals "zip" = some none)
    (xm : PySem.W.exmOne K (.ref X_InvalidOrder) (.ref X_FieldError) = some true)
    (ki : PySem.W.kitOne K (.ref X_InvalidOrder) (.ref X_InvalidOrder) = some true)
    (ehg : PySem.W.findIn K (.ref X_InvalidOrder) "__getattribute__" = some (some (.builtin "BaseException.__getattribute__")))
    (ehk : PySem.W.findIn K (.ref X_InvalidOrder) "__getattr__" = some none)
    (ehd : PySem.W.hasDictIn K X_InvalidOrder = true)
    (eha : PySem.W.findIn K (.ref X_InvalidOrder) "__class__" = some (some (.builtin "object.__class__")))
    (ehn : PySem.W.specialIn K (.builtin "object.__class__") "__get__" = some (some (.builtin "getset_descriptor.__get__")))
    (eht : PySem.W.takesIn K (.builtin "object.__class__") = some true)
    (ehm : PySem.W.mroIn K X_InvalidOrder (.type "object") = some true) :
    LamX.LawAtS l w K CX0 8 63 "script" mg fa h := by
  have e := hfa.symm.trans (PySem.W.mg_of X G a27)
  cases e
  have F0 := fun_mk (st := s_polynomial) l0 x0 k0
  have b0 := F0.binds (ps := ["terms"]) fun _ _ _ _ _ _ us hl => match us, hl with | [_], _ => rfl
  have F1 := funC_mk (st := s_in_order) l1 x1 k1
  have b1 := F1.binds (ps := ["found"]) fun _ _ _ _ _ _ us hl => match us, hl with | [_], _ => rfl
  have F2 := fun_mk (st := s_plus) l2 x2 k2
  have b2 := F2.binds (ps := ["p", "q"]) fun _ _ _ _ _ _ us hl => match us, hl with | [_, _], _ => rfl
  have F3 := fun_mk (st := s_times) l3 x3 k3
  have b3 := F3.binds (ps := ["p", "q"]) fun _ _ _ _ _ _ us hl => match us, hl with | [_, _], _ => rfl
  have F4 := fun_mk (st := s_check_order) l4 x4 k4
  have b4 := F4.binds (ps := ["spins", "order"]) fun _ _ _ _ _ _ us hl => match us, hl with | [_, _], _ => rfl
  have F5 := fun_mk (st := s_steps_along) l5 x5 k5
  have b5 := F5.binds (ps := ["edges", "order"]) fun _ _ _ _ _ _ us hl => match us, hl with | [_, _], _ => rfl
  have F6 := funC_mk (st := s_carried) l6 x6 k6
  have b6 := F6.binds (ps := ["spins", "order", "start", "pay", "merge"]) fun _ _ _ _ _ _ us hl => match us, hl with | [_, _, _, _, _], _ => rfl
  have F7 := fun_mk (st := s_links) l7 x7 k7
  have b7 := F7.binds (ps := ["spins", "front", "vertex", "edges"]) fun _ _ _ _ _ _ us hl => match us, hl with | [_, _, _, _], _ => rfl
  have F8 := fun_mk (st := s_sum_by_transfer) l8 x8 k8
  have b8 := F8.binds (ps := ["spins", "order"]) fun _ _ _ _ _ _ us hl => match us, hl with | [_, _], _ => rfl
  have F9 := fun_mk (st := s_times_spin) l9 x9 k9
  have b9 := F9.binds (ps := ["p", "_", "spin", "price"]) fun _ _ _ _ _ _ us hl => match us, hl with | [_, _, _, _], _ => rfl
  have F10 := fun_mk (st := s_least_by_transfer) l10 x10 k10
  have b10 := F10.binds (ps := ["spins", "order"]) fun _ _ _ _ _ _ us hl => match us, hl with | [_, _], _ => rfl
  have F11 := fun_mk (st := s_with_spin) l11 x11 k11
  have b11 := F11.binds (ps := ["kept", "vertex", "spin", "price"]) fun _ _ _ _ _ _ us hl => match us, hl with | [_, _, _, _], _ => rfl
  have F12 := fun_mk (st := s_lesser) l12 x12 k12
  have b12 := F12.binds (ps := ["one", "other"]) fun _ _ _ _ _ _ us hl => match us, hl with | [_, _], _ => rfl
  have F13 := funC_mk (st := s_Spins_init) l13 x13 k13
  have b13 := F13.binds (ps := ["self", "fields", "edges"]) fun _ _ _ _ _ _ us hl => match us, hl with | [_, _, _], _ => rfl
  have F14 := funC_mk (st := s_check_fields) l14 x14 k14
  have b14 := F14.binds (ps := ["fields"]) fun _ _ _ _ _ _ us hl => match us, hl with | [_], _ => rfl
  have F15 := fun_mk (st := s_check_edges) l15 x15 k15
  have b15 := F15.binds (ps := ["edges", "count"]) fun _ _ _ _ _ _ us hl => match us, hl with | [_, _], _ => rfl
  have F16 := fun_mk (st := s_law_cell) l16 x16 k16
  have b16 := F16.binds (ps := ["script", "k"]) fun _ _ _ _ _ _ us hl => match us, hl with | [_, _], _ => rfl
  have F17 := fun_mk (st := s_law_mix) l17 x17 k17
  have b17 := F17.binds (ps := ["cell", "k"]) fun _ _ _ _ _ _ us hl => match us, hl with | [_, _], _ => rfl
  have F18 := fun_mk (st := s_law_row) l18 x18 k18
  have b18 := F18.binds (ps := ["cell", "count", "bound"]) fun _ _ _ _ _ _ us hl => match us, hl with | [_, _, _], _ => rfl
  have F19 := fun_mk (st := s_law_tuples) l19 x19 k19
  have b19 := F19.binds (ps := ["thing"]) fun _ _ _ _ _ _ us hl => match us, hl with | [_], _ => rfl
  have F20 := fun_mk (st := s_law_poly) l20 x20 k20
  have b20 := F20.binds (ps := ["terms"]) fun _ _ _ _ _ _ us hl => match us, hl with | [_], _ => rfl
  have F21 := fun_mk (st := s_law_spins) l21 x21 k21
  have b21 := F21.binds (ps := ["script", "first", "most", "kind"]) fun _ _ _ _ _ _ us hl => match us, hl with | [_, _, _, _], _ => rfl
  have F22 := fun_mk (st := s_law_states) l22 x22 k22
  have b22 := F22.binds (ps := ["count"]) fun _ _ _ _ _ _ us hl => match us, hl with | [_], _ => rfl
  have F23 := fun_mk (st := s_law_cost) l23 x23 k23
  have b23 := F23.binds (ps := ["fields", "edges", "state"]) fun _ _ _ _ _ _ us hl => match us, hl with | [_, _, _], _ => rfl
  have F24 := fun_mk (st := s_law_sum) l24 x24 k24
  have b24 := F24.binds (ps := ["fields", "edges"]) fun _ _ _ _ _ _ us hl => match us, hl with | [_, _], _ => rfl
  have F25 := fun_mk (st := s_law_order) l25 x25 k25
  have b25 := F25.binds (ps := ["cell", "count"]) fun _ _ _ _ _ _ us hl => match us, hl with | [_, _], _ => rfl
  have F26 := fun_mk (st := s_law_refused) l26 x26 k26
  have b26 := F26.binds (ps := ["spins", "order", "question"]) fun _ _ _ _ _ _ us hl => match us, hl with | [_, _, _], _ => rfl
  have F27 := fun_mk (st := s_law) l27 x27 k27
  let T : Top K mg := ⟨f0, _, F0, b0, PySem.W.mg_of X G a0, f1, _, c1, P1, F1, b1, PySem.W.mg_of X G a1, f2, _, F2, b2, PySem.W.mg_of X G a2, f3, _, F3, b3, PySem.W.mg_of X G a3, f4, _, F4, b4, PySem.W.mg_of X G a4, f5, _, F5, b5, PySem.W.mg_of X G a5, f6, _, c6, P6, F6, b6, PySem.W.mg_of X G a6, f7, _, F7, b7, PySem.W.mg_of X G a7, f8, _, F8, b8, PySem.W.mg_of X G a8, f9, _, F9, b9, PySem.W.mg_of X G a9, f10, _, F10, b10, PySem.W.mg_of X G a10, f11, _, F11, b11, PySem.W.mg_of X G a11, f12, _, F12, b12, PySem.W.mg_of X G a12, f14, _, c14, P14, F14, b14, PySem.W.mg_of X G a14, f15, _, F15, b15, PySem.W.mg_of X G a15, f16, _, F16, b16, PySem.W.mg_of X G a16, f17, _, F17, b17, PySem.W.mg_of X G a17, f18, _, F18, b18, PySem.W.mg_of X G a18, f19, _, F19, b19, PySem.W.mg_of X G a19, f20, _, F20, b20, PySem.W.mg_of X G a20, f21, _, F21, b21, PySem.W.mg_of X G a21, f22, _, F22, b22, PySem.W.mg_of X G a22, f23, _, F23, b23, PySem.W.mg_of X G a23, f24, _, F24, b24, PySem.W.mg_of X G a24, f25, _, F25, b25, PySem.W.mg_of X G a25, f26, _, F26, b26, PySem.W.mg_of X G a26, fO, PySem.W.mg_of X G o0, k_one o1 o2 o3, tk_MOST_VERTICES, PySem.W.mg_of X G n_MOST_VERTICES, tk_MOST_EDGES, PySem.W.mg_of X G n_MOST_EDGES, tk_MOST_SIZE, PySem.W.mg_of X G n_MOST_SIZE, X_FieldError, PySem.W.mg_of X G ax_FieldError, q_FieldError, kx_FieldError, bx_FieldError, yx_FieldError, X_InvalidSpins, PySem.W.mg_of X G ax_InvalidSpins, q_InvalidSpins, kx_InvalidSpins, bx_InvalidSpins, yx_InvalidSpins, X_InvalidOrder, PySem.W.mg_of X G ax_InvalidOrder, q_InvalidOrder, kx_InvalidOrder, bx_InvalidOrder, yx_InvalidOrder, C_Spins, PySem.W.mg_of X G ac_Spins, ⟨pg_Spins, hd_Spins, po_Spins, sa_Spins⟩, f13, _, c13, P13, F13, b13, ⟨mk_Spins, a13, i13, kc_Spins⟩, na_Spins_fields, na_Spins_edges, PySem.W.mg_none_of X G z_abs, PySem.W.mg_none_of X G z_all, PySem.W.mg_none_of X G z_bool, PySem.W.mg_none_of X G z_enumerate, PySem.W.mg_none_of X G z_int, PySem.W.mg_none_of X G z_isinstance, PySem.W.mg_none_of X G z_len, PySem.W.mg_none_of X G z_list, PySem.W.mg_none_of X G z_max, PySem.W.mg_none_of X G z_min, PySem.W.mg_none_of X G z_range, PySem.W.mg_none_of X G z_sorted, PySem.W.mg_none_of X G z_sum, PySem.W.mg_none_of X G z_tuple, PySem.W.mg_none_of X G z_zip, xm, ki, ⟨ehg, ehk, bx_InvalidOrder, ehd, eha, ehn, eht, ehm⟩⟩
  refine ⟨_, [(c1, P1), (c6, P6), (c13, P13), (c14, P14)], spLaw T, ?_, ?_, ?_, fun s u => .of_eq rfl, fun H a ns hl hb ht hS => law_in T H a ns hl hb ⟨tabG0 (ht (c1, P1) (by simp)), tabG0 (ht (c6, P6) (by simp)), tabG0 (ht (c13, P13) (by simp)), tabG0 (ht (c14, P14) (by simp))⟩ hS, fun base _ _ tb => ok_law F27 T ⟨tb (c1, P1) (by simp), tb (c6, P6) (by simp), tb (c13, P13) (by simp), tb (c14, P14) (by simp)⟩⟩
  · intro p hp
    simp only [List.mem_cons, List.not_mem_nil, or_false] at hp
    rcases hp with rfl | rfl | rfl | rfl
    · exact AT "_in_order" f1 c1 P1 _ _ _ _ _ _ r1 a1 l1 rfl rfl h1 v1
    · exact AT "carried" f6 c6 P6 _ _ _ _ _ _ r6 a6 l6 rfl rfl h6 v6
    · exact t13
    · exact AT "_check_fields" f14 c14 P14 _ _ _ _ _ _ r14 a14 l14 rfl rfl h14 v14
  · intro p hp
    simp only [List.mem_cons, List.not_mem_nil, or_false] at hp
    rcases hp with rfl | rfl | rfl | rfl
    · exact n1
    · exact n6
    · exact n13
    · exact n14
  · intro p hp
    simp only [List.mem_cons, List.not_mem_nil, or_false] at hp
    rcases hp with rfl | rfl | rfl | rfl
    · exact PySem.W.codeHd_of_K X e1
    · exact PySem.W.codeHd_of_K X e6
    · exact PySem.W.codeHd_of_K X e13
    · exact PySem.W.codeHd_of_K X e14
end KP
open PySem PySem.W PyProof.Rows
local macro_rules | `(tactic| o_head ($f:ident $k $a $e)) => `(tactic| o_head (kmHook $k $a $e [150]))
set_option maxHeartbeats 0 in
theorem PySem.Challenge.cw_spinfield_k09_transfer_holds : PySem.Challenge.rw_spinfield_k09_transfer.Holds := by
  w_on; o_law; k_head; (case hw => w_witness2)
  k_fill
  refine LamX.walk_ofAll (l := PySem.Challenge.rw_spinfield_k09_transfer) (n := 63) (k := 8) (x := "script") (CX := fun _ => L2.CX0) rfl (by decide) rfl ⟨rfl, by decide, by decide⟩ (fun w h Y => PySem.W.km_in_of Y) ?F (fun _ _ _ _ _ h => h)
  case F =>
    intro w mg fa h Y KX G hmg AT
    refine' KP.all_mk KX G hmg AT ?a0 ?l0 ?x0 ?k0 ?a1 ?l1 ?x1 ?k1 ?h1 ?v1 ?n1 ?e1 ?r1 ?a2 ?l2 ?x2 ?k2 ?a3 ?l3 ?x3 ?k3 ?a4 ?l4 ?x4 ?k4 ?a5 ?l5 ?x5 ?k5 ?a6 ?l6 ?x6 ?k6 ?h6 ?v6 ?n6 ?e6 ?r6 ?a7 ?l7 ?x7 ?k7 ?a8 ?l8 ?x8 ?k8 ?a9 ?l9 ?x9 ?k9 ?a10 ?l10 ?x10 ?k10 ?a11 ?l11 ?x11 ?k11 ?a12 ?l12 ?x12 ?k12 ?ac_Spins ?a13 ?i13 ?l13 ?x13 ?k13 ?h13 ?v13 ?n13 ?e13 ?t13 ?a14 ?l14 ?x14 ?k14 ?h14 ?v14 ?n14 ?e14 ?r14 ?a15 ?l15 ?x15 ?k15 ?a16 ?l16 ?x16 ?k16 ?a17 ?l17 ?x17 ?k17 ?a18 ?l18 ?x18 ?k18 ?a19 ?l19 ?x19 ?k19 ?a20 ?l20 ?x20 ?k20 ?a21 ?l21 ?x21 ?k21 ?a22 ?l22 ?x22 ?k22 ?a23 ?l23 ?x23 ?k23 ?a24 ?l24 ?x24 ?k24 ?a25 ?l25 ?x25 ?k25 ?a26 ?l26 ?x26 ?k26 ?a27 ?l27 ?x27 ?k27 ?o0 ?o1 ?o2 ?o3 ?n_MOST_VERTICES ?n_MOST_EDGES ?n_MOST_SIZE ?ax_FieldError ?q_FieldError ?kx_FieldError ?bx_FieldError ?yx_FieldError ?ax_InvalidSpins ?q_InvalidSpins ?kx_InvalidSpins ?bx_InvalidSpins ?yx_InvalidSpins ?ax_InvalidOrder ?q_InvalidOrder ?kx_InvalidOrder ?bx_InvalidOrder ?yx_InvalidOrder ?pg_Spins ?hd_Spins ?po_Spins ?sa_Spins ?mk_Spins ?kc_Spins ?na_Spins_fields ?na_Spins_edges ?z_abs ?z_all ?z_bool ?z_enumerate ?z_int ?z_isinstance ?z_len ?z_list ?z_max ?z_min ?z_range ?z_sorted ?z_sum ?z_tuple ?z_zip ?xm ?ki ?ehg ?ehk ?ehd ?eha ?ehn ?eht ?ehm
    (case a0 => k_is); (case l0 => k_is); (case x0 => k_is); (case k0 => k_is); (case a1 => k_is); (case l1 => k_is); (case x1 => k_is); (case k1 => k_is); (case h1 => k_is); (case v1 => exact rfl); (case n1 => kernel_rfl); (case e1 => kernel_rfl); (case r1 => kernel_rfl); (case a2 => k_is); (case l2 => k_is); (case x2 => k_is); (case k2 => k_is); (case a3 => k_is); (case l3 => k_is); (case x3 => k_is); (case k3 => k_is); (case a4 => k_is); (case l4 => k_is); (case x4 => k_is); (case k4 => k_is); (case a5 => k_is); (case l5 => k_is); (case x5 => k_is); (case k5 => k_is); (case a6 => k_is); (case l6 => k_is); (case x6 => k_is); (case k6 => k_is); (case h6 => k_is); (case v6 => exact rfl); (case n6 => kernel_rfl); (case e6 => kernel_rfl); (case r6 => kernel_rfl); (case a7 => k_is); (case l7 => k_is); (case x7 => k_is); (case k7 => k_is); (case a8 => k_is); (case l8 => k_is); (case x8 => k_is); (case k8 => k_is); (case a9 => k_is); (case l9 => k_is); (case x9 => k_is); (case k9 => k_is); (case a10 => k_is); (case l10 => k_is); (case x10 => k_is); (case k10 => k_is); (case a11 => k_is); (case l11 => k_is); (case x11 => k_is); (case k11 => k_is); (case a12 => k_is); (case l12 => k_is); (case x12 => k_is); (case k12 => k_is); (case ac_Spins => k_is); (case a13 => k_is); (case i13 => k_is); (case l13 => k_is); (case x13 => k_is); (case k13 => k_is); (case h13 => k_is); (case v13 => exact rfl); (case n13 => kernel_rfl); (case e13 => kernel_rfl); (case t13 => exact PySem.W.km_tabs_of Y 150 (by simp)); (case a14 => k_is); (case l14 => k_is); (case x14 => k_is); (case k14 => k_is); (case h14 => k_is); (case v14 => exact rfl); (case n14 => kernel_rfl); (case e14 => kernel_rfl); (case r14 => kernel_rfl); (case a15 => k_is); (case l15 => k_is); (case x15 => k_is); (case k15 => k_is); (case a16 => k_is); (case l16 => k_is); (case x16 => k_is); (case k16 => k_is); (case a17 => k_is); (case l17 => k_is); (case x17 => k_is); (case k17 => k_is); (case a18 => k_is); (case l18 => k_is); (case x18 => k_is); (case k18 => k_is); (case a19 => k_is); (case l19 => k_is); (case x19 => k_is); (case k19 => k_is); (case a20 => k_is); (case l20 => k_is); (case x20 => k_is); (case k20 => k_is); (case a21 => k_is); (case l21 => k_is); (case x21 => k_is); (case k21 => k_is); (case a22 => k_is); (case l22 => k_is); (case x22 => k_is); (case k22 => k_is); (case a23 => k_is); (case l23 => k_is); (case x23 => k_is); (case k23 => k_is); (case a24 => k_is); (case l24 => k_is); (case x24 => k_is); (case k24 => k_is); (case a25 => k_is); (case l25 => k_is); (case x25 => k_is); (case k25 => k_is); (case a26 => k_is); (case l26 => k_is); (case x26 => k_is); (case k26 => k_is); (case a27 => k_is); (case l27 => k_is); (case x27 => k_is); (case k27 => k_is); (case o0 => k_is); (case o1 => k_is); (case o2 => k_is); (case o3 => k_is); (case n_MOST_VERTICES => k_is); (case n_MOST_EDGES => k_is); (case n_MOST_SIZE => k_is); (case ax_FieldError => k_is); (case q_FieldError => kernel_rfl); (case kx_FieldError => k_is); (case bx_FieldError => k_is); (case yx_FieldError => k_is); (case ax_InvalidSpins => k_is); (case q_InvalidSpins => kernel_rfl); (case kx_InvalidSpins => k_is); (case bx_InvalidSpins => k_is); (case yx_InvalidSpins => k_is); (case ax_InvalidOrder => k_is); (case q_InvalidOrder => kernel_rfl); (case kx_InvalidOrder => k_is); (case bx_InvalidOrder => k_is); (case yx_InvalidOrder => k_is); (case pg_Spins => k_is); (case hd_Spins => k_is); (case po_Spins => k_is); (case sa_Spins => k_is); (case mk_Spins => k_is); (case kc_Spins => k_is); (case na_Spins_fields => k_is); (case na_Spins_edges => k_is); (case z_abs => k_is); (case z_all => k_is); (case z_bool => k_is); (case z_enumerate => k_is); (case z_int => k_is); (case z_isinstance => k_is); (case z_len => k_is); (case z_list => k_is); (case z_max => k_is); (case z_min => k_is); (case z_range => k_is); (case z_sorted => k_is); (case z_sum => k_is); (case z_tuple => k_is); (case z_zip => k_is); (case xm => kernel_rfl); (case ki => kernel_rfl); (case ehg => k_is); (case ehk => k_is); (case ehd => k_is); (case eha => k_is); (case ehn => k_is); (case eht => k_is); (case ehm => k_is)
