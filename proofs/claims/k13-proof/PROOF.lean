import PyProof.Rows.All
import Wide.All
import OpenK.AllK
import Wide.FinOn
import HandS.ForMost
import HandS.AnyAll
import HandS.GenList
import HandS.EndTab
import PyProof.TupleOfGen
import HandS.SortRule
import HandS.Conv
import HandS.EndOwn
import HandS.EndBits
import HandS.Zip
import HandS.TupLe
import HandS.ForExc
import HandS.ExcIs
import HandS.Style
import HandS.TupAny
import HandS.IsInst
import HandS.CallLocal
import HandS.Wide
import HandS.Codes
import HandS.DictComp
import KE.KBits
import PyProof.SumWalkG
import KE.GoesEnum
import PyProof.Walks
import PyProof.MinMaxWalk
import HandS.TupSets
import HandS.Deep
import HandS.Text
import HandS.NamedTupSort
import KE.KSortTup
import PySem.Challenge.RW_spinfield_k13_even_sets
set_option Elab.async false
set_option linter.all false
set_option maxRecDepth 100000
set_option maxHeartbeats 4000000
/-! Generator expressions over the layer: the generator's own frame as a context, its turns, what wakes it. -/
namespace GXP
open PySem PySem.Spec PyProof.Rows L2
/-- the generator's frame while its consumer stands at A -/
abbrev gcx (X : Cx) (A : Around) (s : Shared) (H : Hp) (ce : Env) (fp : List Addr) : Cx :=
  { X with A := A, s_0 := s, H_0 := H, env := ce, outer := X.stack, stack := ce :: X.stack, ex := fp, fn := fun _ => false, calm := true, pn := [], xe := fun _ _ => False }
/-- the cells of the frame that are taken over -/
theorem clo_look {cells : List (Str × Addr)} {names : List (Str × NameKind)} (hf : ∀ y ∈ names, y.2 = .free → ∃ c, cells.lookup y.1 = some c) {y : Str} {c : Addr} (e : (cloFrom cells names []).lookup y = some c) : cells.lookup y = some c ∧ (y, NameKind.free) ∈ names := by
  rcases cloFrom_mem (PySem.mem_of_lookup e) with z | ⟨z, rfl⟩
  · cases z
  · obtain ⟨d, hd⟩ := hf _ z rfl
    have hd : cells.lookup y = some d := hd
    rw [hd]
    exact ⟨rfl, z⟩
theorem gcx_start {X : Cx} {pins : List (Addr × Obj)} {σ : L2.St} {H : Hp} {s s5 : Shared} {A : Around} {ce : Env} {scope : Scope} {own : List (Str × Nat)} {fp : List Addr} {m0 : Str → Option Value}
    (I : Inv X pins σ H s) (ok : BlkOk X.N X.env.scope scope own) (hN : X.N.Nodup) (nocell : ∀ y ∈ scope.names, y.2 ≠ .cell) (hfp : ∀ b ∈ fp, FpOk X pins H b ∧ b < s.heap.objs.size)
    (hsc : ce.scope = scope) (hL : ce.locals = s.heap.objs.size) (hgl : ce.globals = mainGlobals) (hbl : ce.builtins = builtinsNs) (hcl : ce.cells = cloFrom X.env.cells scope.names []) (hfr : ce.frame = some ce.locals)
    (hA : A.frames = some (ce :: X.stack)) (hh : A.handled = none) (kp : ∀ b o, s.heap.get? b = some o → s5.heap.get? b = some o) (ns : s5.heap.Ns ce.locals m0) (hos : s5.os = s.os) (hb : AllBare s5.gens) :
    Inv (gcx X A s H ce fp) [] (wipe σ (own.map (·.2))) H s5 := by
  have hfree : ∀ y ∈ scope.names, y.2 = .free → ∃ c, X.env.cells.lookup y.1 = some c := fun y hy e => (ok.free y hy e).elim (fun k => I.ok.has _ (.inl k)) (fun k => I.ok.has _ (.inr k))
  have look : ∀ {y c}, ce.cells.lookup y = some c → X.env.cells.lookup y = some c ∧ (y, NameKind.free) ∈ scope.names := fun {y c} e => clo_look hfree (by rw [← hcl]; exact e)
  have cellLt : ∀ {y c}, X.env.cells.lookup y = some c → c < s.heap.objs.size := fun {y c} e => let ⟨_, z⟩ := I.cell y c e; z.lt
  have freeHas : ∀ {y}, scope.names.lookup y = some .free → ∃ c, ce.cells.lookup y = some c ∧ X.env.cells.lookup y = some c := fun {y} e => by
    obtain ⟨c, hc⟩ := mem_lookup (cloFrom_has (cells := X.env.cells) (acc := []) (PySem.mem_of_lookup e))
    rw [← hcl] at hc
    exact ⟨c, hc, (look hc).1⟩
  have okG : (gcx X A s H ce fp).Ok := by
    refine { mod := I.ok.mod, kind := ?kd, glob := hgl, blt := hbl, above := Nat.le_of_eq hL.symm, inj := ?inj, has := ?has, cab := fun _ _ z _ => (by cases z), hd := fun _ => hh, frames := hA, stk := .inr ⟨rfl, hfr⟩, exf := ?exf, bs := I.bs, bsz := Nat.le_trans I.ok.bsz I.sz, noex := ?noex, exfs := ?exfs, funs := I.stack, frf := I.stkFree }
    case kd =>
      show ce.scope.kind = _
      rw [hsc]
      exact ok.kind
    case inj => exact fun y z c e1 e2 => I.ok.inj y z c (look e1).1 (look e2).1
    case has =>
      intro y hy
      have hy : ce.scope.names.lookup y = some .cell ∨ ce.scope.names.lookup y = some .free := hy
      rw [hsc] at hy
      rcases hy with hy | hy
      · exact absurd rfl (nocell _ (PySem.mem_of_lookup hy))
      · exact let ⟨c, h, _⟩ := freeHas hy; ⟨c, h⟩
    case exf =>
      refine fun b hb => ⟨?_, fun y c e z => (hfp b hb).1.2.2.2.2.1 y c (look e).1 z⟩
      show b ≠ ce.locals
      rw [hL]
      exact Nat.ne_of_lt (hfp b hb).2
    case noex =>
      intro b o e hb
      rcases (hfp b hb).1.2.2.2.1 with z | z
      · exact I.ok.noex b o e z
      · have h1 := Heap.lt_size e
        have h2 := I.ok.bsz
        exact absurd (Nat.lt_of_lt_of_le h1 (Nat.le_trans h2 z)) (Nat.lt_irrefl _)
    case exfs =>
      intro b hb z
      rcases List.mem_cons.mp (I.stkSub b z) with z | z
      · exact (hfp b hb).1.2.1 z
      · exact (hfp b hb).1.2.2.1 z
  refine { ok := okG, os := hos, bare := hb, base := Un.kept kp, loc := ⟨m0, ns, ?loc⟩, cell := ?cell, free := ?free, freeC := fun y c e => I.freeC y c (look e).1, pin := fun p hp => absurd (show p ∈ ([] : List (Addr × Obj)) ++ [] from hp) (by simp), hok := I.hok.kept kp, len := by rw [wipe_length]; exact I.len }
  case loc =>
    intro i y v e1 e2 e3
    obtain ⟨e2, hne⟩ := wipe_some e2
    have e3 : ce.scope.names.lookup y = some .local ∨ ce.scope.names.lookup y = some .cell ∨ ce.scope.names.lookup y = some .free := e3
    rw [hsc] at e3
    have hfr : scope.names.lookup y = some .free := by
      rcases e3 with k | k | k
      · exfalso
        rcases ok.own _ (PySem.mem_of_lookup k) (.inl rfl) with h | h
        · obtain ⟨p, hp, hpy⟩ := List.mem_map.mp h
          have h3 := ok.ix p hp
          have : p.1 = y := hpy
          rw [this] at h3
          exact hne (List.mem_map.mpr ⟨p, hp, nodup_ix hN h3 e1⟩)
        · exact h (List.mem_of_getElem? e1)
      · exact absurd rfl (nocell _ (PySem.mem_of_lookup k))
      · exact k
    obtain ⟨c, h1, h2⟩ := freeHas hfr
    have hvis : Vis X.env.scope y := (ok.free _ (PySem.mem_of_lookup hfr) rfl).elim (fun k => .inr (.inl k)) (fun k => .inr (.inr k))
    obtain ⟨m, hn, hl⟩ := I.loc
    obtain ⟨u, r, q⟩ := hl i y v e1 e2 hvis
    refine ⟨u, r, .inr ⟨.inr (by show ce.scope.names.lookup y = _; rw [hsc]; exact hfr), ?_⟩⟩
    rcases q with ⟨k, _⟩ | ⟨_, d, hd, z⟩
    · have k : X.env.scope.names.lookup y = some .local := k
      rcases ok.free _ (PySem.mem_of_lookup hfr) rfl with k' | k' <;> rw [show X.env.scope.names.lookup y = _ from k'] at k <;> cases k
    · rw [h2] at hd
      cases hd
      exact ⟨c, h1, z.keeps kp⟩
  case cell =>
    intro y c e
    obtain ⟨v, z⟩ := I.cell y c (look e).1
    exact ⟨v, z.keeps kp⟩
  case free =>
    show H ce.locals = none
    rw [hL]
    exact I.hok.fresh (Nat.le_refl _)
/-- while the generator sleeps, its consumer writes at cw alone -/
structure Doz (cw : List Addr) (s s' : Shared) : Prop where
  os : s'.os = s.os
  bare : AllBare s'.gens
  keep : ∀ b o, b ∉ cw → s.heap.get? b = some o → s'.heap.get? b = some o
  there : ∀ b ∈ cw, ∃ o, s'.heap.get? b = some o ∧ ∀ v, o.data ≠ .cell v
/-- what stands at cw is left alone by a turn -/
def KeptAt (cw : List Addr) (s₀ s : Shared) : Prop := ∀ b ∈ cw, ∀ o, s₀.heap.get? b = some o → s.heap.get? b = some o
/-- what a consumer does with an item: the items so far, the item, the heap, and what the generator wants to go on -/
abbrev Cy := List V → V → Hp → (List V → Hp → Prop) → Prop
/-- how the items so far show in what the consumer keeps at cw -/
structure Lnk (cw : List Addr) (Lk : List V → Heap → Prop) : Prop where
  st : ∀ ys h h', Lk ys h → (∀ b ∈ cw, ∀ o, h.get? b = some o → h'.get? b = some o) → Lk ys h'
def GYld (Y : Cx) (gp : List (Addr × Obj)) (cw : List Addr) (Lk : List V → Heap → Prop) (cy : Cy) : Protocol := fun _ s₀ v s kap =>
  ∃ (ys : List V) (y : V) (σ : L2.St) (H : Hp) (Nx : List V → Hp → Prop), Inv Y gp σ H s ∧ RelV y v ∧ KeptAt cw s₀ s ∧ (∀ b ∈ cw, H b = none) ∧ Lk ys s.heap ∧ cy ys y H Nx ∧ ∀ ys', Nx ys' H → ∀ s', Doz cw s s' → Lk ys' s'.heap → kap (.send .none) s'
def GFin (Y : Cx) (gp : List (Addr × Obj)) (cw : List Addr) (Lk : List V → Heap → Prop) (Qe : List V → Hp → Prop) : GenEnd := fun _ s₀ r s =>
  r = .ok .next ∧ ∃ (ys : List V) (σ : L2.St) (H : Hp), Inv Y gp σ H s ∧ KeptAt cw s₀ s ∧ (∀ b ∈ cw, H b = none) ∧ Lk ys s.heap ∧ Qe ys H
/-- the turns of a generator expression: W by the turn, a measure and the items so far -/
def Turns (J : It) (g : TG) (tt : TT) (te : TE) (vs : List Nat) (σ : L2.St) (cy : Cy) (Qe : List V → Hp → Prop) (W : Nat → Nat → List V → Hp → Prop) : Prop :=
  ∀ i m ys H, W i m ys H → (J.stop i H ∧ Qe ys H) ∨ (J.go i H ∧ 0 < m ∧ ∃ Nx : List V → Hp → Prop, (∀ ys' H', Nx ys' H' → ∃ m', m' < m ∧ W (i + 1) m' ys' H') ∧
    ∀ x H', J.yld i H x H' → g x (wipe σ vs) H' fun σ2 H2 => wipe σ2 vs = wipe σ vs ∧ tt σ2 H2 fun b H3 => if b = true then te σ2 H3 fun y H4 => cy ys y H4 Nx else Nx ys H3)
/-- the iterator's and the consumer's objects in the generator's frame -/
structure GPlace (Y : Cx) (gp : List (Addr × Obj)) (fp cw : List Addr) : Prop where
  fx : ∀ b ∈ fp, b ∈ Y.ex ∧ b ≠ Y.env.locals ∧ b ∉ Y.fs ∧ (∀ x c, Y.env.cells.lookup x = some c → c ≠ b) ∧ (∀ p ∈ Y.pn ++ gp, p.1 ≠ b) ∧ b ∉ cw
  cx : ∀ b ∈ cw, Y.s_0.heap.objs.size ≤ b ∧ b ≠ Y.env.locals ∧ b ∉ Y.fs ∧ (∀ x c, Y.env.cells.lookup x = some c → c ≠ b) ∧ ∀ p ∈ Y.pn ++ gp, p.1 ≠ b
theorem GPlace.fpOk {Y : Cx} {gp : List (Addr × Obj)} {fp cw : List Addr} (G : GPlace Y gp fp cw) {s₀ : Shared} {H : Hp} (n : ∀ b ∈ fp, H b = none) : ∀ b ∈ fp, FpOk Y (gp ++ pinsAt cw s₀.heap) H b := fun b hb => by
  obtain ⟨h1, h2, h3, h4, h5, h6⟩ := G.fx b hb
  refine ⟨n b hb, h2, h3, .inl h1, h4, fun p hp => ?_⟩
  rw [← List.append_assoc] at hp
  rcases List.mem_append.mp hp with hp | hp
  · exact h5 p hp
  · intro z
    have h7 := (of_pinsAt hp).1
    rw [z] at h7
    exact h6 h7
/-- the consumer's objects are pinned as they stand -/
theorem GPlace.pin {Y : Cx} {gp : List (Addr × Obj)} {fp cw : List Addr} (G : GPlace Y gp fp cw) {σ : L2.St} {H : Hp} {s : Shared} (I : Inv Y gp σ H s) (n : ∀ b ∈ cw, H b = none) (t : ∀ b ∈ cw, ∃ o, s.heap.get? b = some o ∧ ∀ v, o.data ≠ .cell v) :
    Inv Y (gp ++ pinsAt cw s.heap) σ H s :=
  I.pinned (fun b hb => let ⟨h1, h2, h3, h4, h5⟩ := G.cx b hb; ⟨n b hb, h2, h3, .inr h1, h4, h5⟩) t
theorem kept_of {Y : Cx} {gp pl : List (Addr × Obj)} {cw : List Addr} {σ : L2.St} {H : Hp} {s₀ s : Shared} (I : Inv Y ((gp ++ pinsAt cw s₀.heap) ++ pl) σ H s) : KeptAt cw s₀ s := fun b hb o e =>
  (I.pin (b, o) (List.mem_append_right _ (List.mem_append_left _ (List.mem_append_right _ (mem_pinsAt hb e))))).1
/-- asleep: only cw is written -/
theorem GPlace.doz {Y : Cx} {gp : List (Addr × Obj)} {fp cw : List Addr} (G : GPlace Y gp fp cw) {σ : L2.St} {H : Hp} {s s' : Shared} (I : Inv Y gp σ H s) (n : ∀ b ∈ cw, H b = none) (z : Doz cw s s') : Inv Y gp σ H s' := by
  obtain ⟨z1, z2, z3, _⟩ := z
  have nt : ∀ b u, H b = some u → b ∉ cw := fun b u q hb => by
    rw [n b hb] at q
    cases q
  obtain ⟨hh, g, d, t, o⟩ := s'
  have ho : o = s.os := z1
  subst ho
  refine I.step (g' := g) (t' := t) (d' := d) (ch := cw) (fun b hb => ?_) (fun b ob _ _ hc q _ => z3 b ob hc q) (fun b ob _ _ hc q _ => ⟨ob.slots, z3 b ob hc q⟩) (fun _ _ _ _ k => k) (fun b ob hc q => ⟨ob, z3 b ob hc q⟩) (fun _ _ q => q) (fun _ _ _ q => q)
    (fun b ps q => ⟨#[], by rw [q]; simp⟩) (fun m hm => ?_) (fun b u q => ?_) z2
  · obtain ⟨h1, h2, h3, h4, h5⟩ := G.cx b hb
    exact ⟨.inr h1, h2, h4, h5⟩
  · obtain ⟨ob, es, ep, ho, r⟩ := hm
    exact ⟨ob, es, ep, z3 _ ob (fun hb => (G.cx _ hb).2.1 rfl) ho, r⟩
  · refine (I.hok b u q).stay (fun c v hc y => z3 c v ?_ y) (fun _ y => y) fun _ _ y => y
    rcases hc with y | y
    · rw [y]
      exact nt b u q
    · exact nt c _ y
section
variable {Y : Cx} {Aw : Around} {elt tg iter : Expr} {ifs : List Expr} {scope : Scope} {pos : Pos} {it : Addr} {fp cw : List Addr} {gp : List (Addr × Obj)} {tn : Nat → Heap → Prop} {J : It} {g : TG} {tt : TT} {te : TE} {vs : List Nat} {σ : L2.St} {cy : Cy} {Qe : List V → Hp → Prop} {Lk : List V → Heap → Prop}
  {W : Nat → Nat → List V → Hp → Prop}
abbrev gxE (elt tg iter : Expr) (ifs : List Expr) (scope : Scope) (pos : Pos) : Expr := .GeneratorExp elt [⟨tg, iter, ifs, 0⟩] scope pos
theorem gx_loop (hA : Aw.over (.compLoop (gxE elt tg iter ifs scope pos) 0 (.ref it) .none Y.env) [] = Y.A) (hx : Y.xe = fun _ _ => False) (hco : Y.env.scope.isCoroutine = false) (hc : Y.calm = true)
    (T : Turn Y.prog Y.w Y.K tg J fp it tn) (pg : PG Y tg g) (pt : PTs Y ifs tt) (pe : PE Y elt te) (G : GPlace Y gp fp cw) (hLk : Lnk cw Lk) (hW : Turns J g tt te vs σ cy Qe W) :
    ∀ (m n i : Nat) (ys : List V) (s₀ s : Shared) (H : Hp), m ≤ n → Inv Y (gp ++ pinsAt cw s₀.heap) (wipe σ vs) H s → (∀ b ∈ cw, ∃ o, s₀.heap.get? b = some o) → Lk ys s₀.heap → tn i s.heap → (∀ b ∈ fp, H b = none) → W i m ys H →
      Seg (model Y.prog Y.w) Aw (GFin Y gp cw Lk Qe) (GYld Y gp cw Lk cy) n s₀ (.compLoop (gxE elt tg iter ifs scope pos) 0 (.ref it) .none Y.env) ((model Y.prog Y.w).den (.compLoop (gxE elt tg iter ifs scope pos) 0 (.ref it) .none Y.env)) [] s := by
  have cwn : ∀ {s₀ s : Shared} {pl : List (Addr × Obj)} {σ' : L2.St} {H : Hp}, (∀ b ∈ cw, ∃ o, s₀.heap.get? b = some o) → Inv Y ((gp ++ pinsAt cw s₀.heap) ++ pl) σ' H s → ∀ b ∈ cw, H b = none := fun {s₀ s pl σ' H} h I b hb => by
    obtain ⟨o, e⟩ := h b hb
    exact (I.pin (b, o) (List.mem_append_right _ (List.mem_append_left _ (List.mem_append_right _ (mem_pinsAt hb e))))).2.1
  have nil : ∀ {l : List (Addr × Obj)} {σ' : L2.St} {H : Hp} {s : Shared}, Inv Y l σ' H s → Inv Y (l ++ []) σ' H s := fun {l σ' H s} I => by
    rw [List.append_nil]
    exact I
  intro m
  induction m using Nat.strongRecOn with
  | ind m ih =>
    intro n i ys s₀ s H hmn I hcw lk st nf w
    have fk := G.fpOk (s₀ := s₀) nf
    show Seg _ _ _ _ _ _ _ ((compTurn (gxE elt tg iter ifs scope pos) 0 (.ref it) .none Y.env).onRaise (leaving Y.env)) [] s
    rw [compTurn_gen elt tg iter ifs scope pos, Sem.onRaise_eq_wrap]
    refine seg_bind_wrap (wpAny_standAt (seg_bind_wrap ?_))
    rw [hA]
    rcases hW i m ys H w with ⟨stop, q⟩ | ⟨go, m0, Nx, hNx, step⟩
    · refine thnF (T.done Y rfl rfl rfl hc i _ s _ H _ I fk st stop) fun r s6 ⟨hr, I6⟩ => ?_
      subst hr
      exact seg_end (.ok .next) ⟨rfl, ys, _, H, I6.unpinned, kept_of (nil I6), cwn hcw (nil I6), hLk.st _ _ _ lk (kept_of (nil I6)), q⟩
    · refine thnF (T.item Y rfl rfl rfl hc i _ s _ H _ I fk st go) fun r s6 ⟨u, hr, h6⟩ => ?_
      subst hr
      refine seg_bind_wrap ?_
      rw [hA]
      refine thnF h6 fun _ s7 ⟨x, H7, I7, r7, y7, st7, n7⟩ => ?_
      have I7' := I7.pinned (G.fpOk n7) (T.obj _ _ st7)
      have kfp : ∀ {s' : Shared} {σ' : L2.St} {H' : Hp}, Inv Y ((gp ++ pinsAt cw s₀.heap) ++ pinsAt fp s7.heap) σ' H' s' → ∀ b ∈ fp, (∀ o, s7.heap.get? b = some o → s'.heap.get? b = some o) ∧ H' b = none := fun {s' σ' H'} I' b hb => by
        obtain ⟨o, e, _⟩ := T.obj _ _ st7 b hb
        obtain ⟨z1, z2, _⟩ := I'.pin (b, o) (List.mem_append_right _ (List.mem_append_right _ (mem_pinsAt hb e)))
        refine ⟨fun o' e' => ?_, z2⟩
        rw [e] at e'
        cases e'
        exact z1
      have exF : ∀ {e : Value} {s' : Shared} {Z : Prop}, Y.xe e s' → Z := fun {e s' Z} h => by
        rw [hx] at h
        exact False.elim h
      refine seg_bind_wrap ?_
      rw [hA]
      refine wpAny_mono (pg.run _ s7 _ H7 x u _ I7' r7 (step x H7 y7)) (fun _ s8 ⟨σ8, H8, I8, hw8, q8⟩ => ?_) fun _ _ h => exF h
      refine seg_bind_wrap ?_
      rw [hA]
      refine wpAny_mono (pt.run _ s8 σ8 H8 _ I8 q8) (fun b s9 ⟨H9, I9, q9⟩ => ?_) fun _ _ h => exF h
      have hl : (wipe σ vs).length = σ8.length := by rw [← hw8, wipe_length]
      have weak : ∀ {l : List (Addr × Obj)} {H' : Hp} {s' : Shared}, Inv Y l σ8 H' s' → Inv Y l (wipe σ vs) H' s' := fun {l H' s'} I' => I'.weak hl fun j v e => by
        rw [← hw8] at e
        exact (wipe_some e).1
      cases b with
      | false =>
        rw [if_neg Bool.false_ne_true] at q9
        obtain ⟨m', hm, w'⟩ := hNx _ _ q9
        simp only [Bool.false_eq_true, if_false]
        exact seg_again rfl (ih m' hm n (i + 1) ys s₀ s9 H9 (by omega) (weak I9.unpinned) hcw lk (T.keep _ _ _ st7 fun b hb => (kfp I9 b hb).1) (fun b hb => (kfp I9 b hb).2) w')
      | true =>
        rw [if_pos rfl] at q9
        simp only [if_true]
        have hy : ∀ v, yieldOut Y.env v = yieldValue v := fun v => by
          unfold yieldOut
          rw [hco]
          rfl
        simp only [hy]
        rw [Sem.bind_eq_wrap', Sem.bind_eq_wrap', Sem.wrap_wrap, Sem.wrap_wrap]
        refine seg_wrap ?_
        rw [hA]
        refine wpAny_mono (pe.run _ s9 σ8 H9 _ I9 q9) (fun v s10 ⟨y, H10, I10, r10, q10⟩ => ?_) fun _ _ h => exF h
        obtain ⟨n', rfl⟩ : ∃ n', n = n' + 1 := ⟨n - 1, by omega⟩
        have Ig : Inv Y gp σ8 H10 s10 := I10.pins_of fun p hp => I10.pin p (List.mem_append_right _ (List.mem_append_left _ (List.mem_append_left _ hp)))
        refine seg_at (seg_yield rfl rfl rfl ⟨ys, y, σ8, H10, Nx, Ig, r10, kept_of I10, cwn hcw I10, hLk.st _ _ _ lk (kept_of I10), q10, fun ys' hys s' hz lk' => ?_⟩)
        obtain ⟨m', hm, w'⟩ := hNx ys' H10 hys
        have nc := cwn hcw I10
        have Iz := G.doz Ig nc hz
        refine seg_again rfl (ih m' hm n' (i + 1) ys' s' s' H10 (by omega) (weak (G.pin Iz nc hz.there)) (fun b hb => let ⟨o, e, _⟩ := hz.there b hb; ⟨o, e⟩) lk' (T.keep _ _ _ st7 fun b hb o e => ?_) (fun b hb => (kfp I10 b hb).2) w')
        exact hz.keep b o (G.fx b hb).2.2.2.2.2 ((kfp I10 b hb).1 o e)
end
section
variable {Y : Cx} {Aw : Around} {elt tg iter : Expr} {ifs : List Expr} {scope : Scope} {pos : Pos} {it : Addr} {fp cw : List Addr} {gp : List (Addr × Obj)} {tn : Nat → Heap → Prop} {J : It} {g : TG} {tt : TT} {te : TE} {vs : List Nat} {σ : L2.St} {cy : Cy} {Qe : List V → Hp → Prop} {Lk : List V → Heap → Prop}
  {W : Nat → Nat → List V → Hp → Prop}
theorem gx_first (hA : Aw.over (.compLoop (gxE elt tg iter ifs scope pos) 0 (.ref it) .none Y.env) [] = Y.A) (hx : Y.xe = fun _ _ => False) (hco : Y.env.scope.isCoroutine = false) (hc : Y.calm = true)
    (T : Turn Y.prog Y.w Y.K tg J fp it tn) (pg : PG Y tg g) (pt : PTs Y ifs tt) (pe : PE Y elt te) (G : GPlace Y gp fp cw) (hLk : Lnk cw Lk) (hW : Turns J g tt te vs σ cy Qe W)
    {m : Nat} {s : Shared} {H : Hp} (I : Inv Y gp (wipe σ vs) H s) (nc : ∀ b ∈ cw, H b = none) (hcw : ∀ b ∈ cw, ∃ o, s.heap.get? b = some o ∧ ∀ v, o.data ≠ .cell v) (lk : Lk [] s.heap) (st : tn 0 s.heap) (nf : ∀ b ∈ fp, H b = none) (w : W 0 m [] H) :
    Seg (model Y.prog Y.w) Aw (GFin Y gp cw Lk Qe) (GYld Y gp cw Lk cy) m s (.compStart (gxE elt tg iter ifs scope pos) 0 (.ref it) .none Y.env) ((model Y.prog Y.w).den (.compStart (gxE elt tg iter ifs scope pos) 0 (.ref it) .none Y.env)) [] s := by
  have go := gx_loop (pos := pos) hA hx hco hc T pg pt pe G hLk hW m m 0 [] s s H (Nat.le_refl _) (G.pin I nc hcw) (fun b hb => let ⟨o, e, _⟩ := hcw b hb; ⟨o, e⟩) lk st nf w
  show Seg _ _ _ _ _ _ _ ((compStart (gxE elt tg iter ifs scope pos) 0 (.ref it) .none Y.env).onRaise (leaving Y.env)) [] s
  unfold compStart
  rw [Sem.onRaise_eq_wrap]
  show Seg _ _ _ _ _ _ _ ((ask >>= _).wrap _ _ _ _) [] s
  refine seg_bind_wrap (wpAny_askSetting ?_)
  split
  · exact seg_again rfl go
  · have last := T.self (Aw.over (.compStart (gxE elt tg iter ifs scope pos) 0 (.ref it) .none Y.env) []) 0 s
    first
      | exact seg_bind_wrap (wpAny_rule (seg_bind_wrap (wpAny_standAt (seg_bind_wrap (last _ _ st (seg_again rfl go))))))
      | (refine seg_bind_wrap (wpAny_rule ?_); show Seg _ _ _ _ _ _ _ ((standAt iter.pos >>= _).wrap _ _ _ _) [] s; exact seg_bind_wrap (wpAny_standAt (seg_bind_wrap (last _ _ st (seg_again rfl go)))))
end
/-- a generator that was made in X's code: what stood then, its frame's objects, its own object -/
structure GMk (X : Cx) (pins : List (Addr × Obj)) (σ : L2.St) (sg : Shared) (Hg : Hp) (fp : List Addr) (a g : Addr) (go : Obj) : Prop where
  inv : Inv X pins σ Hg sg
  fx : ∀ b ∈ fp, FpOk X pins Hg b
  isGen : ∀ h : Heap, h.get? a = some go → h.IsGen a g
/-- it sleeps; ys is out, at most n more come -/
structure GRun (Y : Cx) (cw : List Addr) (Lk : List V → Heap → Prop) (cy : Cy) (Qe : List V → Hp → Prop) (a g : Addr) (go : Obj) (Aw : Around) (n : Nat) (ys : List V) (s : Shared) : Prop where
  here : s.heap.get? a = some go
  lim : s.heap.NoLimit
  run : ∃ gs, s.gens[g]? = some gs ∧ ∀ s', Doz cw s s' → Lk ys s'.heap → gs.Goes (model Y.prog Y.w) Aw (GFin Y [(a, go)] cw Lk Qe) (GYld Y [(a, go)] cw Lk cy) n (.send .none) s'
theorem Doz.turn {cw : List Addr} {s s' s'' : Shared} (x : Doz cw s s') (y : Doz cw s' s'') : Doz cw s s'' :=
  ⟨y.os.trans x.os, y.bare, fun b o hb e => y.keep b o hb (x.keep b o hb e), y.there⟩
theorem GRun.doz {Y : Cx} {cw : List Addr} {Lk : List V → Heap → Prop} {cy : Cy} {Qe : List V → Hp → Prop} {a g : Addr} {go : Obj} {Aw : Around} {n : Nat} {ys : List V} {s s' : Shared} (R : GRun Y cw Lk cy Qe a g go Aw n ys s) (z : Doz cw s s') (ha : a ∉ cw) (hs : cStatics ∉ cw) (hg : s'.gens = s.gens) :
    GRun Y cw Lk cy Qe a g go Aw n ys s' := by
  obtain ⟨h1, ⟨mc, hn, hnn⟩, gs, h3, h4⟩ := R
  exact ⟨z.keep _ _ ha h1, ⟨mc, hn.at' fun o e => z.keep _ o hs e, hnn⟩, gs, by rw [hg]; exact h3, fun s2 y lk => h4 s2 (z.turn y) lk⟩
section
variable {X : Cx} {pins : List (Addr × Obj)} {σ : L2.St} {sg : Shared} {Hg : Hp} {fp cw : List Addr} {a g : Addr} {go : Obj} {A A1 : Around} {ce : Env} {cy : Cy} {Qe : List V → Hp → Prop} {Lk : List V → Heap → Prop} {s : Shared} {E : Value → Shared → Prop}
/-- back in the consumer's frame -/
theorem GMk.back (M : GMk X pins σ sg Hg fp a g go) {σ' : L2.St} {H : Hp} {s1 s' : Shared} (I : Inv (gcx X A1 sg Hg ce fp) [(a, go)] σ' H s1) (ho : s'.os = s1.os) (kp : ∀ b o, s1.heap.get? b = some o → s'.heap.get? b = some o) (hb : AllBare s'.gens) : Inv X pins σ H s' :=
  M.inv.call' (ch := fp) (ho.trans I.os) (I.base.trans (Un.kept kp)) (I.hok.kept kp) hb fun b hb => ⟨(M.fx b hb).2.2.2.1, (M.fx b hb).2.1, (M.fx b hb).2.2.2.2.1, (M.fx b hb).2.2.2.2.2⟩
/-- what next(generator) gives -/
def GNext (X : Cx) (pins : List (Addr × Obj)) (σ : L2.St) (Y : Cx) (cw : List Addr) (Lk : List V → Heap → Prop) (cy : Cy) (Qe : List V → Hp → Prop) (a g : Addr) (go : Obj) (A : Around) (n : Nat) (s : Shared) (r : Option Value) (s' : Shared) : Prop :=
  KeptAt cw s s' ∧ match r with
  | none => ∃ ys H, Inv X pins σ H s' ∧ (∀ b ∈ cw, H b = none) ∧ Lk ys s'.heap ∧ Qe ys H
  | some v => ∃ ys y H Nx, Inv X pins σ H s' ∧ RelV y v ∧ (∀ b ∈ cw, H b = none) ∧ Lk ys s'.heap ∧ cy ys y H Nx ∧ ∀ ys', Nx ys' H → ∀ s2, Doz cw s' s2 → Lk ys' s2.heap → s2.gens = s'.gens → ∃ n', n = n' + 1 ∧ GRun Y cw Lk cy Qe a g go A n' ys' s2
theorem gx_next (M : GMk X pins σ sg Hg fp a g go) (hLk : Lnk cw Lk) (ha : a ∉ cw) (hs : cStatics ∉ cw) {n : Nat} {ys : List V} (hh : A.handled = none) (hd : A.depth < recursionLimit) (R : GRun (gcx X A1 sg Hg ce fp) cw Lk cy Qe a g go A.in1 n ys s) (hb : AllBare s.gens) (hcw : ∀ b ∈ cw, ∃ o, s.heap.get? b = some o ∧ ∀ v, o.data ≠ .cell v)
    (lk : Lk ys s.heap) : wpAny (model X.prog X.w) A (pyNext (.ref a)) (GNext X pins σ (gcx X A1 sg Hg ce fp) cw Lk cy Qe a g go A.in1 n s) E s := by
  obtain ⟨h1, h2, gs, h3, h4⟩ := R
  have hgl : g < s.gens.size := (Array.getElem?_eq_some_iff.mp h3).1
  have z0 : Doz cw s (s.setGen g .running) := ⟨rfl, allBare_setGen hb rfl, fun _ _ _ e => e, hcw⟩
  refine GenW.wpAny_gsz (n := g + 1) hgl ?_
  refine wpAny_pyNext_genexpQ (P := fun _ s₀ s1 => ∃ (ys : List V) (σ' : L2.St) (H : Hp), Inv (gcx X A1 sg Hg ce fp) [(a, go)] σ' H s1 ∧ KeptAt cw s₀ s1 ∧ (∀ b ∈ cw, H b = none) ∧ Lk ys s1.heap ∧ Qe ys H)
    hh h2 hd (M.isGen _ h1) h3 (h4 _ z0 lk) (fun v s1 gs' hbare hv => ?_) fun s1 hp h' hk => ?_
  · obtain ⟨ys1, y, σ', H, Nx, I, r, kc, nc, lk1, q, wake⟩ := hv
    intro hsz
    have hsz1 : g < s1.gens.size := by
      rw [GenW.setGen_size] at hsz
      exact hsz
    refine ⟨kc, ys1, y, H, Nx, M.back I rfl (fun _ _ e => e) (allBare_setGen I.bare hbare), r, nc, lk1, q, fun ys' hN s2 z lk2 hgs => ?_⟩
    have w2 := wake ys' hN s2 ⟨z.os, z.bare, z.keep, z.there⟩ lk2
    cases n with
    | zero => exact w2.elim
    | succ n' =>
      have R1 : GRun (gcx X A1 sg Hg ce fp) cw Lk cy Qe a g go A.in1 n' ys' (s1.setGen g gs') :=
        ⟨(I.pin (a, go) (List.mem_append_right _ (List.mem_singleton.mpr rfl))).1, I.nolimit, gs', setGen_at hsz1, fun s2 z lk2 => wake ys' hN s2 ⟨z.os, z.bare, z.keep, z.there⟩ lk2⟩
      exact ⟨n', rfl, R1.doz z ha hs hgs⟩
  · obtain ⟨ys1, σ', H, I, kc, nc, lk1, q⟩ := hp
    intro _
    refine ⟨fun b hb o e => hk _ _ (kc b hb o e), ys1, H, M.back I rfl hk (allBare_setGen I.bare rfl), nc, hLk.st _ _ _ lk1 fun b _ o e => hk b o e, q⟩
end
theorem over_gx {A : Around} {elt tg iter : Expr} {ifs : List Expr} {scope : Scope} {pos : Pos} {it : Addr} {ce : Env} : A.over (.compLoop (gxE elt tg iter ifs scope pos) 0 (.ref it) .none ce) [] = A.deeper ce := by
  first
    | rfl
    | (obtain ⟨hd, d, fr, gs, u⟩ := A; simp [Around.over, Around.deeper, marksOver, frameCount, unitsOf, envsOf, guardsOf, pushEnvs, pushGuards, Code.envs, Code.env?, Code.isFrame, Code.guards, Code.isGuard, Code.weight, Code.frames, Code.isCreation, Code.isCaller, Code.cUnits])
/-- the generator has been made and has not begun; at most m items come -/
structure GReady (X : Cx) (pins : List (Addr × Obj)) (σ : L2.St) (m : Nat) (cy : Cy) (Qe : List V → Hp → Prop) (a : Addr) (s : Shared) : Prop where
  ex : ∃ (g : Addr) (go : Obj) (sg : Shared) (Hg : Hp) (fp : List Addr) (ce : Env), GMk X pins σ sg Hg fp a g go ∧ Inv X pins σ Hg s ∧ s.heap.get? a = some go ∧ s.heap.NoLimit ∧
    ∀ (cw : List Addr) (Lk : List V → Heap → Prop) (A : Around) (s2 : Shared), Lnk cw Lk → A.handled = none → A.frames = some X.stack → A.depth ≤ X.A.depth + 1 → A.units ≤ X.A.units + 8 → (∀ b ∈ cw, s.heap.objs.size ≤ b) →
      (∀ b o, s.heap.get? b = some o → s2.heap.get? b = some o) → (∀ b ∈ cw, ∃ o, s2.heap.get? b = some o ∧ ∀ v, o.data ≠ .cell v) → s2.os = s.os → s2.gens = s.gens → Lk [] s2.heap →
      GRun (gcx X (A.deeper ce) sg Hg ce fp) cw Lk cy Qe a g go A m [] s2
section
variable {X : Cx} {pins : List (Addr × Obj)} {σ : L2.St} {H : Hp} {s : Shared} {c P : Addr} {elt iter tg : Expr} {ifs : List Expr} {scope : Scope} {gpos : Pos} {own : List (Str × Nat)} {wi : TI} {g : TG} {tt : TT} {te : TE} {k : Nat} {cy : Cy} {Qe : List V → Hp → Prop}
theorem gx_make (hr : Room (k + 1) X.A) (TB : LamX.TabB X.base X.mg c P) (hcode : X.env.code = .ref c) (hco : scope.isCoroutine = false) (ok : BlkOk X.N X.env.scope scope own) (hN : X.N.Nodup) (nocell : ∀ y ∈ scope.names, y.2 ≠ .cell)
    (h0 : scope.names.lookup (".0" : Str) = some NameKind.local) (hi : PI X tg iter wi)
    (pg : ∀ (A : Around) (s : Shared) (H : Hp) (C : Addr) (cl : List (Str × Addr)) (code : Value) (bi : Addr) (fp : List Addr), Room k A → PG (gcx X A s H (genEnv scope cl C code bi X.env) fp) tg g)
    (pt : ∀ (A : Around) (s : Shared) (H : Hp) (C : Addr) (cl : List (Str × Addr)) (code : Value) (bi : Addr) (fp : List Addr), Room k A → PTs (gcx X A s H (genEnv scope cl C code bi X.env) fp) ifs tt)
    (pe : ∀ (A : Around) (s : Shared) (H : Hp) (C : Addr) (cl : List (Str × Addr)) (code : Value) (bi : Addr) (fp : List Addr), Room k A → PE (gcx X A s H (genEnv scope cl C code bi X.env) fp) elt te)
    (hs : ∀ v, genFold iter X.env v = pure v) (I : Inv X pins σ H s)
    (h : wi σ H fun J H1 => GxR.TabG H1 P ∧ ∀ H2, GxR.Tabbed P H1 H2 → ∃ W m, W 0 m [] H2 ∧ Turns J g tt te (own.map (·.2)) σ cy Qe W) :
    wpAny (model X.prog X.w) X.A (eval (gxE elt tg iter ifs scope gpos) X.env) (fun u s' => ∃ a m, u = .ref a ∧ GReady X pins σ m cy Qe a s') X.xe s := by
  have hfree : ∀ y ∈ scope.names, y.2 = .free → ∃ c, X.env.cells.lookup y.1 = some c := fun y hy e => (ok.free y hy e).elim (fun z => I.ok.has _ (.inl z)) (fun z => I.ok.has _ (.inr z))
  refine wpAny_GeneratorExp_make hco (closure_ok hfree) nocell h0 ok.kind (by have := hr.dp; omega) ?_ hs
  refine thn (hi.run pins s σ H _ I h) fun xv s1 hx => thn hx fun itv s2 h2 => ?_
  obtain ⟨it, fp, tn, J, H2, rfl, I2, T, st2, f2, ⟨ps, hP, ht⟩, q⟩ := h2
  refine ⟨I2.nolimit, ?_⟩
  have hPs : s2.heap.get? P = some { cls := .none, data := .fields ps } := I2.hok P _ hP
  have cd : PySem.W.CodeHd s2.heap c P := TB.code.keeps fun b u e => I2.bk b u e
  have sz : ∀ b ∈ fp, b < s2.heap.objs.size := fun b hb => by
    obtain ⟨o, e, _⟩ := T.obj _ _ st2 b hb
    exact Heap.lt_size e
  have nP : ∀ b ∈ fp, b ≠ P := fun b hb z => by
    have := (f2 b hb).1
    rw [z, hP] at this
    cases this
  have cont : ∀ (code : Value) (h3 : Heap) (tk : Nat) (more : Array Value), Heap.ExtBut P s2.heap h3 → s2.heap.objs.size ≤ h3.objs.size → h3.get? P = some { cls := .none, data := .fields (ps ++ more) } → TriplesOk (ps ++ more).toList →
      wpAny (model X.prog X.w) X.A (builtinsFor X.env.globals X.env.builtins) (fun bi s4 => ∀ h', h'.Ns s4.heap.objs.size (fun y => if y = ".0" then some (.ref it) else none) → Heap.SameBut s4.heap.objs.size (s4.heap.push { cls := .type "frame", data := .dict #[] }) h' →
        ∃ a m, Value.ref h'.objs.size = .ref a ∧ GReady X pins σ m cy Qe a { s4 with
            gens := s4.gens.push (.fresh (.compStart (gxE elt tg iter ifs scope gpos) 0 (.ref it) .none (genEnv scope (cloFrom X.env.cells scope.names []) s4.heap.objs.size code bi X.env))),
            toks := s4.toks + 1 + 1 + 1,
            heap := h'.push { cls := .type "generator", data := .fields #[.int s4.gens.size 0, .str "<genexpr>" (s4.toks + 1), .str (X.env.qual ++ "<genexpr>") (s4.toks + 1 + 1)] } }) X.xe { s2 with heap := h3, toks := tk } := by
    intro code h3 tk more hx3 hsz hP3 ht3
    have kp3 : ∀ b o, b ≠ P → s2.heap.get? b = some o → h3.get? b = some o := fun b o hb e => hx3 b o hb e
    have I3 : Inv X pins σ (upd H2 P (.tbl (ps ++ more))) { s2 with heap := h3, toks := tk } := GxR.inv_tab (g' := s2.gens) (d' := s2.drawn) (t' := tk) I2 hP kp3 hP3 I2.bare
    obtain ⟨W, m, w0, hW⟩ := q (upd H2 P (.tbl (ps ++ more))) ⟨⟨_, upd_same, ht3⟩, fun b hb => upd_ne hb⟩
    have f3 : ∀ b ∈ fp, FpOk X pins (upd H2 P (.tbl (ps ++ more))) b := fun b hb => ⟨by rw [upd_ne (nP b hb)]; exact (f2 b hb).1, (f2 b hb).2⟩
    have st3 : tn 0 h3 := T.keep _ _ _ st2 fun b hb o e => kp3 b o (nP b hb) e
    have sz3 : ∀ b ∈ fp, b < h3.objs.size := fun b hb => Nat.lt_of_lt_of_le (sz b hb) hsz
    obtain ⟨bm, ob, e1, e2, e3, e4, e5, e6, e7, e8⟩ := TB.bm
    refine wpAny_builtinsFor (m := X.mg) (by rw [I3.ok.glob]; exact I3.mod.glob.keeps I3.bk) e1 e2 (I3.bk _ _ e5) e6 e7 e8 ?_
    generalize upd H2 P (.tbl (ps ++ more)) = H3 at I3 w0 f3 hW
    generalize hs3 : ({ s2 with heap := h3, toks := tk } : Shared) = s3 at I3 ⊢
    have e3h : s3.heap = h3 := by rw [← hs3]
    rw [← e3h] at st3 sz3
    intro h' hn' hb'
    have hsz' : h'.objs.size = s3.heap.objs.size + 1 := by rw [hb'.1, Heap.size_push]
    have kp' : ∀ b o, s3.heap.get? b = some o → h'.get? b = some o := fun b o e => hb'.extBut b o (Nat.ne_of_lt (Heap.lt_size e)) (Heap.get?_push_of_some _ e)
    refine ⟨_, m, rfl, ?_⟩
    generalize hgo : ({ cls := .type "generator", data := .fields #[.int s3.gens.size 0, .str "<genexpr>" (s3.toks + 1), .str (X.env.qual ++ "<genexpr>") (s3.toks + 1 + 1)] } : Obj) = go
    have isg : ∀ h : Heap, h.get? h'.objs.size = some go → h.IsGen h'.objs.size s3.gens.size := fun h e => ⟨go, _, _, e, by rw [← hgo], by rw [← hgo], by rw [← hgo]⟩
    have gnc : ∀ v, go.data ≠ .cell v := fun v z => by
      rw [← hgo] at z
      cases z
    have nf : go.data ≠ .freed := fun z => by
      rw [← hgo] at z
      cases z
    have hat : (h'.push go).get? h'.objs.size = some go := by
      rw [← hgo]
      exact Heap.get?_push_size _ rfl
    generalize hce : genEnv scope (cloFrom X.env.cells scope.names []) s3.heap.objs.size code builtinsNs X.env = ce
    have ce1 : ce.scope = scope := by rw [← hce]; rfl
    have ce2 : ce.locals = s3.heap.objs.size := by rw [← hce]; rfl
    have ce3 : ce.globals = mainGlobals := by rw [← hce]; exact I3.ok.glob
    have ce4 : ce.builtins = builtinsNs := by rw [← hce]; rfl
    have ce5 : ce.cells = cloFrom X.env.cells scope.names [] := by rw [← hce]; rfl
    have ce6 : ce.frame = some ce.locals := by rw [← hce]; rfl
    generalize hs5 : ({ s3 with gens := s3.gens.push (.fresh (.compStart (gxE elt tg iter ifs scope gpos) 0 (.ref it) .none ce)), toks := s3.toks + 1 + 1 + 1, heap := h'.push go } : Shared) = s5
    have h5 : s5.heap = h'.push go := by rw [← hs5]
    have g5 : s5.gens = s3.gens.push (.fresh (.compStart (gxE elt tg iter ifs scope gpos) 0 (.ref it) .none ce)) := by rw [← hs5]
    have o5 : s5.os = s3.os := by rw [← hs5]
    have kp5 : ∀ b o, s3.heap.get? b = some o → s5.heap.get? b = some o := fun b o e => by rw [h5]; exact Heap.get?_push_of_some _ (kp' b o e)
    have b5 : AllBare s5.gens := by rw [g5]; exact I3.bare.push rfl
    have M : GMk X pins σ s3 H3 fp h'.objs.size s3.gens.size go := ⟨I3, f3, isg⟩
    have lim5 : s5.heap.NoLimit := I3.nolimit.keeps kp5
    have I5 : Inv X pins σ H3 s5 := I3.call' (ch := []) o5 (Un.kept kp5) (I3.hok.kept kp5) b5 fun b z => by simp at z
    have at5 : s5.heap.get? h'.objs.size = some go := by rw [h5]; exact hat
    have sz5 : s5.heap.objs.size = s3.heap.objs.size + 2 := by rw [h5, Heap.size_push, hsz']
    refine ⟨⟨s3.gens.size, go, s3, H3, fp, ce, M, I5, at5, lim5, fun cw Lk A s6 hLk hh hfr hdp hun hcw kp6 tc os6 gs6 lk => ?_⟩⟩
    have kp36 : ∀ b o, s3.heap.get? b = some o → s6.heap.get? b = some o := fun b o e => kp6 b o (kp5 b o e)
    have hrA : Room k (A.deeper ce) := by
      refine ⟨hh, ?_, ?_⟩
      · have := hr.dp
        show A.depth + 1 + 3 * k + 5 < _
        omega
      · have := hr.un
        show A.units + 3 + 16 * k + 200 < _
        omega
    have nsC : s6.heap.Ns ce.locals (fun y => if y = ".0" then some (.ref it) else none) := by
      rw [ce2]
      exact (hn'.push go).keeps fun b o e => kp6 b o (by rw [h5]; exact e)
    have b6 : AllBare s6.gens := by rw [gs6]; exact b5
    have I6 : Inv (gcx X (A.deeper ce) s3 H3 ce fp) [] (wipe σ (own.map (·.2))) H3 s6 :=
      gcx_start I3 ok hN nocell (fun b hb => ⟨f3 b hb, sz3 b hb⟩) ce1 ce2 ce3 ce4 ce5 ce6 (Around.frames_deeper hfr) hh kp36 nsC (os6.trans o5) b6
    have young : ∀ b, s3.heap.objs.size < b → H3 b = none ∧ b ≠ ce.locals ∧ b ∉ frs X.stack ∧ (∀ x c, ce.cells.lookup x = some c → c ≠ b) := fun b hb => by
      refine ⟨I3.hok.fresh (Nat.le_of_lt hb), by rw [ce2]; exact Nat.ne_of_gt hb, fun z => ?_, fun x d e z => ?_⟩
      · rcases List.mem_cons.mp (I3.stkSub b z) with z | z
        · exact absurd (Nat.lt_trans (by rw [z]; exact I3.lt) hb) (Nat.lt_irrefl _)
        · exact I3.nofs (Nat.le_of_lt hb) z
      · obtain ⟨v, zc⟩ := I6.cell x d e
        rw [ce5] at e
        obtain ⟨u, zd⟩ := I3.cell x d (clo_look hfree e).1
        have := zd.lt
        rw [z] at this
        exact absurd (Nat.lt_trans this hb) (Nat.lt_irrefl _)
    have ga : s3.heap.objs.size < h'.objs.size := by rw [hsz']; exact Nat.lt_succ_self _
    have I6' : Inv (gcx X (A.deeper ce) s3 H3 ce fp) [(h'.objs.size, go)] (wipe σ (own.map (·.2))) H3 s6 := I6.pins_of fun p hp => by
      rw [List.mem_singleton.mp hp]
      obtain ⟨y1, y2, y3, _⟩ := young _ ga
      exact ⟨kp6 _ _ at5, y1, y2, y3, gnc⟩
    have cwlt : ∀ b ∈ cw, s3.heap.objs.size < b ∧ b ≠ h'.objs.size := fun b hb => by
      have h1 : s3.heap.objs.size + 2 ≤ b := by rw [← sz5]; exact hcw b hb
      refine ⟨Nat.lt_of_lt_of_le (Nat.lt_succ_of_lt (Nat.lt_succ_self _)) h1, fun z => ?_⟩
      rw [z, hsz'] at h1
      exact absurd (Nat.lt_of_succ_le h1) (Nat.lt_irrefl _)
    have G : GPlace (gcx X (A.deeper ce) s3 H3 ce fp) [(h'.objs.size, go)] fp cw := by
      refine ⟨fun b hb => ⟨hb, (I6.ok.exf b hb).1, I6.ok.exfs b hb, fun x d e => (I6.ok.exf b hb).2 x d e, fun p hp => ?_, fun z => ?_⟩, fun b hb => ?_⟩
      · rw [List.mem_singleton.mp (show p ∈ [(h'.objs.size, go)] from hp)]
        exact fun z => absurd (Nat.lt_trans (sz3 b hb) (by rw [← z]; exact ga)) (Nat.lt_irrefl _)
      · exact absurd (Nat.lt_trans (sz3 b hb) (cwlt b z).1) (Nat.lt_irrefl _)
      · obtain ⟨y1, y2, y3, y4⟩ := young b (cwlt b hb).1
        refine ⟨Nat.le_of_lt (cwlt b hb).1, y2, y3, y4, fun p hp => ?_⟩
        rw [List.mem_singleton.mp (show p ∈ [(h'.objs.size, go)] from hp)]
        exact (cwlt b hb).2.symm
    have nc : ∀ b ∈ cw, H3 b = none := fun b hb => (young b (cwlt b hb).1).1
    refine ⟨kp6 _ _ at5, lim5.keeps kp6, .fresh (.compStart (gxE elt tg iter ifs scope gpos) 0 (.ref it) .none ce), by rw [gs6, g5]; exact Array.getElem?_push_size .., fun s7 z lk7 => ⟨rfl, ?_⟩⟩
    have I7 := G.doz I6' nc z
    have st7 : tn 0 s7.heap := T.keep _ _ _ st3 fun b hb o e => z.keep b o (fun hc => absurd (Nat.lt_trans (sz3 b hb) (cwlt b hc).1) (Nat.lt_irrefl _)) (kp36 b o e)
    have pg' := pg (A.deeper ce) s3 H3 s3.heap.objs.size (cloFrom X.env.cells scope.names []) code builtinsNs fp hrA
    have pt' := pt (A.deeper ce) s3 H3 s3.heap.objs.size (cloFrom X.env.cells scope.names []) code builtinsNs fp hrA
    have pe' := pe (A.deeper ce) s3 H3 s3.heap.objs.size (cloFrom X.env.cells scope.names []) code builtinsNs fp hrA
    rw [hce] at pg' pt' pe'
    exact gx_first (Y := gcx X (A.deeper ce) s3 H3 ce fp) over_gx rfl (by show ce.scope.isCoroutine = false; rw [ce1]; exact hco) rfl T pg' pt' pe' G hLk hW I7 nc z.there lk7 st7 (fun b hb => (f3 b hb).1) w0
  cases hf : codeAmong gpos ps.toList with
  | none =>
    refine wpAny_genexprCodeX hcode (cd.code hPs ht) (cd.tab hPs) hf fun c' h' tk hx hge hlt hco' _ htab' _ => ?_
    obtain ⟨o1, vs, f1, tf, fl, tg, inF, tx, tt, op, _, _, _, _, _, _, _, _, _, htr, _⟩ := hco'
    exact cont _ h' tk _ hx (Nat.le_trans hge (Nat.le_of_lt hlt)) htab'.2 htr
  | some cv =>
    refine wpAny_genexprCode_hit hcode (cd.code hPs ht) hf ?_
    exact cont cv s2.heap s2.toks #[] (Heap.ExtBut.refl _ _) (Nat.le_refl _) (by rw [Array.append_empty]; exact hPs) (by rw [Array.append_empty]; exact ht)
end
end GXP
namespace GXP
open PySem PySem.Spec PyProof.Rows L2
/-! the consumers -/
/-- the list that the consumer fills -/
abbrev tmpL (acc : Array Value) (c : Nat) : Obj := { cls := .type "list", dict := none, data := .seq acc c, slots := #[] }
def LkT (S : Addr) (ys : List V) (h : Heap) : Prop := ∃ acc c, h.get? S = some (tmpL acc c) ∧ Vals ys acc.toList ∧ ys.length ≤ sizeLine
theorem lnkT (S : Addr) : Lnk [S] (LkT S) := ⟨fun _ _ _ ⟨acc, c, e, r⟩ k => ⟨acc, c, k S (List.mem_singleton.mpr rfl) _ e, r⟩⟩
def cyT : Cy := fun ys y H Nx => ys.length < sizeLine ∧ Nx (ys ++ [y]) H
theorem lnkN : Lnk [] (fun _ _ => True) := ⟨fun _ _ _ _ _ => trivial⟩
/-- all, any: b0 ends it -/
def cyB (b0 : Bool) (Qf : Hp → Prop) : Cy := fun ys y H Nx => ∃ b, y = .bl b ∧ if b = b0 then Qf H else Nx (ys ++ [y]) H
def sumV : List V → Int
  | [] => 0
  | .int z :: r => z + sumV r
  | _ :: r => sumV r
theorem sumV_snoc : ∀ (ys : List V) (z : Int), sumV (ys ++ [.int z]) = sumV ys + z
  | [], z => by simp [sumV]
  | y :: r, z => by
    have ih := sumV_snoc r z
    cases y <;> simp only [List.cons_append, sumV, ih] <;> omega
def LkS (S : Addr) (ys : List V) (h : Heap) : Prop := ∃ t c, h.get? S = some (tmpL #[.int (sumV ys) t] c)
theorem lnkS (S : Addr) : Lnk [S] (LkS S) := ⟨fun _ _ _ ⟨t, c, e⟩ k => ⟨t, c, k S (List.mem_singleton.mpr rfl) _ e⟩⟩
def cyS : Cy := fun ys y H Nx => ∃ z, y = .int z ∧ InLong z ∧ InLong (sumV ys + z) ∧ Nx (ys ++ [y]) H
section
variable {X : Cx} {pins : List (Addr × Obj)} {σ : L2.St} {sg : Shared} {Hg : Hp} {fp : List Addr} {a g S : Addr} {go : Obj} {A A1 : Around} {ce : Env} {Qe : List V → Hp → Prop} {R : Result → Shared → Prop}
theorem gx_drain (M : GMk X pins σ sg Hg fp a g go) (hh : A.handled = none) (hd : A.depth < recursionLimit) (hSa : a ∉ [S]) (hSc : cStatics ∉ [S]) {res : Value}
    (fin : ∀ (s' : Shared) (ys : List V) (H : Hp) (acc : Array Value) (c : Nat), Inv X pins σ H s' → H S = none → s'.heap.get? S = some (tmpL acc c) → Vals ys acc.toList → ys.length ≤ sizeLine → Qe ys H → R (.ok (.ret res)) s') :
    ∀ (n : Nat) (ys : List V) (s : Shared), GRun (gcx X A1 sg Hg ce fp) [S] (LkT S) cyT Qe a g go A.in1.in1 n ys s → LkT S ys s.heap → AllBare s.gens → codeAny (model X.prog X.w) A (.builtin "list.extend.loop" ⟨[.ref S, .ref a, res], []⟩) R s := by
  have E0 := F.entry_extend_loop
  intro n
  induction n with
  | zero =>
    intro ys s G lk hb
    obtain ⟨acc, c, eS, r, hz⟩ := id lk
    refine codeAny_builtin E0 ?_
    rw [Around.under_plainId F.plain_extend_loop]
    refine wpAny_bind (thnF (gx_next M (lnkT S) hSa hSc (A := A.in1) hh hd G hb (fun b hb => ?_) lk) fun r s1 hN => ?_)
    · rw [List.mem_singleton.mp hb]
      exact ⟨_, eS, fun v z => by cases z⟩
    · obtain ⟨kc, hN⟩ := hN
      cases r with
      | none =>
        obtain ⟨ys1, H1, I1, n1, ⟨acc1, c1, e1, r1, z1⟩, q1⟩ := hN
        exact wpAny_pure (fin s1 ys1 H1 acc1 c1 I1 (n1 S (List.mem_singleton.mpr rfl)) e1 r1 z1 q1)
      | some v =>
        obtain ⟨ys1, y, H1, Nx, I1, ry, n1, ⟨acc1, c1, e1, r1, z1⟩, ⟨hlt, hN1⟩, wake⟩ := hN
        have hs : acc1.size < sizeLine := by
          have := r1.length
          simp only [Array.length_toList] at this
          omega
        show wpAny _ A.in1 (updateSeq S (·.push v) >>= _) _ _ _
        refine wpAny_bind (wpAny_updateSeq e1 rfl ?_ (Nat.le_of_lt hs) (by show (acc1.push v).size ≤ sizeLine + 1; rw [Array.size_push]; omega))
        have o1 := Heap.get?_update_self (Obj.mapSeq (·.push v)) e1 rfl
        refine (wake (ys1 ++ [y]) hN1 { s1 with heap := s1.heap.update S (Obj.mapSeq (·.push v)) } ⟨rfl, I1.bare, fun b o hb e => ?_, fun b hb => ?_⟩ ⟨_, _, o1, ?_, ?_⟩ rfl).elim (fun n' h => (Nat.succ_ne_zero n' h.1.symm).elim)
        · exact (Heap.get?_update_other _ _ (fun z => hb (List.mem_singleton.mpr z.symm))).trans e
        · rw [List.mem_singleton.mp hb]
          exact ⟨_, o1, fun v z => by cases z⟩
        · rw [Array.toList_push]
          exact r1.append (.cons ry .nil)
        · rw [List.length_append]
          exact hlt
  | succ n ih =>
    intro ys s G lk hb
    obtain ⟨acc, c, eS, r, hz⟩ := id lk
    refine codeAny_builtin E0 ?_
    rw [Around.under_plainId F.plain_extend_loop]
    refine wpAny_bind (thnF (gx_next M (lnkT S) hSa hSc (A := A.in1) hh hd G hb (fun b hb => ?_) lk) fun r s1 hN => ?_)
    · rw [List.mem_singleton.mp hb]
      exact ⟨_, eS, fun v z => by cases z⟩
    · obtain ⟨kc, hN⟩ := hN
      cases r with
      | none =>
        obtain ⟨ys1, H1, I1, n1, ⟨acc1, c1, e1, r1, z1⟩, q1⟩ := hN
        exact wpAny_pure (fin s1 ys1 H1 acc1 c1 I1 (n1 S (List.mem_singleton.mpr rfl)) e1 r1 z1 q1)
      | some v =>
        obtain ⟨ys1, y, H1, Nx, I1, ry, n1, ⟨acc1, c1, e1, r1, z1⟩, ⟨hlt, hN1⟩, wake⟩ := hN
        have hs : acc1.size < sizeLine := by
          have := r1.length
          simp only [Array.length_toList] at this
          omega
        show wpAny _ A.in1 (updateSeq S (·.push v) >>= _) _ _ _
        refine wpAny_bind (wpAny_updateSeq e1 rfl (wpAny_pure ⟨plainId_quiet F.plain_extend_loop _, ?_⟩) (Nat.le_of_lt hs) (by show (acc1.push v).size ≤ sizeLine + 1; rw [Array.size_push]; omega))
        have o1 := Heap.get?_update_self (Obj.mapSeq (·.push v)) e1 rfl
        have lk2 : LkT S (ys1 ++ [y]) (s1.heap.update S (Obj.mapSeq (·.push v))) := ⟨_, _, o1, by rw [Array.toList_push]; exact r1.append (.cons ry .nil), by rw [List.length_append]; exact hlt⟩
        obtain ⟨n', hn, G'⟩ := wake (ys1 ++ [y]) hN1 { s1 with heap := s1.heap.update S (Obj.mapSeq (·.push v)) } ⟨rfl, I1.bare, fun b o hb e => (Heap.get?_update_other _ _ (fun z => hb (List.mem_singleton.mpr z.symm))).trans e, fun b hb => by
          rw [List.mem_singleton.mp hb]
          exact ⟨_, o1, fun v z => by cases z⟩⟩ lk2 rfl
        cases hn
        exact ih (ys1 ++ [y]) _ G' lk2 I1.bare
end
end GXP
namespace GXP
open PySem PySem.Spec PyProof.Rows L2
section
variable {X : Cx} {pins : List (Addr × Obj)} {σ : L2.St} {sg : Shared} {Hg : Hp} {fp : List Addr} {a g S : Addr} {go : Obj} {A A1 : Around} {ce : Env} {Qe : List V → Hp → Prop} {Qf : Hp → Prop} {R : Result → Shared → Prop}
theorem gx_all (M : GMk X pins σ sg Hg fp a g go) (hh : A.handled = none) (hd : A.depth < recursionLimit)
    (fin : ∀ (s' : Shared) (H : Hp) (b : Bool), Inv X pins σ H s' → (b = true → ∃ ys, Qe ys H) → (b = false → Qf H) → R (.ok (.ret (.bool b))) s') :
    ∀ (n : Nat) (ys : List V) (s : Shared), GRun (gcx X A1 sg Hg ce fp) [] (fun _ _ => True) (cyB false Qf) Qe a g go A.in1.in1 n ys s → AllBare s.gens → codeAny (model X.prog X.w) A (.builtin "all.loop" ⟨[.ref a], []⟩) R s := by
  have E0 := F.entry_all_loop
  intro n
  induction n with
  | zero =>
    intro ys s G hb
    refine codeAny_builtin E0 ?_
    rw [Around.under_plainId F.plain_all_loop]
    refine wpAny_bind (thnF (gx_next M lnkN (by simp) (by simp) (A := A.in1) hh hd G hb (fun b hb => by cases hb) trivial) fun r s1 ⟨_, hN⟩ => ?_)
    cases r with
    | none =>
      obtain ⟨ys1, H1, I1, _, _, q1⟩ := hN
      exact wpAny_bind (wpAny_rule (wpAny_pure (fin s1 H1 true I1 (fun _ => ⟨ys1, q1⟩) (fun z => by cases z))))
    | some v =>
      obtain ⟨ys1, y, H1, Nx, I1, ry, _, _, ⟨b, rfl, q⟩, wake⟩ := hN
      cases ry
      refine wpAny_bind (wpAny_holding (wpAny_truthy_bool (wpAny_bind (wpAny_letGo ?_))))
      cases b with
      | true =>
        rw [if_neg (by decide)] at q
        obtain ⟨n', h, _⟩ := wake _ q s1 ⟨rfl, I1.bare, fun _ _ _ e => e, fun b hb => by cases hb⟩ trivial rfl
        cases h
      | false =>
        rw [if_pos rfl] at q
        exact wpAny_bind (wpAny_rule (wpAny_pure (fin s1 H1 false I1 (fun z => by cases z) (fun _ => q))))
  | succ n ih =>
    intro ys s G hb
    refine codeAny_builtin E0 ?_
    rw [Around.under_plainId F.plain_all_loop]
    refine wpAny_bind (thnF (gx_next M lnkN (by simp) (by simp) (A := A.in1) hh hd G hb (fun b hb => by cases hb) trivial) fun r s1 ⟨_, hN⟩ => ?_)
    cases r with
    | none =>
      obtain ⟨ys1, H1, I1, _, _, q1⟩ := hN
      exact wpAny_bind (wpAny_rule (wpAny_pure (fin s1 H1 true I1 (fun _ => ⟨ys1, q1⟩) (fun z => by cases z))))
    | some v =>
      obtain ⟨ys1, y, H1, Nx, I1, ry, _, _, ⟨b, rfl, q⟩, wake⟩ := hN
      cases ry
      refine wpAny_bind (wpAny_holding (wpAny_truthy_bool (wpAny_bind (wpAny_letGo ?_))))
      cases b with
      | true =>
        rw [if_neg (by decide)] at q
        obtain ⟨n', h, G'⟩ := wake _ q s1 ⟨rfl, I1.bare, fun _ _ _ e => e, fun b hb => by cases hb⟩ trivial rfl
        cases h
        exact wpAny_pure ⟨plainId_quiet F.plain_all_loop _, ih _ s1 G' I1.bare⟩
      | false =>
        rw [if_pos rfl] at q
        exact wpAny_bind (wpAny_rule (wpAny_pure (fin s1 H1 false I1 (fun z => by cases z) (fun _ => q))))
theorem gx_any (M : GMk X pins σ sg Hg fp a g go) (hh : A.handled = none) (hd : A.depth < recursionLimit)
    (fin : ∀ (s' : Shared) (H : Hp) (b : Bool), Inv X pins σ H s' → (b = false → ∃ ys, Qe ys H) → (b = true → Qf H) → R (.ok (.ret (.bool b))) s') :
    ∀ (n : Nat) (ys : List V) (s : Shared), GRun (gcx X A1 sg Hg ce fp) [] (fun _ _ => True) (cyB true Qf) Qe a g go A.in1.in1 n ys s → AllBare s.gens → codeAny (model X.prog X.w) A (.builtin "any.loop" ⟨[.ref a], []⟩) R s := by
  have E0 := F.entry_any_loop
  intro n
  induction n with
  | zero =>
    intro ys s G hb
    refine codeAny_builtin E0 ?_
    rw [Around.under_plainId F.plain_any_loop]
    refine wpAny_bind (thnF (gx_next M lnkN (by simp) (by simp) (A := A.in1) hh hd G hb (fun b hb => by cases hb) trivial) fun r s1 ⟨_, hN⟩ => ?_)
    cases r with
    | none =>
      obtain ⟨ys1, H1, I1, _, _, q1⟩ := hN
      exact wpAny_bind (wpAny_rule (wpAny_pure (fin s1 H1 false I1 (fun _ => ⟨ys1, q1⟩) (fun z => by cases z))))
    | some v =>
      obtain ⟨ys1, y, H1, Nx, I1, ry, _, _, ⟨b, rfl, q⟩, wake⟩ := hN
      cases ry
      refine wpAny_bind (wpAny_holding (wpAny_truthy_bool (wpAny_bind (wpAny_letGo ?_))))
      cases b with
      | false =>
        rw [if_neg (by decide)] at q
        obtain ⟨n', h, _⟩ := wake _ q s1 ⟨rfl, I1.bare, fun _ _ _ e => e, fun b hb => by cases hb⟩ trivial rfl
        cases h
      | true =>
        rw [if_pos rfl] at q
        exact wpAny_bind (wpAny_rule (wpAny_pure (fin s1 H1 true I1 (fun z => by cases z) (fun _ => q))))
  | succ n ih =>
    intro ys s G hb
    refine codeAny_builtin E0 ?_
    rw [Around.under_plainId F.plain_any_loop]
    refine wpAny_bind (thnF (gx_next M lnkN (by simp) (by simp) (A := A.in1) hh hd G hb (fun b hb => by cases hb) trivial) fun r s1 ⟨_, hN⟩ => ?_)
    cases r with
    | none =>
      obtain ⟨ys1, H1, I1, _, _, q1⟩ := hN
      exact wpAny_bind (wpAny_rule (wpAny_pure (fin s1 H1 false I1 (fun _ => ⟨ys1, q1⟩) (fun z => by cases z))))
    | some v =>
      obtain ⟨ys1, y, H1, Nx, I1, ry, _, _, ⟨b, rfl, q⟩, wake⟩ := hN
      cases ry
      refine wpAny_bind (wpAny_holding (wpAny_truthy_bool (wpAny_bind (wpAny_letGo ?_))))
      cases b with
      | false =>
        rw [if_neg (by decide)] at q
        obtain ⟨n', h, G'⟩ := wake _ q s1 ⟨rfl, I1.bare, fun _ _ _ e => e, fun b hb => by cases hb⟩ trivial rfl
        cases h
        exact wpAny_pure ⟨plainId_quiet F.plain_any_loop _, ih _ s1 G' I1.bare⟩
      | true =>
        rw [if_pos rfl] at q
        exact wpAny_bind (wpAny_rule (wpAny_pure (fin s1 H1 true I1 (fun z => by cases z) (fun _ => q))))
theorem gx_sum (M : GMk X pins σ sg Hg fp a g go) (hh : A.handled = none) (hd : A.depth < recursionLimit) (hSa : a ∉ [S]) (hSc : cStatics ∉ [S])
    (fin : ∀ (s' : Shared) (ys : List V) (H : Hp) (t : Tok), Inv X pins σ H s' → H S = none → Qe ys H → R (.ok (.ret (.int (sumV ys) t))) s') :
    ∀ (n : Nat) (ys : List V) (s : Shared), GRun (gcx X A1 sg Hg ce fp) [S] (LkS S) cyS Qe a g go A.in1.in1 n ys s → LkS S ys s.heap → AllBare s.gens → codeAny (model X.prog X.w) A (.builtin "sum.loop" ⟨[.ref a, .ref S, rawInt 0, rawInt 0], []⟩) R s := by
  have E0 := F.entry_sum_loop
  have cwt : ∀ {ys : List V} {s : Shared}, LkS S ys s.heap → ∀ b ∈ [S], ∃ o, s.heap.get? b = some o ∧ ∀ v, o.data ≠ .cell v := fun {ys s} lk b hb => by
    obtain ⟨t, c, e⟩ := lk
    rw [List.mem_singleton.mp hb]
    exact ⟨_, e, fun v z => by cases z⟩
  have turn : ∀ (n : Nat) (ys : List V) (s : Shared), GRun (gcx X A1 sg Hg ce fp) [S] (LkS S) cyS Qe a g go A.in1.in1 n ys s → LkS S ys s.heap → AllBare s.gens →
      (∀ ys2 s2, (∃ n', n = n' + 1 ∧ GRun (gcx X A1 sg Hg ce fp) [S] (LkS S) cyS Qe a g go A.in1.in1 n' ys2 s2) → LkS S ys2 s2.heap → AllBare s2.gens → codeAny (model X.prog X.w) A (.builtin "sum.loop" ⟨[.ref a, .ref S, rawInt 0, rawInt 0], []⟩) R s2) →
      codeAny (model X.prog X.w) A (.builtin "sum.loop" ⟨[.ref a, .ref S, rawInt 0, rawInt 0], []⟩) R s := by
    intro n ys s G lk hb next
    obtain ⟨t, c, eS⟩ := id lk
    refine codeAny_builtin E0 ?_
    rw [Around.under_plainId F.plain_sum_loop]
    show wpAny _ A.in1 (seqItems? (.ref S) >>= _) _ _ s
    refine wpAny_bind (wpAny_seqItems eS rfl ?_)
    show wpAny _ A.in1 (tryCatch (pyNext (.ref a)) _ >>= _) _ _ s
    refine wpAny_bind (wpAny_tryCatch (thnF (gx_next M (lnkS S) hSa hSc (A := A.in1) hh hd G hb (cwt lk) lk) fun r s1 ⟨kc, hN⟩ => ?_))
    have eS1 := kc S (List.mem_singleton.mpr rfl) _ eS
    cases r with
    | none =>
      obtain ⟨ys1, H1, I1, n1, ⟨t1, c1, e1⟩, q1⟩ := hN
      have hd1 := congrArg Obj.data (Option.some.inj (eS1.symm.trans e1))
      simp only [Data.seq.injEq, Array.mk.injEq, List.cons.injEq, Value.int.injEq, and_true] at hd1
      rw [hd1.1.1]
      exact wpAny_pure (fin s1 ys1 H1 _ I1 (n1 S (List.mem_singleton.mpr rfl)) q1)
    | some v =>
      obtain ⟨ys1, y, H1, Nx, I1, ry, n1, ⟨t1, c1, e1⟩, ⟨z, rfl, ⟨f1, f2⟩, ⟨f3, f4⟩, hN1⟩, wake⟩ := hN
      obtain ⟨tz, rfl⟩ := ry
      have hd1 := congrArg Obj.data (Option.some.inj (eS1.symm.trans e1))
      simp only [Data.seq.injEq, Array.mk.injEq, List.cons.injEq, Value.int.injEq, and_true] at hd1
      rw [hd1.1.1]
      have hc : ((decide (-(2 ^ 63) ≤ z) && decide (z < 2 ^ 63)) && (decide (-(2 ^ 63) ≤ sumV ys1 + z) && decide (sumV ys1 + z < 2 ^ 63))) = true := by
        simp only [Bool.and_eq_true, decide_eq_true_eq]
        exact ⟨⟨f1, f2⟩, f3, f4⟩
      show wpAny _ A.in1 (if (_ : Bool) = true then (mkInt (sumV ys1 + z) >>= _) else _) _ _ _
      split
      · refine wpAny_bind (wpAny_mkInt ?_)
        show wpAny _ A.in1 (updateSeq S (fun _ => #[.int (sumV ys1 + z) s1.toks]) >>= _) _ _ _
        have o1 := Heap.get?_update_self (Obj.mapSeq (fun _ => #[Value.int (sumV ys1 + z) s1.toks])) e1 rfl
        have lk2 : LkS S (ys1 ++ [.int z]) (s1.heap.update S (Obj.mapSeq (fun _ => #[Value.int (sumV ys1 + z) s1.toks]))) := ⟨s1.toks, _, by rw [sumV_snoc]; exact o1⟩
        refine wpAny_bind (wpAny_updateSeq e1 rfl (wpAny_pure ⟨plainId_quiet F.plain_sum_loop _, ?_⟩))
        refine next (ys1 ++ [.int z]) _ (wake _ hN1 { s1 with heap := s1.heap.update S (Obj.mapSeq (fun _ => #[Value.int (sumV ys1 + z) s1.toks])), toks := s1.toks + 1 } ⟨rfl, I1.bare, fun b o hb e => (Heap.get?_update_other _ _ (fun q => hb (List.mem_singleton.mpr q.symm))).trans e, cwt lk2⟩ lk2 rfl) lk2 I1.bare
      · rename_i hneg
        exact absurd hc hneg
  intro n
  induction n with
  | zero =>
    intro ys s G lk hb
    exact turn 0 ys s G lk hb fun ys2 s2 ⟨n', h, _⟩ => by cases h
  | succ n ih =>
    intro ys s G lk hb
    refine turn (n + 1) ys s G lk hb fun ys2 s2 ⟨n', h, G'⟩ lk2 hb2 => ?_
    cases h
    exact ih ys2 s2 G' lk2 hb2
end
end GXP
namespace GXP
open PySem PySem.Spec PyProof.Rows L2
section
variable {X : Cx} {pins : List (Addr × Obj)} {σ : L2.St} {a : Addr} {A : Around} {Qe : List V → Hp → Prop} {s : Shared} {m : Nat} {E : Value → Shared → Prop}
theorem gx_collect (hG : GReady X pins σ m cyT Qe a s) (hh : A.handled = none) (hf : A.frames = some X.stack) (hd : A.depth ≤ X.A.depth + 1) (hu : A.units + 2 ≤ X.A.units + 8) (hl : A.depth < recursionLimit) {Q : List Value → Shared → Prop}
    (hQ : ∀ (items : List Value) (s' : Shared) (ys : List V) (H : Hp), Inv X pins σ H s' → Vals ys items → ys.length ≤ sizeLine → Qe ys H → Q items s') : wpAny (model X.prog X.w) A (collect (.ref a)) Q E s := by
  obtain ⟨g, go, sg, Hg, fp, ce, M, I0, ha, lim, ready⟩ := hG.ex
  have hgen := fun (h : Heap) (e : h.get? a = some go) => M.isGen h e
  have hSa : s.heap.objs.size ≠ a := fun z => by
    have := Heap.lt_size ha
    rw [← z] at this
    exact Nat.lt_irrefl _ this
  have hSc : s.heap.objs.size ≠ cStatics := fun z => by
    obtain ⟨_, hn, _⟩ := lim
    have := hn.lt
    rw [← z] at this
    exact Nat.lt_irrefl _ this
  unfold collect
  refine wpAny_bind (wpAny_runValue (codeAny_builtin F.entry_proto_collect ?_))
  rw [Around.under_plainId F.plain_proto_collect]
  show wpAny _ A.in1 (newList [] >>= fun l => again (.builtin "list.__iadd__" ⟨[l, .ref a], []⟩)) _ _ s
  refine wpAny_bind (wpAny_newObj_type (wpAny_pure ⟨plainId_quiet F.plain_list_iadd _, codeAny_builtin F.entry_list_iadd ?_⟩))
  rw [Around.under_plainId F.plain_list_iadd]
  show wpAny _ A.in1 (Builtin.List.listExtendWith (.ref s.heap.objs.size) (.ref a) (.ref s.heap.objs.size)) _ _ _
  unfold Builtin.List.listExtendWith
  have k1 : ∀ b o, s.heap.get? b = some o → (s.heap.push { cls := .type "list", data := .seq ([] : List Value).toArray }).get? b = some o := fun b o e => Heap.get?_push_of_some _ e
  refine wpAny_bind (wpAny_typeOf (Heap.IsGen.typeIs (s := { s with heap := _ }) (hgen _ (k1 _ _ ha))) ?_)
  have q1 : Builtin.List.listSameRef (.ref s.heap.objs.size) (.ref a) = false := by simp [Builtin.List.listSameRef, hSa]
  have q2 : (Value.type "generator" == Value.type "list") = false := by decide
  have q3 : (Value.type "generator" == Value.type "tuple") = false := by decide
  simp only [q1, q2, q3, Bool.or_false, Bool.false_eq_true, if_false]
  refine wpAny_bind (wpAny_pyIter_gen (s := { s with heap := _ }) (hgen _ (k1 _ _ ha)) (wpAny_bind (wpAny_holding ?_)))
  unfold Builtin.List.listLengthHint
  refine wpAny_bind (wpAny_specialOf (Heap.IsGen.typeIs (s := { s with heap := _ }) (hgen _ (k1 _ _ ha))) F.gen_no_len ?_)
  show wpAny _ A.in1 (specialOf (Value.ref a) (Str.ofString "__length_hint__") >>= _) _ _ _
  refine wpAny_bind (wpAny_specialOf (Heap.IsGen.typeIs (s := { s with heap := _ }) (hgen _ (k1 _ _ ha))) F.gen_no_hint (wpAny_pure ?_))
  show wpAny _ A.in1 (rule "list.extend.makes-room" >>= fun _ => Builtin.List.listTouch (.ref s.heap.objs.size) >>= fun _ =>
    again (.builtin "list.extend.loop" ⟨[.ref s.heap.objs.size, .ref a, .ref s.heap.objs.size], []⟩)) _ _ _
  refine wpAny_bind (wpAny_rule (wpAny_bind ?_))
  have o1 : (s.heap.push { cls := .type "list", data := .seq ([] : List Value).toArray }).get? s.heap.objs.size = some { cls := .type "list", data := .seq ([] : List Value).toArray } := Heap.get?_push_size _ rfl
  show wpAny _ A.in1 (updateSeq s.heap.objs.size (·.push .none) >>= fun _ => updateSeq s.heap.objs.size (·.pop)) _ _ _
  refine wpAny_bind (wpAny_updateSeq o1 rfl ?_)
  have o2 := Heap.get?_update_self (Obj.mapSeq (·.push Value.none)) o1 rfl
  refine wpAny_updateSeq o2 rfl (wpAny_pure ⟨plainId_quiet F.plain_extend_loop _, ?_⟩)
  have o3 := Heap.get?_update_self (Obj.mapSeq (·.pop)) o2 rfl
  have k3 : ∀ b o, s.heap.get? b = some o → (((s.heap.push { cls := .type "list", data := .seq ([] : List Value).toArray }).update s.heap.objs.size (Obj.mapSeq (·.push Value.none))).update s.heap.objs.size (Obj.mapSeq (·.pop))).get? b = some o := fun b o e =>
    have hb : s.heap.objs.size ≠ b := fun z => Nat.lt_irrefl b (by have := Heap.lt_size e; rw [z] at this; exact this)
    (Heap.get?_update_other _ _ hb).trans ((Heap.get?_update_other _ _ hb).trans (k1 b o e))
  have lk0 : LkT s.heap.objs.size [] (((s.heap.push { cls := .type "list", data := .seq ([] : List Value).toArray }).update s.heap.objs.size (Obj.mapSeq (·.push Value.none))).update s.heap.objs.size (Obj.mapSeq (·.pop))) := ⟨_, _, o3, .nil, Nat.zero_le _⟩
  have G := ready [s.heap.objs.size] (LkT s.heap.objs.size) A.in1.in1 { s with heap := ((s.heap.push { cls := .type "list", data := .seq ([] : List Value).toArray }).update s.heap.objs.size (Obj.mapSeq (·.push Value.none))).update s.heap.objs.size (Obj.mapSeq (·.pop)) } (lnkT _) hh hf hd hu
    (fun b hb => by rw [List.mem_singleton.mp hb]; exact Nat.le_refl _) k3 (fun b hb => by rw [List.mem_singleton.mp hb]; exact ⟨_, o3, fun v z => by cases z⟩) rfl rfl lk0
  refine gx_drain M hh hl (fun hm => hSa (List.mem_singleton.mp hm).symm) (fun hm => hSc (List.mem_singleton.mp hm).symm) (fun s' ys H acc c I' n' e' r' z' q' => ?_) m [] _ G lk0 I0.bare
  show wpAny _ A (load s.heap.objs.size >>= _) _ _ s'
  exact wpAny_bind (wpAny_load e' (wpAny_pure (hQ acc.toList s' ys H I' r' z' q')))
theorem call_tuple_gx (hr : Room 1 X.A) (hf : X.A.frames = some X.stack) {Q : VK} (hG : GReady X pins σ m cyT (fun ys H => ∀ p, H p = none → Q (.ref p) (upd H p (.tup ys))) a s) :
    wpAny (model X.prog X.w) X.A (call (.type "tuple") [.ref a]) (EP X pins σ Q) E s := by
  obtain ⟨g, go, sg, Hg, fp, ce, M, I0, ha, lim, ready⟩ := id hG.ex
  have hTI : s.TypeIs (.ref a) "generator" := (M.isGen _ ha).typeIs
  refine callType_codes (Q₁ := fun obj s1 => s1.TypeIs obj "tuple" ∧ EP X pins σ Q obj s1) F.called_tuple (F.typeCall_tuple_1 _) F.entry_object_init (codeAny_of_tree ?_) fun obj s1 h1 =>
    ⟨h1.1, F.args_object_init_2 obj _, object_init_meets F.called_tuple.init.lookup F.called_tuple.made (by decide) X.prog X.w X.A.in1 _ s1 ⟨h1.1, rfl, h1.2⟩⟩
  show wpAny _ X.A.in1.in1 (do checkBuiltinCall "tuple.__new__" ⟨[.type "tuple", .ref a], []⟩; again (.builtin "tuple.__new__" ⟨[.type "tuple", .ref a], []⟩)) _ _ s
  refine wpAny_bind (wpAny_of_eq (F.newCall_tuple_1 _) (wpAny_pure ⟨plainId_quiet F.plain_tuple_new _, codeAny_builtin F.entry_tuple_new ?_⟩))
  rw [Around.under_plainId F.plain_tuple_new]
  have hsub := sub_tuple_self
  have hinit := init_tuple_lookup
  have hmh := madeHere_tuple
  have hr1 := hr.dp
  have hr2 := hr.hd
  have col := fun (Q : List Value → Shared → Prop) (E : Value → Shared → Prop) hQ => gx_collect (A := X.A.in1.in1) (E := E) (Q := Q) hG hr2 hf (Nat.le_succ _) (by show X.A.units + 1 + 1 + 2 ≤ _; omega) (by show X.A.depth < _; omega) hQ
  wp_walk using wpAny_typeOf hTI, col
  intro items s' ys H I' r' z' q'
  show wpAny _ _ (Builtin.Tuple.tupleExact items.toArray >>= fun v => ret v) _ _ _
  unfold Builtin.Tuple.tupleExact
  refine wpAny_bind (wpAny_newObj_type (wpAny_pure ?_) ?_)
  · have hn : H s'.heap.objs.size = none := I'.hok.fresh (Nat.le_refl _)
    refine ⟨⟨_, Heap.get?_push_size _ rfl, rfl⟩, .ref s'.heap.objs.size, _, I'.laid (t' := s'.toks) (o := .tup ys) (fun b o e => Heap.get?_push_of_some _ e) (Nat.le_refl _) ⟨z', items, r', ?_⟩, rfl, q' _ hn⟩
    exact ⟨_, Heap.get?_push_size _ rfl, rfl, 0, rfl⟩
  · show items.toArray.size ≤ sizeLine
    rw [List.size_toArray, ← r'.length]
    exact z'
theorem call_all_gx (hr : Room 1 X.A) (hf : X.A.frames = some X.stack) {Q : VK} (hG : GReady X pins σ m (cyB false (Q (.bl false))) (fun _ H => Q (.bl true) H) a s) :
    wpAny (model X.prog X.w) X.A (call (.builtin "all") [.ref a]) (EP X pins σ Q) E s := by
  obtain ⟨g, go, sg, Hg, fp, ce, M, I0, ha, lim, ready⟩ := id hG.ex
  have hr1 := hr.dp
  refine call_function_tree F.kind_all F.plain_all F.entry_all (F.args_all1 _) ?_
  unfold Builtin.«all»
  refine wpAny_bind (m := oneArg "all" _) (wpAny_pure (wpAny_bind (wpAny_pyIter_gen (M.isGen _ ha) (wpAny_pure ⟨plainId_quiet F.plain_all_loop _, ?_⟩))))
  have G := ready [] (fun _ _ => True) X.A.in1.in1 s lnkN hr.hd hf (Nat.le_succ _) (by show X.A.units + 1 + 1 ≤ _; omega) (fun b hb => by cases hb) (fun _ _ e => e) (fun b hb => by cases hb) rfl rfl trivial
  refine gx_all M hr.hd (by omega) (fun s' H b I' h1 h2 => ?_) m [] s G I0.bare
  cases b with
  | true =>
    obtain ⟨_, q⟩ := h1 rfl
    exact ⟨.bl true, H, I', rfl, q⟩
  | false => exact ⟨.bl false, H, I', rfl, h2 rfl⟩
theorem call_any_gx (hr : Room 1 X.A) (hf : X.A.frames = some X.stack) {Q : VK} (hG : GReady X pins σ m (cyB true (Q (.bl true))) (fun _ H => Q (.bl false) H) a s) :
    wpAny (model X.prog X.w) X.A (call (.builtin "any") [.ref a]) (EP X pins σ Q) E s := by
  obtain ⟨g, go, sg, Hg, fp, ce, M, I0, ha, lim, ready⟩ := id hG.ex
  have hr1 := hr.dp
  refine call_function_tree F.kind_any F.plain_any F.entry_any (F.args_any1 _) ?_
  unfold Builtin.«any»
  refine wpAny_bind (m := oneArg "any" _) (wpAny_pure (wpAny_bind (wpAny_pyIter_gen (M.isGen _ ha) (wpAny_pure ⟨plainId_quiet F.plain_any_loop _, ?_⟩))))
  have G := ready [] (fun _ _ => True) X.A.in1.in1 s lnkN hr.hd hf (Nat.le_succ _) (by show X.A.units + 1 + 1 ≤ _; omega) (fun b hb => by cases hb) (fun _ _ e => e) (fun b hb => by cases hb) rfl rfl trivial
  refine gx_any M hr.hd (by omega) (fun s' H b I' h1 h2 => ?_) m [] s G I0.bare
  cases b with
  | false =>
    obtain ⟨_, q⟩ := h1 rfl
    exact ⟨.bl false, H, I', rfl, q⟩
  | true => exact ⟨.bl true, H, I', rfl, h2 rfl⟩
theorem call_sum_gx (hr : Room 1 X.A) (hf : X.A.frames = some X.stack) {Q : VK} (hG : GReady X pins σ m cyS (fun ys H => Q (.int (sumV ys)) H) a s) :
    wpAny (model X.prog X.w) X.A (call (.builtin "sum") [.ref a]) (EP X pins σ Q) E s := by
  obtain ⟨g, go, sg, Hg, fp, ce, M, I0, ha, lim, ready⟩ := id hG.ex
  have hr1 := hr.dp
  have hSa : s.heap.objs.size ≠ a := fun z => by
    have := Heap.lt_size ha
    rw [← z] at this
    exact Nat.lt_irrefl _ this
  have hSc : s.heap.objs.size ≠ cStatics := fun z => by
    obtain ⟨_, hn, _⟩ := lim
    have := hn.lt
    rw [← z] at this
    exact Nat.lt_irrefl _ this
  refine call_function_tree F.kind_sum F.plain_sum F.entry_sum (F.args_sum1 _) ?_
  unfold Builtin.«sum»
  simp only [List.length_cons, List.length_nil]; rw [if_neg (by decide)]
  refine wpAny_bind (wpAny_of_eq (show Builtin.Builtins.bindParams "sum" ["start"] 0 { } = pure [none] from rfl) (wpAny_bind (wpAny_pyIter_gen (M.isGen _ ha) (wpAny_bind (wpAny_mkInt (wpAny_bind (wpAny_pure ?_)))))))
  simp only [List.forIn_cons, List.forIn_nil]; refine wpAny_bind (wpAny_bind (wpAny_bind (wpAny_isInstance (T := "int") (b := false) (typeIs_int _ _ _) PySem.sub_int_str ?_)))
  simp only [Bool.false_eq_true, if_false]; refine wpAny_pure (wpAny_bind (wpAny_bind (wpAny_isInstance (T := "int") (b := false) (typeIs_int _ _ _) sub_int_bytes ?_)))
  simp only [Bool.false_eq_true, if_false]; refine wpAny_pure (wpAny_bind (wpAny_bind (wpAny_isInstance (T := "int") (b := false) (typeIs_int _ _ _) sub_int_bytearray ?_)))
  simp only [Bool.false_eq_true, if_false]; refine wpAny_pure (wpAny_pure (wpAny_bind (wpAny_newObj_type (wpAny_pure ⟨plainId_quiet F.plain_sum_loop _, ?_⟩))))
  have o1 : (s.heap.push { cls := .type "list", data := .seq ([.int 0 s.toks] : List Value).toArray }).get? s.heap.objs.size = some { cls := .type "list", data := .seq ([.int 0 s.toks] : List Value).toArray } := Heap.get?_push_size _ rfl
  have lk0 : LkS s.heap.objs.size [] (s.heap.push { cls := .type "list", data := .seq ([.int 0 s.toks] : List Value).toArray }) := ⟨s.toks, 0, o1⟩
  have G := ready [s.heap.objs.size] (LkS s.heap.objs.size) X.A.in1.in1 { s with heap := s.heap.push { cls := .type "list", data := .seq ([.int 0 s.toks] : List Value).toArray }, toks := s.toks + 1 } (lnkS _) hr.hd hf (Nat.le_succ _) (by show X.A.units + 1 + 1 ≤ _; omega)
    (fun b hb => by rw [List.mem_singleton.mp hb]; exact Nat.le_refl _) (fun b o e => Heap.get?_push_of_some _ e) (fun b hb => by rw [List.mem_singleton.mp hb]; exact ⟨_, o1, fun v z => by cases z⟩) rfl rfl lk0
  refine gx_sum M hr.hd (by omega) (fun hm => hSa (List.mem_singleton.mp hm).symm) (fun hm => hSc (List.mem_singleton.mp hm).symm) (fun s' ys H t I' n' q' => ?_) m [] _ G lk0 I0.bare
  exact ⟨.int (sumV ys), H, I', ⟨t, rfl⟩, q'⟩
end
end GXP
namespace GXP
open PySem PySem.Spec PyProof.Rows L2
/-- F(elt for target in iter if ..): what its reading asks; P the table of the def's code object -/
def tGx (P : Addr) (wi : TI) (g : TG) (tt : TT) (te : TE) (vs : List Nat) (cy : VK → Cy) (Qe : VK → List V → Hp → Prop) : TE := fun σ H Q =>
  wi σ H fun J H1 => GxR.TabG H1 P ∧ ∀ H2, GxR.Tabbed P H1 H2 → ∃ W m, W 0 m [] H2 ∧ Turns J g tt te vs σ (cy Q) (Qe Q) W
section
variable {X : Cx} {c P : Addr} {elt iter tg : Expr} {ifs : List Expr} {scope : Scope} {p pos gpos : Pos} {own : List (Str × Nat)} {wi : TI} {g : TG} {tt : TT} {te : TE} {k : Nat}
/-- what is asked of the expression itself -/
structure GxOk (X : Cx) (k : Nat) (c P : Addr) (elt tg iter : Expr) (ifs : List Expr) (scope : Scope) (own : List (Str × Nat)) (wi : TI) (g : TG) (tt : TT) (te : TE) : Prop where
  hr : Room (k + 1) X.A
  hc : X.calm = true
  tb : LamX.TabB X.base X.mg c P
  code : X.env.code = .ref c
  co : scope.isCoroutine = false
  ok : BlkOk X.N X.env.scope scope own
  nd : X.N.Nodup
  nocell : ∀ y ∈ scope.names, y.2 ≠ .cell
  dot : scope.names.lookup (".0" : Str) = some NameKind.local
  pi : PI X tg iter wi
  pg : ∀ (A : Around) (s : Shared) (H : Hp) (C : Addr) (cl : List (Str × Addr)) (code : Value) (bi : Addr) (fp : List Addr), Room k A → PG (gcx X A s H (genEnv scope cl C code bi X.env) fp) tg g
  pt : ∀ (A : Around) (s : Shared) (H : Hp) (C : Addr) (cl : List (Str × Addr)) (code : Value) (bi : Addr) (fp : List Addr), Room k A → PTs (gcx X A s H (genEnv scope cl C code bi X.env) fp) ifs tt
  pe : ∀ (A : Around) (s : Shared) (H : Hp) (C : Addr) (cl : List (Str × Addr)) (code : Value) (bi : Addr) (fp : List Addr), Room k A → PE (gcx X A s H (genEnv scope cl C code bi X.env) fp) elt te
  fold : ∀ v, genFold iter X.env v = pure v
theorem GxOk.make (G : GxOk X k c P elt tg iter ifs scope own wi g tt te) {cy : Cy} {Qe : List V → Hp → Prop} {pins : List (Addr × Obj)} {s : Shared} {σ : L2.St} {H : Hp} (I : Inv X pins σ H s)
    (h : wi σ H fun J H1 => GxR.TabG H1 P ∧ ∀ H2, GxR.Tabbed P H1 H2 → ∃ W m, W 0 m [] H2 ∧ Turns J g tt te (own.map (·.2)) σ cy Qe W) :
    wpAny (model X.prog X.w) X.A (eval (gxE elt tg iter ifs scope gpos) X.env) (fun u s' => ∃ a m, u = .ref a ∧ GReady X pins σ m cy Qe a s') X.xe s :=
  gx_make G.hr G.tb G.code G.co G.ok G.nd G.nocell G.dot G.pi G.pg G.pt G.pe G.fold I h
theorem pe_tupleGx (hg : Gl X "tuple") (hm : X.mg "tuple" = none) (G : GxOk X k c P elt tg iter ifs scope own wi g tt te)
    (he : starEach [gxE elt tg iter ifs scope gpos] X.env = (false, eval (gxE elt tg iter ifs scope gpos) X.env) :: starEach [] X.env := by rfl) :
    PE X (.Call (.Name "tuple" p) [gxE elt tg iter ifs scope gpos] [] pos) (tGx P wi g tt te (own.map (·.2)) (fun _ => cyT) fun Q ys H => ∀ p, H p = none → Q (.ref p) (upd H p (.tup ys))) := by
  refine ⟨fun pins s σ H Q I h => ?_⟩
  refine wpAny_Call_Name_kw (ld_blt I hg hm (by decide +kernel : bootBuiltins "tuple" = some (.type "tuple")) (PyProof.Rows.callWith_type1 ?_ he (by rfl)))
  rw [he]
  show wpAny _ _ (spliced ((false, eval (gxE elt tg iter ifs scope gpos) X.env) :: backTo pos (starEach [] X.env))) _ _ s
  exact Calls.spliced_cons (thn (G.make I h) fun u s1 ⟨a, m, e, hG⟩ => e ▸ Calls.spliced_nil (call_tuple_gx (G.hr.mono (by omega)) I.ok.frames hG))
theorem pe_allGx (hg : Gl X "all") (hm : X.mg "all" = none) (G : GxOk X k c P elt tg iter ifs scope own wi g tt te)
    (he : starEach [gxE elt tg iter ifs scope gpos] X.env = (false, eval (gxE elt tg iter ifs scope gpos) X.env) :: starEach [] X.env := by rfl) :
    PE X (.Call (.Name "all" p) [gxE elt tg iter ifs scope gpos] [] pos) (tGx P wi g tt te (own.map (·.2)) (fun Q => cyB false (Q (.bl false))) fun Q _ H => Q (.bl true) H) := by
  refine ⟨fun pins s σ H Q I h => ?_⟩
  refine wpAny_Call_Name_kw (ld_blt I hg hm (by decide +kernel : bootBuiltins "all" = some (.builtin "all")) (PyProof.Rows.callWith_builtin1 ?_ he (by rfl)))
  rw [he]
  show wpAny _ _ (spliced ((false, eval (gxE elt tg iter ifs scope gpos) X.env) :: backTo pos (starEach [] X.env))) _ _ s
  exact Calls.spliced_cons (thn (G.make I h) fun u s1 ⟨a, m, e, hG⟩ => e ▸ Calls.spliced_nil (call_all_gx (G.hr.mono (by omega)) I.ok.frames hG))
theorem pe_anyGx (hg : Gl X "any") (hm : X.mg "any" = none) (G : GxOk X k c P elt tg iter ifs scope own wi g tt te)
    (he : starEach [gxE elt tg iter ifs scope gpos] X.env = (false, eval (gxE elt tg iter ifs scope gpos) X.env) :: starEach [] X.env := by rfl) :
    PE X (.Call (.Name "any" p) [gxE elt tg iter ifs scope gpos] [] pos) (tGx P wi g tt te (own.map (·.2)) (fun Q => cyB true (Q (.bl true))) fun Q _ H => Q (.bl false) H) := by
  refine ⟨fun pins s σ H Q I h => ?_⟩
  refine wpAny_Call_Name_kw (ld_blt I hg hm (by decide +kernel : bootBuiltins "any" = some (.builtin "any")) (PyProof.Rows.callWith_builtin1 ?_ he (by rfl)))
  rw [he]
  show wpAny _ _ (spliced ((false, eval (gxE elt tg iter ifs scope gpos) X.env) :: backTo pos (starEach [] X.env))) _ _ s
  exact Calls.spliced_cons (thn (G.make I h) fun u s1 ⟨a, m, e, hG⟩ => e ▸ Calls.spliced_nil (call_any_gx (G.hr.mono (by omega)) I.ok.frames hG))
theorem pe_sumGx (hg : Gl X "sum") (hm : X.mg "sum" = none) (G : GxOk X k c P elt tg iter ifs scope own wi g tt te)
    (he : starEach [gxE elt tg iter ifs scope gpos] X.env = (false, eval (gxE elt tg iter ifs scope gpos) X.env) :: starEach [] X.env := by rfl) :
    PE X (.Call (.Name "sum" p) [gxE elt tg iter ifs scope gpos] [] pos) (tGx P wi g tt te (own.map (·.2)) (fun _ => cyS) fun Q ys H => Q (.int (sumV ys)) H) := by
  refine ⟨fun pins s σ H Q I h => ?_⟩
  refine wpAny_Call_Name_kw (ld_blt I hg hm (by decide +kernel : bootBuiltins "sum" = some (.builtin "sum")) (PyProof.Rows.callWith_builtin1 ?_ he (by rfl)))
  rw [he]
  show wpAny _ _ (spliced ((false, eval (gxE elt tg iter ifs scope gpos) X.env) :: backTo pos (starEach [] X.env))) _ _ s
  exact Calls.spliced_cons (thn (G.make I h) fun u s1 ⟨a, m, e, hG⟩ => e ▸ Calls.spliced_nil (call_sum_gx (G.hr.mono (by omega)) I.ok.frames hG))
end
/-! readings over a list, a tuple, a range: an invariant by the turn, the items so far, the heap -/
section
variable {K : PySem.W.Frag} {a : Addr} {xs : List V} {g : TG} {tt : TT} {te : TE} {vs : List Nat} {σ : L2.St} {cy : Cy} {Qe : List V → Hp → Prop} {H0 : Hp}
theorem gx_tup (Pv : Nat → List V → Hp → Prop) (h0 : Pv 0 [] H0) (hl : ∀ i ys H, i ≤ xs.length → Pv i ys H → SqT K H a xs)
    (hs : ∀ i x ys H, xs[i]? = some x → Pv i ys H → g x (wipe σ vs) H fun σ2 H2 => wipe σ2 vs = wipe σ vs ∧ tt σ2 H2 fun b H3 => if b = true then te σ2 H3 fun y H4 => cy ys y H4 (Pv (i + 1)) else Pv (i + 1) ys H3)
    (hd : ∀ ys H, Pv xs.length ys H → Qe ys H) : ∃ W m, W 0 m [] H0 ∧ Turns (Itt K a) g tt te vs σ cy Qe W := by
  refine ⟨fun i m ys H => m = xs.length - i ∧ i ≤ xs.length ∧ Pv i ys H, xs.length, ⟨rfl, Nat.zero_le _, h0⟩, ?_⟩
  rintro i m ys H ⟨rfl, hi, p⟩
  have q := hl i ys H hi p
  by_cases hlt : i < xs.length
  · refine .inr ⟨⟨xs, _, q, List.getElem?_eq_getElem hlt⟩, by omega, Pv (i + 1), fun ys' H' p' => ⟨_, by omega, rfl, hlt, p'⟩, fun x H' y => ?_⟩
    obtain ⟨rfl, y⟩ := y
    exact hs i x ys _ (y xs q) p
  · have e : i = xs.length := by omega
    subst e
    exact .inl ⟨⟨xs, q, Nat.le_refl _⟩, hd ys H p⟩
theorem gx_list (Pv : Nat → List V → Hp → Prop) (h0 : Pv 0 [] H0) (hl : ∀ i ys H, i ≤ xs.length → Pv i ys H → SqL K H a xs)
    (hs : ∀ i x ys H, xs[i]? = some x → Pv i ys H → g x (wipe σ vs) H fun σ2 H2 => wipe σ2 vs = wipe σ vs ∧ tt σ2 H2 fun b H3 => if b = true then te σ2 H3 fun y H4 => cy ys y H4 (Pv (i + 1)) else Pv (i + 1) ys H3)
    (hd : ∀ ys H, Pv xs.length ys H → Qe ys H) : ∃ W m, W 0 m [] H0 ∧ Turns (Itl K a) g tt te vs σ cy Qe W := by
  refine ⟨fun i m ys H => m = xs.length - i ∧ i ≤ xs.length ∧ Pv i ys H, xs.length, ⟨rfl, Nat.zero_le _, h0⟩, ?_⟩
  rintro i m ys H ⟨rfl, hi, p⟩
  have q := hl i ys H hi p
  by_cases hlt : i < xs.length
  · refine .inr ⟨⟨xs, _, q, List.getElem?_eq_getElem hlt⟩, by omega, Pv (i + 1), fun ys' H' p' => ⟨_, by omega, rfl, hlt, p'⟩, fun x H' y => ?_⟩
    obtain ⟨rfl, y⟩ := y
    exact hs i x ys _ (y xs q) p
  · have e : i = xs.length := by omega
    subst e
    exact .inl ⟨⟨xs, q, Nat.le_refl _⟩, hd ys H p⟩
theorem gx_range {lo : Int} {n : Nat} (Pv : Nat → List V → Hp → Prop) (h0 : Pv 0 [] H0)
    (hs : ∀ i ys H, i < n → Pv i ys H → g (.int (lo + i)) (wipe σ vs) H fun σ2 H2 => wipe σ2 vs = wipe σ vs ∧ tt σ2 H2 fun b H3 => if b = true then te σ2 H3 fun y H4 => cy ys y H4 (Pv (i + 1)) else Pv (i + 1) ys H3)
    (hd : ∀ ys H, Pv n ys H → Qe ys H) : ∃ W m, W 0 m [] H0 ∧ Turns (Itr lo n) g tt te vs σ cy Qe W := by
  refine ⟨fun i m ys H => m = n - i ∧ i ≤ n ∧ Pv i ys H, n, ⟨rfl, Nat.zero_le _, h0⟩, ?_⟩
  rintro i m ys H ⟨rfl, hi, p⟩
  by_cases hlt : i < n
  · refine .inr ⟨hlt, by omega, Pv (i + 1), fun ys' H' p' => ⟨_, by omega, rfl, hlt, p'⟩, fun x H' y => ?_⟩
    obtain ⟨rfl, rfl⟩ := y
    exact hs i ys _ hlt p
  · have e : i = n := by omega
    subst e
    exact .inl ⟨Nat.le_refl _, hd ys H p⟩
end
end GXP
/-! ### sorted(d) of a dict whose keys are pairs of ints, any number of them -/
namespace SDT
open PySem PySem.Spec PyProof.Rows L2
def keyAt (H : Hp) (b : Addr) : Int × Int := match H b with
  | some (.tup [.int i, .int j]) => (i, j)
  | _ => (0, 0)
def keyOf (H : Hp) (v : Value) : Int × Int := match v with
  | .ref b => keyAt H b
  | _ => (0, 0)
theorem keyAt_of {H : Hp} {b : Addr} {i j : Int} (e : H b = some (.tup [.int i, .int j])) : keyAt H b = (i, j) := by
  unfold keyAt
  rw [e]
def pairKey (k : Int × Int) : List Key := [Sum.inl k.1, Sum.inl k.2]
/-- b holds the pair k -/
abbrev PairAt (H : Hp) (k : Int × Int) (b : Addr) : Prop := H b = some (.tup [.int k.1, .int k.2])
def rSortedDT : List V → Hp → VK → Prop := fun vs H Q => ∃ (d : Addr) (kvs : List (List Key × V)) (ks : List (Int × Int)), vs = [V.ref d] ∧ Rd H d (.dT kvs) ∧ kvs.map (·.1) = ks.map pairKey ∧
  ∀ (ys : List (Int × Int)) (bs : List Addr) (p : Addr), ys.Perm ks → ys.Pairwise (fun x y => SrtO.lexB y x = false) → Paired (PairAt H) ys bs → H p = none → Q (.ref p) (upd H p (.lst (bs.map V.ref)))
theorem paired_keys {H : Hp} : ∀ {kvs : List (List Key × V)} {xs : List (List Key × Addr × Value)} {ks : List (Int × Int)}, KT H kvs xs → kvs.map (·.1) = ks.map pairKey → (∀ x ∈ xs, ∃ k : Int × Int, PairAt H k x.2.1) ∧ xs.map (fun x => keyAt H x.2.1) = ks
  | _, _, [], .nil, _ => ⟨fun x m => absurd m List.not_mem_nil, rfl⟩
  | _, _, _ :: _, .nil, e => by cases e
  | _, _, [], .cons _ _, e => by cases e
  | _, _, k :: ks, .cons h t, e => by
    obtain ⟨e1, e2⟩ := List.cons.inj e
    obtain ⟨h1, h2, _⟩ := h
    dsimp only at e1
    rw [e1] at h2
    have q : PairAt H k _ := h2
    obtain ⟨r1, r2⟩ := paired_keys t e2
    refine ⟨fun x m => ?_, ?_⟩
    · rcases List.mem_cons.mp m with rfl | m
      · exact ⟨k, q⟩
      · exact r1 x m
    · rw [List.map_cons, keyAt_of q, r2]
theorem paired_of {H : Hp} : ∀ {bs : List Addr}, (∀ b ∈ bs, ∃ k : Int × Int, PairAt H k b) → Paired (PairAt H) (bs.map (keyAt H)) bs
  | [], _ => .nil
  | b :: bs, h => by
    refine .cons ?_ (paired_of fun x m => h x (List.mem_cons_of_mem _ m))
    obtain ⟨k, e⟩ := h b List.mem_cons_self
    rw [keyAt_of e]
    exact e
theorem refs_of : ∀ {us : List Value}, (∀ u ∈ us, ∃ a, u = Value.ref a) → ∃ bs : List Addr, us = bs.map Value.ref
  | [], _ => ⟨[], rfl⟩
  | u :: us, h => by
    obtain ⟨bs, e⟩ := refs_of (us := us) fun x m => h x (List.mem_cons_of_mem _ m)
    obtain ⟨a, e2⟩ := h u List.mem_cons_self
    exact ⟨a :: bs, by rw [e, e2]; rfl⟩
section
variable {X : Cx}
theorem cr_sortedDT (hc : X.calm = true) : CallR X (.builtin "sorted") rSortedDT := by
  intro pins s σ H xs us Q I r h
  obtain ⟨d, kvs, ks, rfl, hd, hks, q⟩ := h
  obtain ⟨u, rfl, rx⟩ := vals1 r
  cases rx
  obtain ⟨z, hs, ps, pr, o, es, ep, ho, hx, hdt, he, hn⟩ := (show ObjOk X.prog X.w H s.heap d (.dT kvs) from hd.ok I.hok)
  have l1 : es.size = ps.length := size_of_entries he
  have l2 : kvs.length = ps.length := Paired.length pr
  obtain ⟨pk, ek⟩ := paired_keys pr hks
  refine Calls.call_function_entry PyProof.Rows.kind_sorted PyProof.Rows.plain_sorted PyProof.Rows.entry_sorted (PyProof.Rows.args_sorted1 _) ?_
  unfold Builtin.«sorted»
  refine wpAny_bind (m := checkCount "sorted" 1 1 _) (wpAny_pure ?_)
  refine wpAny_bind (PySem.W.kdu_collect (A := X.A.in1) (kdl_raw hs hx hdt) (I.ok.hd hc) ho (by omega) fun h' tk acc hk it => ?_)
  have ea : acc.toList = ps.map fun x => Value.ref x.2.1 := by
    have hl : acc.toList.length = ps.length := by rw [Array.length_toList, it.1]; exact l1
    apply List.ext_getElem?
    intro j
    rw [List.getElem?_map]
    cases hj : acc.toList[j]? with
    | none =>
      have h1 := List.getElem?_eq_none_iff.mp hj
      rw [List.getElem?_eq_none (by omega)]
      all_goals rfl
    | some v =>
      obtain ⟨en, hen, hv⟩ := it.2 j v (by rw [← Array.getElem?_toList]; exact hj)
      have qe := entry_at he j
      rw [hen] at qe
      cases hb : ps[j]? with
      | none =>
        rw [hb] at qe
        exact nomatch (show some en = none from qe)
      | some b =>
        rw [hb] at qe
        have e2 : en = entryOfKey (tupleKind (mixKind X.prog X.w)) b := Option.some.inj qe
        rw [hv, e2]
        all_goals rfl
  have hal : acc.toList.length = ps.length := by rw [ea, List.length_map]
  have I1 : Inv X pins σ H { s with heap := h', toks := tk } := I.kept hk
  refine wpAny_bind (wpAny_newList ?_ (by rw [hal]; omega))
  have hoL : (h'.push (seqObj "list" acc.toList.toArray 0)).get? h'.objs.size = some (seqObj "list" acc.toList.toArray 0) := Heap.get?_push_size _ rfl
  show wpAny _ _ _ _ _ { s with heap := h'.push (seqObj "list" acc.toList.toArray 0), toks := tk }
  have pair : ∀ v ∈ acc.toList, Srt.IsPair (h'.push (seqObj "list" acc.toList.toArray 0)) v (keyOf H v).1 (keyOf H v).2 := fun v m => by
    rw [ea] at m
    obtain ⟨x, hm, rfl⟩ := List.mem_map.mp m
    obtain ⟨k, hk2⟩ := pk x hm
    obtain ⟨_, its2, r2, o2, ho2, hc2, n2, hd2⟩ := I1.hok _ _ hk2
    obtain ⟨u1, u2, rfl, ri, rj⟩ := vals2 r2
    obtain ⟨t1, rfl⟩ := ri
    obtain ⟨t2, rfl⟩ := rj
    have e : keyOf H (Value.ref x.2.1) = k := keyAt_of hk2
    rw [e]
    exact ⟨x.2.1, o2, t1, t2, n2, rfl, Heap.get?_push_of_some _ ho2, hc2, hd2⟩
  refine wpAny_bind (wpAny_holding (wpAny_call_entry PyProof.Rows.slot_list_sort ⟨_, hoL, rfl⟩ PyProof.Rows.entry_list_sort
    (SrtO.list_sort_ord (s := { s with heap := h'.push (seqObj "list" acc.toList.toArray 0), toks := tk }) (SrtO.swo_lex (keyOf H)) hoL (by rw [hal]; omega)
      (fun h2 => SrtO.pairs_sortableO (by omega) pair fun o1 e c => ?_) fun out h1 h2 => ⟨_, rfl, ?_⟩)
    (PyProof.Rows.args_list_sort _)))
  · have e' : some o1 = some (seqObj "list" acc.toList.toArray 0) := e.symm.trans hoL
    cases e'
    exact absurd (Value.type.inj c) (by decide)
  obtain ⟨e', he'⟩ := PyProof.Rows.sortedHeap_at (vs := acc.toList) (out := out.toArray) hoL
  have hm : ∀ u ∈ out, ∃ x ∈ ps, u = Value.ref x.2.1 := fun u hu => by
    have := h2.perm.mem_iff.mp hu
    rw [ea] at this
    obtain ⟨x, hx, e⟩ := List.mem_map.mp this
    exact ⟨x, hx, e.symm⟩
  obtain ⟨bs, rfl⟩ := refs_of (us := out) fun u hu => by
    obtain ⟨x, _, e⟩ := hm u hu
    exact ⟨_, e⟩
  have hb : ∀ b ∈ bs, ∃ k : Int × Int, PairAt H k b := fun b hb => by
    obtain ⟨x, hx, e⟩ := hm _ (List.mem_map.mpr ⟨b, hb, rfl⟩)
    cases e
    exact pk x hx
  have ev : (bs.map Value.ref).map (keyOf H) = bs.map (keyAt H) := by
    rw [List.map_map]
    rfl
  have hp : (bs.map (keyAt H)).Perm ks := by
    have := h2.perm.map (keyOf H)
    rw [ev, ea, List.map_map] at this
    rw [← ek]
    exact this
  have hsr : (bs.map (keyAt H)).Pairwise fun x y => SrtO.lexB y x = false := by
    rw [← ev]
    exact SrtO.srtd_map (f := keyOf H) (lt := SrtO.lexB) h1
  have hlen : (bs.map V.ref).length ≤ sizeLine := by
    have := h2.perm.length_eq
    rw [List.length_map] at this
    rw [List.length_map]
    omega
  refine wpAny_pure ⟨_, rfl, .ref h'.objs.size, upd H h'.objs.size (.lst (bs.map V.ref)), I1.laid (t' := tk) (fun b u e => ?_) (Nat.le_refl _)
    (show ObjOk X.prog X.w _ _ _ (.lst (bs.map V.ref)) from ⟨hlen, bs.map Value.ref, e', vals_refs bs, he'⟩), rfl, q _ bs _ hp hsr (paired_of hb) (I1.hok.fresh (Nat.le_refl _))⟩
  have hb : b < h'.objs.size := Heap.lt_size e
  rw [PyProof.Rows.sortedHeap_old (Nat.ne_of_lt hb) (by rw [size_push']; exact Nat.lt_succ_of_lt hb)]
  exact Heap.get?_push_of_some _ e
end
end SDT
namespace PM
/-- terms: the pair of exponents and the coefficient -/
abbrev Ex := Int × Int
abbrev Trm := Ex × Int
def ltE (p q : Ex) : Prop := p.1 < q.1 ∨ (p.1 = q.1 ∧ p.2 < q.2)
instance (p q : Ex) : Decidable (ltE p q) := by
  unfold ltE
  exact inferInstance
theorem ltE_trans {p q r : Ex} (h : ltE p q) (k : ltE q r) : ltE p r := by
  unfold ltE at *
  omega
theorem ltE_irr {p : Ex} : ¬ ltE p p := by
  unfold ltE
  omega
theorem ltE_ne {p q : Ex} (h : ltE p q) : p ≠ q := fun e => by
  subst e
  exact ltE_irr h
theorem ltE_or {p q : Ex} (h : ¬ ltE p q) (k : p ≠ q) : ltE q p := by
  unfold ltE at *
  have k : ¬ (p.1 = q.1 ∧ p.2 = q.2) := fun z => k (Prod.ext z.1 z.2)
  omega
/-- the value of a list of terms under a weighing of the exponents -/
def lin (f : Ex → Int) : List Trm → Int
  | [] => 0
  | t :: r => t.2 * f t.1 + lin f r
def Eqv (p q : List Trm) : Prop := ∀ f, lin f p = lin f q
theorem Eqv.refl (p : List Trm) : Eqv p p := fun _ => rfl
theorem Eqv.symm {p q : List Trm} (h : Eqv p q) : Eqv q p := fun f => (h f).symm
theorem Eqv.trans {p q r : List Trm} (h : Eqv p q) (k : Eqv q r) : Eqv p r := fun f => (h f).trans (k f)
theorem lin_append (f : Ex → Int) : ∀ p q : List Trm, lin f (p ++ q) = lin f p + lin f q
  | [], q => by simp [lin]
  | t :: r, q => by
    simp only [List.cons_append, lin, lin_append f r q]
    omega
theorem Eqv.append {p p' q q' : List Trm} (h : Eqv p p') (k : Eqv q q') : Eqv (p ++ q) (p' ++ q') := fun f => by
  rw [lin_append, lin_append, h f, k f]
theorem Eqv.perm {p q : List Trm} (h : p.Perm q) : Eqv p q := fun f => by
  induction h with
  | nil => rfl
  | cons x _ ih => simp only [lin, ih]
  | swap x y l =>
    simp only [lin]
    omega
  | trans _ _ a b => exact a.trans b
/-- strictly ascending, no coefficient 0 -/
def Canon (p : List Trm) : Prop := p.Pairwise (fun s t => ltE s.1 t.1) ∧ ∀ t ∈ p, t.2 ≠ 0
theorem lin_zero {f : Ex → Int} : ∀ {p : List Trm}, (∀ t ∈ p, f t.1 = 0) → lin f p = 0
  | [], _ => rfl
  | t :: r, h => by
    rw [lin, h t List.mem_cons_self, lin_zero (p := r) fun s hs => h s (List.mem_cons_of_mem _ hs)]
    simp
theorem canon_uniq : ∀ {p q : List Trm}, Canon p → Canon q → Eqv p q → p = q
  | [], [], _, _, _ => rfl
  | [], t :: r, _, hq, h => by
    exfalso
    have e := h fun x => if x = t.1 then 1 else 0
    have z : lin (fun x => if x = t.1 then (1 : Int) else 0) r = 0 := lin_zero fun s hs => if_neg (ltE_ne ((List.pairwise_cons.mp hq.1).1 s hs)).symm
    simp only [lin, z, if_pos] at e
    exact hq.2 t List.mem_cons_self (by omega)
  | t :: r, [], hp, _, h => by
    exfalso
    have e := h fun x => if x = t.1 then 1 else 0
    have z : lin (fun x => if x = t.1 then (1 : Int) else 0) r = 0 := lin_zero fun s hs => if_neg (ltE_ne ((List.pairwise_cons.mp hp.1).1 s hs)).symm
    simp only [lin, z, if_pos] at e
    exact hp.2 t List.mem_cons_self (by omega)
  | t :: r, u :: w, hp, hq, h => by
    have p1 := List.pairwise_cons.mp hp.1
    have q1 := List.pairwise_cons.mp hq.1
    have key : t.1 = u.1 := by
      by_cases e : t.1 = u.1
      · exact e
      · exfalso
        by_cases l : ltE t.1 u.1
        · have z1 : lin (fun x => if x = t.1 then (1 : Int) else 0) r = 0 := lin_zero fun s hs => if_neg (ltE_ne (p1.1 s hs)).symm
          have z2 : lin (fun x => if x = t.1 then (1 : Int) else 0) (u :: w) = 0 := lin_zero fun s hs => by
            refine if_neg (Ne.symm ?_)
            rcases List.mem_cons.mp hs with rfl | hs
            · exact e
            · exact ltE_ne (ltE_trans l (q1.1 s hs))
          have e2 := h fun x => if x = t.1 then 1 else 0
          rw [z2] at e2
          simp only [lin, z1, if_pos] at e2
          exact hp.2 t List.mem_cons_self (by omega)
        · have l := ltE_or l e
          have z1 : lin (fun x => if x = u.1 then (1 : Int) else 0) w = 0 := lin_zero fun s hs => if_neg (ltE_ne (q1.1 s hs)).symm
          have z2 : lin (fun x => if x = u.1 then (1 : Int) else 0) (t :: r) = 0 := lin_zero fun s hs => by
            refine if_neg (Ne.symm ?_)
            rcases List.mem_cons.mp hs with rfl | hs
            · exact Ne.symm e
            · exact ltE_ne (ltE_trans l (p1.1 s hs))
          have e2 := h fun x => if x = u.1 then 1 else 0
          rw [z2] at e2
          simp only [lin, z1, if_pos] at e2
          exact hq.2 u List.mem_cons_self (by omega)
    have z1 : lin (fun x => if x = t.1 then (1 : Int) else 0) r = 0 := lin_zero fun s hs => if_neg (ltE_ne (p1.1 s hs)).symm
    have z2 : lin (fun x => if x = t.1 then (1 : Int) else 0) w = 0 := lin_zero fun s hs => if_neg (by rw [key]; exact (ltE_ne (q1.1 s hs)).symm)
    have e2 := h fun x => if x = t.1 then 1 else 0
    simp only [lin, z1, z2] at e2
    simp only [if_true, if_pos key.symm] at e2
    have ec : t.2 = u.2 := by omega
    have et : t = u := Prod.ext key ec
    have er : Eqv r w := fun f => by
      have e3 := h f
      simp only [lin, et] at e3
      omega
    rw [et, canon_uniq ⟨p1.2, fun s hs => hp.2 s (List.mem_cons_of_mem _ hs)⟩ ⟨q1.2, fun s hs => hq.2 s (List.mem_cons_of_mem _ hs)⟩ er]
/-- a term put into a list in order -/
def ins (t : Trm) : List Trm → List Trm
  | [] => if t.2 = 0 then [] else [t]
  | u :: r => if ltE t.1 u.1 then (if t.2 = 0 then u :: r else t :: u :: r) else if t.1 = u.1 then (if t.2 + u.2 = 0 then r else (t.1, t.2 + u.2) :: r) else u :: ins t r
def canon (ts : List Trm) : List Trm := ts.foldr ins []
theorem lin_ins (f : Ex → Int) (t : Trm) : ∀ p : List Trm, lin f (ins t p) = t.2 * f t.1 + lin f p
  | [] => by
    unfold ins
    split
    · rename_i h
      rw [h]
      simp [lin]
    · simp [lin]
  | u :: r => by
    unfold ins
    split
    · split
      · rename_i h
        rw [h]
        simp
      · simp [lin]
    · split
      · rename_i e
        split
        · rename_i h
          simp only [lin]
          rw [← e]
          have : t.2 * f t.1 + u.2 * f t.1 = 0 := by
            rw [← Int.add_mul, h, Int.zero_mul]
          omega
        · simp only [lin]
          rw [← e, Int.add_mul]
          omega
      · simp only [lin, lin_ins f t r]
        omega
theorem eqv_canon (ts : List Trm) : Eqv (canon ts) ts := fun f => by
  induction ts with
  | nil => rfl
  | cons t r ih =>
    show lin f (ins t (canon r)) = _
    rw [lin_ins, ih]
    rfl
theorem mem_ins {t s : Trm} : ∀ {p : List Trm}, s ∈ ins t p → s.1 = t.1 ∨ s ∈ p
  | [], h => by
    unfold ins at h
    split at h
    · cases h
    · rw [List.mem_singleton] at h
      exact .inl (by rw [h])
  | u :: r, h => by
    unfold ins at h
    split at h
    · split at h
      · exact .inr h
      · rcases List.mem_cons.mp h with h | h
        · exact .inl (by rw [h])
        · exact .inr h
    · split at h
      · split at h
        · exact .inr (List.mem_cons_of_mem _ h)
        · rcases List.mem_cons.mp h with h | h
          · exact .inl (by rw [h])
          · exact .inr (List.mem_cons_of_mem _ h)
      · rcases List.mem_cons.mp h with h | h
        · exact .inr (h ▸ List.mem_cons_self)
        · rcases mem_ins h with h | h
          · exact .inl h
          · exact .inr (List.mem_cons_of_mem _ h)
theorem canon_ins {t : Trm} : ∀ {p : List Trm}, Canon p → Canon (ins t p)
  | [], _ => by
    unfold ins
    split
    · exact ⟨List.Pairwise.nil, fun s hs => by cases hs⟩
    · rename_i h
      exact ⟨List.pairwise_singleton _ _, fun s hs => by
        rw [List.mem_singleton] at hs
        rw [hs]
        exact h⟩
  | u :: r, hp => by
    have p1 := List.pairwise_cons.mp hp.1
    have tl : Canon r := ⟨p1.2, fun s hs => hp.2 s (List.mem_cons_of_mem _ hs)⟩
    unfold ins
    split
    · rename_i l
      split
      · exact hp
      · rename_i h
        refine ⟨List.pairwise_cons.mpr ⟨fun s hs => ?_, hp.1⟩, fun s hs => ?_⟩
        · rcases List.mem_cons.mp hs with rfl | hs
          · exact l
          · exact ltE_trans l (p1.1 s hs)
        · rcases List.mem_cons.mp hs with rfl | hs
          · exact h
          · exact hp.2 s hs
    · rename_i l
      split
      · rename_i e
        split
        · exact tl
        · rename_i h
          refine ⟨List.pairwise_cons.mpr ⟨fun s hs => ?_, p1.2⟩, fun s hs => ?_⟩
          · show ltE t.1 s.1
            rw [e]
            exact p1.1 s hs
          · rcases List.mem_cons.mp hs with rfl | hs
            · exact h
            · exact hp.2 s (List.mem_cons_of_mem _ hs)
      · rename_i e
        have ih := canon_ins (t := t) tl
        refine ⟨List.pairwise_cons.mpr ⟨fun s hs => ?_, ih.1⟩, fun s hs => ?_⟩
        · rcases mem_ins hs with h | h
          · rw [h]
            exact ltE_or l e
          · exact p1.1 s h
        · rcases List.mem_cons.mp hs with rfl | hs
          · exact hp.2 s List.mem_cons_self
          · exact ih.2 s hs
theorem canon_canon (ts : List Trm) : Canon (canon ts) := by
  induction ts with
  | nil => exact ⟨List.Pairwise.nil, fun s hs => by cases hs⟩
  | cons t r ih => exact canon_ins ih
theorem canon_of {p ts : List Trm} (h : Canon p) (e : Eqv p ts) : p = canon ts := canon_uniq h (canon_canon ts) (e.trans (eqv_canon ts).symm)
theorem canon_congr {p q : List Trm} (h : Eqv p q) : canon p = canon q := canon_uniq (canon_canon p) (canon_canon q) ((eqv_canon p).trans (h.trans (eqv_canon q).symm))
theorem canon_self {p : List Trm} (h : Canon p) : canon p = p := (canon_of h (Eqv.refl p)).symm
/-! products -/
def addE (p q : Ex) : Ex := (p.1 + q.1, p.2 + q.2)
def mulT (p q : List Trm) : List Trm := p.flatMap fun x => q.map fun y => (addE x.1 y.1, x.2 * y.2)
theorem lin_scale (f : Ex → Int) (x : Trm) : ∀ q : List Trm, lin f (q.map fun y => (addE x.1 y.1, x.2 * y.2)) = x.2 * lin (fun y => f (addE x.1 y)) q
  | [] => by simp [lin]
  | y :: r => by
    simp only [List.map_cons, lin, lin_scale f x r]
    rw [Int.mul_add, Int.mul_assoc]
theorem lin_mul (f : Ex → Int) (q : List Trm) : ∀ p : List Trm, lin f (mulT p q) = lin (fun x => lin (fun y => f (addE x y)) q) p
  | [] => rfl
  | x :: r => by
    show lin f ((q.map fun y => (addE x.1 y.1, x.2 * y.2)) ++ mulT r q) = _
    rw [lin_append, lin_scale, lin_mul f q r]
    rfl
theorem lin_congr {f g : Ex → Int} (h : ∀ x, f x = g x) (p : List Trm) : lin f p = lin g p := by
  rw [show f = g from funext h]
theorem lin_add (f g : Ex → Int) : ∀ p : List Trm, lin (fun x => f x + g x) p = lin f p + lin g p
  | [] => by simp [lin]
  | t :: r => by
    simp only [lin, lin_add f g r]
    rw [Int.mul_add]
    omega
theorem lin_smul (c : Int) (f : Ex → Int) : ∀ p : List Trm, lin (fun x => c * f x) p = c * lin f p
  | [] => by simp [lin]
  | t :: r => by
    simp only [lin, lin_smul c f r]
    rw [Int.mul_add, Int.mul_left_comm]
theorem lin_const0 : ∀ p : List Trm, lin (fun _ => 0) p = 0
  | [] => rfl
  | t :: r => by simp [lin, lin_const0 r]
theorem lin_swap (g : Ex → Ex → Int) (q : List Trm) : ∀ p : List Trm, lin (fun x => lin (fun y => g x y) q) p = lin (fun y => lin (fun x => g x y) p) q
  | [] => by simp only [lin, lin_const0]
  | t :: r => by
    simp only [lin]
    rw [lin_swap g q r, lin_add, lin_smul]
theorem Eqv.mul {p p' q q' : List Trm} (h : Eqv p p') (k : Eqv q q') : Eqv (mulT p q) (mulT p' q') := fun f => by
  rw [lin_mul, lin_mul, h, lin_congr fun x => k _]
theorem mul_comm (p q : List Trm) : Eqv (mulT p q) (mulT q p) := fun f => by
  rw [lin_mul, lin_mul, lin_swap]
  refine lin_congr (fun y => lin_congr (fun x => ?_) _) _
  unfold addE
  rw [Int.add_comm, Int.add_comm x.2]
theorem mul_assoc (p q r : List Trm) : Eqv (mulT (mulT p q) r) (mulT p (mulT q r)) := fun f => by
  rw [lin_mul, lin_mul, lin_mul]
  refine lin_congr (fun x => ?_) _
  rw [lin_mul]
  refine lin_congr (fun y => lin_congr (fun z => ?_) _) _
  unfold addE
  simp only [Int.add_assoc]
def one : List Trm := [((0, 0), 1)]
theorem one_mul (p : List Trm) : Eqv (mulT one p) p := fun f => by
  rw [lin_mul]
  show (1 : Int) * lin _ p + 0 = _
  rw [Int.one_mul, Int.add_zero]
  refine lin_congr (fun y => ?_) _
  unfold addE
  simp
/-- powers -/
def pw (p : List Trm) : Nat → List Trm
  | 0 => one
  | n + 1 => mulT (pw p n) p
theorem pw_add (p : List Trm) (i : Nat) : ∀ j, Eqv (mulT (pw p i) (pw p j)) (pw p (i + j))
  | 0 => (mul_comm _ _).trans (one_mul _)
  | j + 1 => (mul_assoc _ _ _).symm.trans (Eqv.mul (pw_add p i j) (Eqv.refl p))
theorem pw_congr {p q : List Trm} (h : Eqv p q) : ∀ n, Eqv (pw p n) (pw q n)
  | 0 => Eqv.refl _
  | n + 1 => Eqv.mul (pw_congr h n) h
/-! the size of coefficients -/
def norm : List Trm → Nat
  | [] => 0
  | t :: r => t.2.natAbs + norm r
theorem norm_append : ∀ p q : List Trm, norm (p ++ q) = norm p + norm q
  | [], q => by simp [norm]
  | t :: r, q => by
    simp only [List.cons_append, norm, norm_append r q]
    omega
theorem norm_ins (t : Trm) : ∀ p : List Trm, norm (ins t p) ≤ t.2.natAbs + norm p
  | [] => by
    unfold ins
    split <;> simp [norm]
  | u :: r => by
    unfold ins
    split
    · split <;> simp [norm]
    · split
      · split
        · simp only [norm]
          omega
        · simp only [norm]
          omega
      · have := norm_ins t r
        simp only [norm]
        omega
theorem norm_canon : ∀ ts : List Trm, norm (canon ts) ≤ norm ts
  | [] => Nat.le_refl _
  | t :: r => by
    show norm (ins t (canon r)) ≤ _
    have h1 := norm_ins t (canon r)
    have h2 := norm_canon r
    simp only [norm]
    omega
theorem norm_scale (x : Trm) : ∀ q : List Trm, norm (q.map fun y => (addE x.1 y.1, x.2 * y.2)) = x.2.natAbs * norm q
  | [] => by simp [norm]
  | y :: r => by
    simp only [List.map_cons, norm, norm_scale x r]
    rw [Nat.mul_add, Int.natAbs_mul]
theorem norm_mul (q : List Trm) : ∀ p : List Trm, norm (mulT p q) = norm p * norm q
  | [] => by simp [norm, mulT]
  | x :: r => by
    show norm ((q.map fun y => (addE x.1 y.1, x.2 * y.2)) ++ mulT r q) = _
    rw [norm_append, norm_scale, norm_mul q r]
    simp only [norm]
    rw [Nat.add_mul]
theorem norm_mem {t : Trm} : ∀ {p : List Trm}, t ∈ p → t.2.natAbs ≤ norm p
  | u :: r, h => by
    rcases List.mem_cons.mp h with rfl | h
    · simp only [norm]
      omega
    · have := norm_mem h
      simp only [norm]
      omega
theorem length_canon_le : ∀ ts : List Trm, (canon ts).length ≤ ts.length
  | [] => Nat.le_refl _
  | t :: r => by
    have h : ∀ p : List Trm, (ins t p).length ≤ p.length + 1 := by
      intro p
      induction p with
      | nil =>
        unfold ins
        split <;> simp
      | cons u w ih =>
        unfold ins
        split
        · split <;> simp
        · split
          · split <;> simp <;> omega
          · simp only [List.length_cons]
            omega
    have h2 := length_canon_le r
    have h3 := h (canon r)
    show (ins t (canon r)).length ≤ _
    simp only [List.length_cons]
    omega
theorem length_mul (p q : List Trm) : (mulT p q).length = p.length * q.length := by
  induction p with
  | nil => simp [mulT]
  | cons x r ih =>
    show ((q.map fun y => (addE x.1 y.1, x.2 * y.2)) ++ mulT r q).length = _
    rw [List.length_append, List.length_map, ih, List.length_cons, Nat.add_mul]
    omega
/-! a dict that gathers: pairs in the order in which they came, no key twice -/
def look (d : List Trm) (k : Ex) : Int := match d.find? (fun p => decide (p.1 = k)) with
  | some p => p.2
  | none => 0
def put (d : List Trm) (k : Ex) (v : Int) : List Trm := if d.any (fun p => decide (p.1 = k)) then d.map (fun p => if p.1 = k then (p.1, v) else p) else d ++ [(k, v)]
def addTo (d : List Trm) (t : Trm) : List Trm := put d t.1 (look d t.1 + t.2)
def gather (ts : List Trm) : List Trm := ts.foldl addTo []
def keys (d : List Trm) : List Ex := d.map (·.1)
theorem keys_put (d : List Trm) (k : Ex) (v : Int) : keys (put d k v) = if k ∈ keys d then keys d else keys d ++ [k] := by
  have h : (d.any fun p => decide (p.1 = k)) = true ↔ k ∈ keys d := by
    rw [List.any_eq_true]
    unfold keys
    constructor
    · rintro ⟨p, hp, e⟩
      exact List.mem_map.mpr ⟨p, hp, of_decide_eq_true e⟩
    · intro h
      obtain ⟨p, hp, e⟩ := List.mem_map.mp h
      exact ⟨p, hp, decide_eq_true e⟩
  unfold put
  by_cases hk : k ∈ keys d
  · rw [if_pos (h.mpr hk), if_pos hk]
    unfold keys
    rw [List.map_map]
    refine List.map_congr_left fun p _ => ?_
    show (if p.1 = k then (p.1, v) else p).1 = p.1
    split <;> rfl
  · rw [if_neg (fun z => hk (h.mp z)), if_neg hk]
    unfold keys
    rw [List.map_append]
    rfl
theorem nodup_put {d : List Trm} (h : (keys d).Nodup) (k : Ex) (v : Int) : (keys (put d k v)).Nodup := by
  rw [keys_put]
  split
  · exact h
  · rename_i hk
    rw [List.nodup_append]
    refine ⟨h, List.pairwise_singleton _ _, fun a ha b hb => ?_⟩
    rw [List.mem_singleton] at hb
    rw [hb]
    exact fun e => hk (e ▸ ha)
theorem look_none {d : List Trm} {k : Ex} (h : k ∉ keys d) : look d k = 0 := by
  unfold look
  rw [List.find?_eq_none.mpr]
  intro p hp e
  exact h (List.mem_map.mpr ⟨p, hp, of_decide_eq_true e⟩)
theorem look_cons (p : Trm) (d : List Trm) (k : Ex) : look (p :: d) k = if p.1 = k then p.2 else look d k := by
  unfold look
  rw [List.find?_cons]
  by_cases h : p.1 = k
  · simp [h]
  · simp [h]
theorem lin_map_put (f : Ex → Int) (k : Ex) (v : Int) : ∀ {d : List Trm}, (keys d).Nodup → k ∈ keys d → lin f (d.map fun p => if p.1 = k then (p.1, v) else p) = lin f d + (v - look d k) * f k
  | [], _, h => by simp [keys] at h
  | p :: r, hn, hk => by
    have n1 : p.1 ∉ keys r ∧ (keys r).Nodup := List.nodup_cons.mp hn
    rw [look_cons]
    simp only [List.map_cons, lin]
    by_cases e : p.1 = k
    · rw [if_pos e, if_pos e]
      have z : r.map (fun p => if p.1 = k then (p.1, v) else p) = r := by
        refine (List.map_congr_left fun q hq => if_neg fun z => n1.1 (List.mem_map.mpr ⟨q, hq, by rw [z, e]⟩)).trans (List.map_id' r)
      rw [z, ← e, Int.sub_mul]
      show v * f p.1 + lin f r = _
      omega
    · have hk2 : k ∈ keys r := by
        rcases List.mem_cons.mp (show k ∈ p.1 :: keys r from hk) with z | z
        · exact absurd z.symm e
        · exact z
      rw [if_neg e, if_neg e, lin_map_put f k v n1.2 hk2]
      omega
theorem lin_put (f : Ex → Int) {d : List Trm} (hn : (keys d).Nodup) (k : Ex) (v : Int) : lin f (put d k v) = lin f d + (v - look d k) * f k := by
  have h : (d.any fun p => decide (p.1 = k)) = true ↔ k ∈ keys d := by
    rw [List.any_eq_true]
    unfold keys
    constructor
    · rintro ⟨p, hp, e⟩
      exact List.mem_map.mpr ⟨p, hp, of_decide_eq_true e⟩
    · intro h
      obtain ⟨p, hp, e⟩ := List.mem_map.mp h
      exact ⟨p, hp, decide_eq_true e⟩
  unfold put
  by_cases hk : k ∈ keys d
  · rw [if_pos (h.mpr hk), lin_map_put f k v hn hk]
  · rw [if_neg (fun z => hk (h.mp z)), lin_append, look_none hk]
    simp [lin]
theorem gather_go (f : Ex → Int) : ∀ (ts d : List Trm), (keys d).Nodup → (keys (ts.foldl addTo d)).Nodup ∧ lin f (ts.foldl addTo d) = lin f d + lin f ts
  | [], d, h => ⟨h, by simp [lin]⟩
  | t :: r, d, h => by
    have n := nodup_put h t.1 (look d t.1 + t.2)
    obtain ⟨h1, h2⟩ := gather_go f r (addTo d t) n
    refine ⟨h1, ?_⟩
    show lin f (r.foldl addTo (addTo d t)) = _
    rw [h2]
    unfold addTo
    rw [lin_put f h]
    simp only [lin]
    rw [show look d t.1 + t.2 - look d t.1 = t.2 by omega]
    omega
theorem gather_nodup (ts : List Trm) : (keys (gather ts)).Nodup := (gather_go (fun _ => 0) ts [] List.nodup_nil).1
theorem gather_eqv (ts : List Trm) : Eqv (gather ts) ts := fun f => by
  have h := (gather_go f ts [] List.nodup_nil).2
  simp only [lin] at h
  unfold gather
  omega
theorem length_put (d : List Trm) (k : Ex) (v : Int) : (put d k v).length ≤ d.length + 1 := by
  unfold put
  split
  · rw [List.length_map]
    omega
  · rw [List.length_append]
    exact Nat.le_refl _
theorem length_gather_go : ∀ (ts d : List Trm), (ts.foldl addTo d).length ≤ d.length + ts.length
  | [], d => Nat.le_refl _
  | t :: r, d => by
    have h1 := length_gather_go r (addTo d t)
    have h2 : (addTo d t).length ≤ d.length + 1 := length_put _ _ _
    show (r.foldl addTo (addTo d t)).length ≤ _
    simp only [List.length_cons]
    omega
theorem look_of_mem : ∀ {d : List Trm} {p : Trm}, (keys d).Nodup → p ∈ d → look d p.1 = p.2
  | q :: r, p, hn, hp => by
    have n1 : q.1 ∉ keys r ∧ (keys r).Nodup := List.nodup_cons.mp hn
    rw [look_cons]
    rcases List.mem_cons.mp hp with rfl | hp
    · rw [if_pos rfl]
    · rw [if_neg (fun e => n1.1 (List.mem_map.mpr ⟨p, hp, e.symm⟩)), look_of_mem n1.2 hp]
/-- what is read off by keys in order -/
def read (d : List Trm) (ks : List Ex) : List Trm := (ks.filter fun k => decide (look d k ≠ 0)).map fun k => (k, look d k)
theorem lin_read (f : Ex → Int) (d : List Trm) : ∀ ks : List Ex, lin f (read d ks) = lin f (ks.map fun k => (k, look d k))
  | [] => rfl
  | k :: r => by
    have ih := lin_read f d r
    unfold read at *
    rw [List.filter_cons]
    by_cases h : look d k = 0
    · simp only [h, ne_eq, not_true_eq_false, decide_false, Bool.false_eq_true, if_false, List.map_cons, lin]
      rw [ih]
      simp
    · rw [if_pos (decide_eq_true h)]
      simp only [List.map_cons, lin, ih]
theorem map_look {d : List Trm} (hn : (keys d).Nodup) : (keys d).map (fun k => (k, look d k)) = d := by
  unfold keys
  rw [List.map_map]
  refine (List.map_congr_left fun p hp => ?_).trans (List.map_id' d)
  show (p.1, look d p.1) = p
  rw [look_of_mem hn hp]
theorem read_canon {ts d : List Trm} {ks : List Ex} (hn : (keys d).Nodup) (he : Eqv d ts) (hp : ks.Perm (keys d)) (hs : ks.Pairwise fun a b => ¬ ltE b a) : read d ks = canon ts := by
  refine canon_of ⟨?_, fun t ht => ?_⟩ fun f => ?_
  · have h2 : ks.Pairwise ltE := by
      exact (List.Pairwise.and hs (hp.nodup_iff.mpr hn)).imp fun h => ltE_or h.1 (Ne.symm h.2)
    unfold read
    rw [List.pairwise_map]
    exact h2.sublist List.filter_sublist
  · obtain ⟨k, hk, rfl⟩ := List.mem_map.mp ht
    exact of_decide_eq_true (List.mem_filter.mp hk).2
  · rw [lin_read]
    have h3 : (ks.map fun k => (k, look d k)).Perm d := by
      have := hp.map fun k => (k, look d k)
      rw [map_look hn] at this
      exact this
    rw [Eqv.perm h3 f]
    exact he f
end PM
/-! ### heaps that grow: what is no table stays, tables stay tables -/
namespace EXT
open PySem PySem.Spec PyProof.Rows L2 SDT PM
structure Ext (H H' : Hp) : Prop where
  keep : ∀ b x, H b = some x → (∀ ps, x ≠ .tbl ps) → H' b = some x
  tabs : ∀ b ps, H b = some (.tbl ps) → ∃ qs, H' b = some (.tbl qs) ∧ (TriplesOk ps.toList → TriplesOk qs.toList)
theorem Ext.tab {H H' : Hp} (s : Ext H H') {b : Addr} (h : GxR.TabG H b) : GxR.TabG H' b := by
  obtain ⟨ps, h1, h2⟩ := h
  obtain ⟨qs, g1, g2⟩ := s.tabs b ps h1
  exact ⟨qs, g1, g2 h2⟩
theorem Ext.refl (H : Hp) : Ext H H := ⟨fun _ _ e _ => e, fun _ ps h => ⟨ps, h, id⟩⟩
theorem Ext.trans {H H1 H2 : Hp} (a : Ext H H1) (b : Ext H1 H2) : Ext H H2 := ⟨fun c x e n => b.keep c x (a.keep c x e n) n, fun c ps h => by
  obtain ⟨qs, g1, g2⟩ := a.tabs c ps h
  obtain ⟨rs, k1, k2⟩ := b.tabs c qs g1
  exact ⟨rs, k1, fun z => k2 (g2 z)⟩⟩
theorem Ext.own {H H1 : Hp} {d : Addr} {o : HO} (s : Ext H H1) (hd : H d = none) : Ext H (upd H1 d o) := by
  refine ⟨fun b x e n => ?_, fun b ps h => ?_⟩
  · rw [upd_ne (ne_of_none e hd)]
    exact s.keep b x e n
  · obtain ⟨qs, g1, g2⟩ := s.tabs b ps h
    exact ⟨qs, by rw [upd_ne (ne_of_none h hd)]; exact g1, g2⟩
theorem ext_upd {H : Hp} {p : Addr} {o : HO} (h : H p = none) : Ext H (upd H p o) := (Ext.refl H).own h
theorem Ext.new {H H1 : Hp} {p : Addr} {o : HO} (s : Ext H H1) (h : H1 p = none) : Ext H (upd H1 p o) := s.trans (ext_upd h)
theorem ext_tabbed {H H' : Hp} {P : Addr} (t : GxR.TabG H P) (h : GxR.Tabbed P H H') : Ext H H' := by
  obtain ⟨ps, e0, _⟩ := t
  refine ⟨fun b x e n => ?_, fun b qs g => ?_⟩
  · rw [h.2 b (fun z => ?_)]
    · exact e
    · rw [z, e0] at e
      exact n ps (Option.some.inj e).symm
  · by_cases z : b = P
    · obtain ⟨rs, g1, g2⟩ := h.1
      rw [z]
      exact ⟨rs, g1, fun _ => g2⟩
    · exact ⟨qs, by rw [h.2 b z]; exact g, id⟩
theorem Ext.tabbed {H H1 H2 : Hp} {P : Addr} (s : Ext H H1) (t : GxR.TabG H1 P) (h : GxR.Tabbed P H1 H2) : Ext H H2 := s.trans (ext_tabbed t h)
theorem Ext.free {H H' : Hp} {p : Addr} (s : Ext H H') (h : H' p = none) : H p = none := by
  cases e : H p with
  | none => rfl
  | some x =>
    cases x with
    | tbl ps =>
      obtain ⟨qs, g, _⟩ := s.tabs p ps e
      rw [h] at g
      cases g
    | _ =>
      have := s.keep p _ e (fun ps z => by cases z)
      rw [h] at this
      cases this
theorem _root_.L2.Same.ext {H H' : Hp} (s : Same H H') : Ext H H' := ⟨fun b x e _ => s b x e, fun b ps e => ⟨ps, s _ _ e, id⟩⟩
section
variable {K : PySem.W.Frag} {H H' : Hp} (s : Ext H H')
include s
theorem Ext.rdL {a : Addr} {xs : List V} (h : Rd H a (.lst xs)) : Rd H' a (.lst xs) := by
  rcases h with h | ⟨o, h⟩
  · exact .inl (s.keep _ _ h (fun _ z => by cases z))
  · exact .inr ⟨o, s.keep _ _ h (fun _ z => by cases z)⟩
theorem Ext.rdT {a : Addr} {xs : List V} (h : Rd H a (.tup xs)) : Rd H' a (.tup xs) := by
  rcases h with h | ⟨o, h⟩
  · exact .inl (s.keep _ _ h (fun _ z => by cases z))
  · exact .inr ⟨o, s.keep _ _ h (fun _ z => by cases z)⟩
theorem Ext.seq {a : Addr} {xs : List V} (h : SqL K H a xs) : SqL K H' a xs := h.imp s.rdL id
theorem Ext.tup {a : Addr} {xs : List V} (h : SqT K H a xs) : SqT K H' a xs := h.imp s.rdT id
theorem Ext.at {a : Addr} {xs : List V} (h : H a = some (.tup xs)) : H' a = some (.tup xs) := s.keep _ _ h (fun _ z => by cases z)
theorem Ext.dt {a : Addr} {xs : List (List Key × V)} (h : H a = some (.dT xs)) : H' a = some (.dT xs) := s.keep _ _ h (fun _ z => by cases z)
theorem Ext.lst {a : Addr} {xs : List V} (h : H a = some (.lst xs)) : H' a = some (.lst xs) := s.keep _ _ h (fun _ z => by cases z)
end
mutual
theorem dp_ext {K : PySem.W.Frag} {H H' : Hp} (s : Ext H H') : ∀ {v : V} {d : PyData}, Dp K H v d → Dp K H' v d
  | _, _, .non => .non
  | _, _, .bl b => .bl b
  | _, _, .int i => .int i
  | _, _, .str x => .str x
  | _, _, .lst h t => .lst (s.seq h) (dpAll_ext s t)
  | _, _, .tup h t => .tup (s.tup h) (dpAll_ext s t)
theorem dpAll_ext {K : PySem.W.Frag} {H H' : Hp} (s : Ext H H') : ∀ {vs : List V} {ds : List PyData}, DpAll K H vs ds → DpAll K H' vs ds
  | _, _, .nil => .nil
  | _, _, .cons h t => .cons (dp_ext s h) (dpAll_ext s t)
end
theorem Ext.pairs {H H' : Hp} (s : Ext H H') : ∀ {ks : List (Int × Int)} {bs : List Addr}, Paired (PairAt H) ks bs → Paired (PairAt H') ks bs
  | _, _, .nil => .nil
  | _, _, .cons h t => .cons (s.at h) (s.pairs t)
/-! ### terms and polynomials in the heap -/
/-- v is the term t -/
def TermAt (K : PySem.W.Frag) (H : Hp) (v : V) (t : Trm) : Prop := ∃ a b, v = .ref a ∧ SqT K H a [.ref b, .int t.2] ∧ SqT K H b [.int t.1.1, .int t.1.2]
/-- the same, the key known to be one -/
def TermT (H : Hp) (v : V) (t : Trm) : Prop := ∃ a b, v = .ref a ∧ H a = some (.tup [.ref b, .int t.2]) ∧ PairAt H t.1 b
theorem TermT.at {K : PySem.W.Frag} {H : Hp} {v : V} {t : Trm} (h : TermT H v t) : TermAt K H v t := by
  obtain ⟨a, b, e, h1, h2⟩ := h
  exact ⟨a, b, e, .inl (.inl h1), .inl (.inl h2)⟩
theorem Ext.termT {H H' : Hp} (s : Ext H H') {v : V} {t : Trm} (h : TermT H v t) : TermT H' v t := by
  obtain ⟨a, b, e, h1, h2⟩ := h
  exact ⟨a, b, e, s.at h1, s.at h2⟩
theorem Ext.term {K : PySem.W.Frag} {H H' : Hp} (s : Ext H H') {v : V} {t : Trm} (h : TermAt K H v t) : TermAt K H' v t := by
  obtain ⟨a, b, e, h1, h2⟩ := h
  exact ⟨a, b, e, s.tup h1, s.tup h2⟩
theorem paired_imp {α β : Type} {R R' : α → β → Prop} (h : ∀ a b, R a b → R' a b) : ∀ {as : List α} {bs : List β}, Paired R as bs → Paired R' as bs
  | _, _, .nil => .nil
  | _, _, .cons x t => .cons (h _ _ x) (paired_imp h t)
/-- the item of a pairing at a place -/
theorem paired_at {α β : Type} {R : α → β → Prop} : ∀ {as : List α} {bs : List β} {i : Nat} {a : α}, Paired R as bs → as[i]? = some a → ∃ b, bs[i]? = some b ∧ R a b
  | _, _, _, _, .nil, h => by simp at h
  | _, _, 0, _, .cons x t, h => by
    simp only [List.getElem?_cons_zero, Option.some.injEq] at h
    subst h
    exact ⟨_, rfl, x⟩
  | _, _, i + 1, _, .cons x t, h => by
    simp only [List.getElem?_cons_succ] at h
    obtain ⟨b, h1, h2⟩ := paired_at t h
    exact ⟨b, by simpa using h1, h2⟩
theorem paired_app {α β : Type} {R : α → β → Prop} : ∀ {as : List α} {bs : List β} {as' : List α} {bs' : List β}, Paired R as bs → Paired R as' bs' → Paired R (as ++ as') (bs ++ bs')
  | _, _, _, _, .nil, k => k
  | _, _, _, _, .cons x t, k => .cons x (paired_app t k)
theorem paired_snoc {α β : Type} {R : α → β → Prop} {as : List α} {bs : List β} {a : α} {b : β} (h : Paired R as bs) (x : R a b) : Paired R (as ++ [a]) (bs ++ [b]) := paired_app h (.cons x .nil)
/-- vs are the terms ts -/
abbrev Terms (K : PySem.W.Frag) (H : Hp) (vs : List V) (ts : List Trm) : Prop := Paired (TermAt K H) vs ts
abbrev TermsT (H : Hp) (vs : List V) (ts : List Trm) : Prop := Paired (TermT H) vs ts
theorem Ext.terms {K : PySem.W.Frag} {H H' : Hp} (s : Ext H H') {vs : List V} {ts : List Trm} (h : Terms K H vs ts) : Terms K H' vs ts := paired_imp (fun _ _ => s.term) h
theorem Ext.termsT {H H' : Hp} (s : Ext H H') {vs : List V} {ts : List Trm} (h : TermsT H vs ts) : TermsT H' vs ts := paired_imp (fun _ _ => s.termT) h
theorem terms_of {K : PySem.W.Frag} {H : Hp} {vs : List V} {ts : List Trm} (h : TermsT H vs ts) : Terms K H vs ts := paired_imp (fun _ _ h => h.at) h
/-- a tuple of terms at p -/
def PolyAt (K : PySem.W.Frag) (H : Hp) (p : Addr) (ts : List Trm) : Prop := ∃ vs, SqT K H p vs ∧ Terms K H vs ts
def PolyT (H : Hp) (p : Addr) (ts : List Trm) : Prop := ∃ vs, H p = some (.tup vs) ∧ TermsT H vs ts
theorem PolyT.at {K : PySem.W.Frag} {H : Hp} {p : Addr} {ts : List Trm} (h : PolyT H p ts) : PolyAt K H p ts := by
  obtain ⟨vs, h1, h2⟩ := h
  exact ⟨vs, .inl (.inl h1), terms_of h2⟩
theorem Ext.poly {K : PySem.W.Frag} {H H' : Hp} (s : Ext H H') {p : Addr} {ts : List Trm} (h : PolyAt K H p ts) : PolyAt K H' p ts := by
  obtain ⟨vs, h1, h2⟩ := h
  exact ⟨vs, s.tup h1, s.terms h2⟩
theorem Ext.polyT {H H' : Hp} (s : Ext H H') {p : Addr} {ts : List Trm} (h : PolyT H p ts) : PolyT H' p ts := by
  obtain ⟨vs, h1, h2⟩ := h
  exact ⟨vs, s.at h1, s.termsT h2⟩
/-- a term, a polynomial as data -/
def termD (t : Trm) : PyData := .tuple [.tuple [.int t.1.1, .int t.1.2], .int t.2]
def polyD (ts : List Trm) : PyData := .tuple (ts.map termD)
theorem TermAt.dp {K : PySem.W.Frag} {H : Hp} {v : V} {t : Trm} (h : TermAt K H v t) : Dp K H v (termD t) := by
  obtain ⟨a, b, rfl, h1, h2⟩ := h
  exact .tup h1 (.cons (.tup h2 (.cons (.int _) (.cons (.int _) .nil))) (.cons (.int _) .nil))
theorem terms_dp {K : PySem.W.Frag} {H : Hp} : ∀ {vs : List V} {ts : List Trm}, Terms K H vs ts → DpAll K H vs (ts.map termD)
  | _, _, .nil => .nil
  | _, _, .cons h t => .cons h.dp (terms_dp t)
theorem PolyAt.dp {K : PySem.W.Frag} {H : Hp} {p : Addr} {ts : List Trm} (h : PolyAt K H p ts) : Dp K H (.ref p) (polyD ts) := by
  obtain ⟨vs, h1, h2⟩ := h
  exact .tup h1 (terms_dp h2)
/-! ### a dict of exponents -/
def kvsOf (d : List Trm) : List (List Key × V) := d.map fun t => (pairKey t.1, .int t.2)
theorem pairKey_inj {k j : Ex} (h : pairKey k = pairKey j) : k = j := by
  obtain ⟨h1, h2⟩ := List.cons.inj h
  obtain ⟨h3, _⟩ := List.cons.inj h2
  exact Prod.ext (Sum.inl.inj h1) (Sum.inl.inj h3)
theorem valV_kvs (k : Ex) : ∀ d : List Trm, valV (kvsOf d) (pairKey k) = if k ∈ keys d then some (.int (look d k)) else none
  | [] => rfl
  | t :: d => by
    by_cases e : t.1 = k
    · rw [show kvsOf (t :: d) = (pairKey t.1, V.int t.2) :: kvsOf d from rfl, valV_pos (by rw [e]), if_pos (by rw [← e]; exact List.mem_map.mpr ⟨t, List.mem_cons_self, rfl⟩), look_cons, if_pos e]
    · rw [show kvsOf (t :: d) = (pairKey t.1, V.int t.2) :: kvsOf d from rfl, valV_neg (fun z => e (pairKey_inj z)), valV_kvs k d, look_cons, if_neg e]
      have : (k ∈ keys (t :: d)) ↔ k ∈ keys d := by
        show k ∈ t.1 :: keys d ↔ _
        rw [List.mem_cons]
        exact ⟨fun z => z.resolve_left fun q => e q.symm, .inr⟩
      by_cases m : k ∈ keys d
      · rw [if_pos m, if_pos (this.mpr m)]
      · rw [if_neg m, if_neg (fun z => m (this.mp z))]
theorem getD_kvs (d : List Trm) (k : Ex) : (valV (kvsOf d) (pairKey k)).getD (.int 0) = .int (look d k) := by
  rw [valV_kvs]
  by_cases m : k ∈ keys d
  · rw [if_pos m]
    rfl
  · rw [if_neg m, look_none m]
    rfl
theorem put_kvs (d : List Trm) (k : Ex) (v : Int) : putK (kvsOf d) (pairKey k) (.int v) = kvsOf (put d k v) := by
  have e : ((kvsOf d).any fun kv => decide (kv.1 = pairKey k)) = d.any fun p => decide (p.1 = k) := by
    unfold kvsOf
    rw [List.any_map]
    congr 1
    funext t
    show decide (pairKey t.1 = pairKey k) = decide (t.1 = k)
    by_cases z : t.1 = k
    · rw [decide_eq_true z, decide_eq_true (by rw [z])]
    · rw [decide_eq_false z, decide_eq_false (fun q => z (pairKey_inj q))]
  unfold putK put
  rw [e]
  by_cases z : (d.any fun p => decide (p.1 = k)) = true
  · rw [if_pos z, if_pos z]
    unfold kvsOf
    rw [List.map_map, List.map_map]
    refine List.map_congr_left fun t _ => ?_
    show (if pairKey t.1 = pairKey k then (pairKey t.1, V.int v) else (pairKey t.1, V.int t.2)) = _
    by_cases q : t.1 = k
    · rw [if_pos (by rw [q])]
      simp only [Function.comp, if_pos q]
    · rw [if_neg (fun w => q (pairKey_inj w))]
      simp only [Function.comp, if_neg q]
  · rw [if_neg z, if_neg z]
    unfold kvsOf
    rw [List.map_append]
    rfl
theorem length_kvs (d : List Trm) : (kvsOf d).length = d.length := by
  unfold kvsOf
  rw [List.length_map]
theorem keys_kvs (d : List Trm) : (kvsOf d).map (·.1) = (keys d).map pairKey := by
  unfold kvsOf keys
  rw [List.map_map, List.map_map]
  rfl
theorem lex_lt {p q : Ex} : SrtO.lexB p q = false ↔ ¬ ltE p q := SrtO.lexB_no
end EXT
/-! ### a def whose code object is known -/
namespace L2
open PySem PySem.Spec PyProof.Rows
structure FunC (K : PySem.W.Frag) (x qual : Str) (st : Stmt) (f : Addr) (fd : FuncData) (c : Addr) : Prop where
  ex : ∃ (oc : Value) (od : Option Addr) (kV doc pm : Value) (an : Option Addr) (ct : Value) (osl : Array (Option Value)),
    fd = PySem.W.fnOf x qual (defArgs st) (defBody st) (defScope st) .none kV doc pm an (.ref c) ct ∧ K.lookup f = some ⟨oc, od, .func fd, osl⟩ ∧ PySem.W.codeIn K (.ref c) qual = true
  kp : PySem.W.keepIn K (.ref f) = true
section
variable {P : Program} {w : World} {K : PySem.W.Frag} {mg : Str → Option Value} {base : Heap}
theorem FunC.ok {x qual : Str} {st : Stmt} {f c : Addr} {fd : FuncData} {N ps : List Str} {k : Nat} {sp : Sp} (F : FunC K x qual st f fd c) (S : FnScope N ps (defScope st)) (len : ∀ vs H Q E, sp vs H Q E → vs.length = ps.length)
    (hbody : ∀ (A : Around) (outer : List Env) (s : Shared) (H : Hp) (vs : List V) (Q : VK) (E : XK), Room k (A.deeper (envOfC qual (defScope st) s.heap.objs.size f (.ref c))) → sp vs H Q E →
      ∃ t, PSs (cxOf CX0 P w K mg base N qual (defScope st) f (.ref c) A outer s H E).nox (defBody st) t ∧ t { nx := fun _ H' => Q .non H', rt := Q } (start N vs) H) :
    FnOk P w K mg base CX0 (k + 1) f fd ps sp := by
  obtain ⟨oc, od, kV, doc, pm, an, ct, osl, e, lk, hcd⟩ := F.ex
  subst e
  refine fn_of lk hcd S len fun A outer s H vs Q E hr hsp => ?_
  obtain ⟨t, h, q⟩ := hbody A outer s H vs Q E hr hsp
  exact ⟨t, h.nox, q⟩
theorem FunC.binds {x qual : Str} {st : Stmt} {f c : Addr} {fd : FuncData} {ps : List Str} (F : FunC K x qual st f fd c)
    (h : ∀ (kV doc pm : Value) (an : Option Addr) (cdv ct : Value) (us : List Value), us.length = ps.length → bindArgs (PySem.W.fnOf x qual (defArgs st) (defBody st) (defScope st) .none kV doc pm an cdv ct) ⟨us, []⟩ = pure (ps.zip us)) : Binds K fd ps [] := by
  obtain ⟨oc, od, kV, doc, pm, an, ct, osl, e, lk, hcd⟩ := F.ex
  subst e
  exact .all (h kV doc pm an (.ref c) ct)
theorem funC_mk {x qual : Str} {st : Stmt} {f c : Addr} {oc : Value} {od an : Option Addr} {osl : Array (Option Value)} {kV doc pm ct : Value} (l : K.lookup f = some ⟨oc, od, .func (PySem.W.fnOf x qual (defArgs st) (defBody st) (defScope st) .none kV doc pm an (.ref c) ct), osl⟩)
    (h : PySem.W.codeIn K (.ref c) qual = true) (k : PySem.W.keepIn K (.ref f) = true) : FunC K x qual st f (PySem.W.fnOf x qual (defArgs st) (defBody st) (defScope st) .none kV doc pm an (.ref c) ct) c := ⟨⟨oc, od, kV, doc, pm, an, ct, osl, rfl, l, h⟩, k⟩
end
end L2
/-! ### the end: the tables of all defs -/
namespace LamX
open PySem PySem.Spec PyProof.Rows L2
/-- the table of each def of the text is empty -/
def AllTab (q : Program) (K : PySem.W.Frag) (h : Heap) : Prop := ∀ (y : Str) (f c P : Addr) (o : Obj) (fd : FuncData) (e : Value) (dd : Option Addr) (vs : Array Value) (sl : Array (Option Value)), ((recsOf q).any fun r => r.name == y) = true →
  PySem.W.nsIn K mainGlobals y = some (some (.ref f)) → K.lookup f = some o → o.data = .func fd → fd.code = .ref c → K.lookup c = some ⟨e, dd, .fields vs, sl⟩ → vs[11]? = some (.ref P) → h.get? P = some { cls := .none, data := .fields #[] }
theorem walk_ofAll {l : PySem.W.OpenLaw} {n k : Nat} {q : Program} {loose : List Str} {XP : (Str → Option Value) → Heap → Prop} {YP : World → Heap → Prop} {d : DefRec} {K : Params → PySem.W.Frag} {CX : World → CXT} {x : Str}
    (hn : l.most = some n) (hn2 : n ≤ sizeLine) (hdf : d.params.defaults = []) (hr : Room k callerA) (hY : ∀ (w : World) (h : Heap), YP w h → (K w.params).In h)
    (F : ∀ (w : World) (mg : Str → Option Value) (fa : Addr) (h : Heap), YP w h → (K w.params).In h → h.Ns mainGlobals mg → mg d.name = some (.ref fa) → AllTab q (K w.params) h → LawAtS l w (K w.params) (CX w) k n x mg fa h)
    (hCX : ∀ (w : World) (H : Hp) (s : Shared) (e : Value) (s' : Shared), CX w [] H s (fun _ _ _ => False) e s' → False) :
    PySem.W.WalkO q loose XP YP l.row.toRowW d [] (fun f vs => PySem.call f vs) := by
  refine Att.attach_callB hn hdf fun w s₀ s₁ mg mb fa o pm cd doc a vs ns G Y ho hd hcd hmg hobj hints hlen hbits hg => ?_
  have KX := hY w _ Y
  have own : AllTab q (K w.params) s₁.heap := fun y f c P o1 fd1 e dd vs1 sl hrec k0 k1 k2 k3 k4 k5 => by
    obtain ⟨dL, hm, hn1⟩ := List.any_eq_true.mp hrec
    have hn2 : dL.name = y := beq_iff_eq.mp hn1
    obtain ⟨a', o', fd', c', P', h1, h2, h3, h4, h5, h6⟩ := G.T.tab dL hm
    rw [hn2, PySem.W.mg_of KX G.T.g k0] at h1
    cases h1
    have g1 := KX _ _ k1
    rw [g1] at h2
    cases h2
    rw [k2] at h3
    cases h3
    rw [k3] at h4
    cases h4
    obtain ⟨⟨oc, vc, e1, _, e3, e4⟩, hP⟩ := h6
    have g2 := KX _ _ k4
    rw [g2] at e1
    cases e1
    cases e3
    rw [k5] at e4
    cases e4
    exact hP
  obtain ⟨fd, cs, sp, hT, nT, C, hb, hsp, hF⟩ := F w mg fa _ Y KX G.T.g hmg own
  exact law_callTs KX G.T.g G.T.b G.T.builtins G.T.nolimit hg hT nT C G.T.bmain hobj hints (Nat.le_trans hlen hn2) hr hF hb (fun H hH hS => hsp H a ns hlen hbits hH hS) fun H e s' => hCX w H s₁ e s'
end LamX
namespace L2
open PySem PySem.Spec PyProof.Rows
/-- a list or a tuple, walked -/
def iSeq (K : PySem.W.Frag) (tl : TE) : TI := fun σ H R => tl σ H fun x H1 => ∃ a, x = .ref a ∧ (((∃ xs, SqL K H1 a xs) ∧ R (Itl K a) H1) ∨ ((∃ xs, SqT K H1 a xs) ∧ R (Itt K a) H1))
theorem pi_seq {X : Cx} {tg l : Expr} {tl : TE} (hl : PE X l tl) : PI X tg l (iSeq X.K tl) := by
  refine ⟨fun pins s σ H R I h => ?_⟩
  refine thn (hl.run pins s σ H _ I h) fun v s1 ⟨x, H1, I1, r1, a, e, q1⟩ => ?_
  subst e
  cases r1
  rcases q1 with ⟨⟨xs, hq⟩, q⟩ | ⟨⟨xs, hq⟩, q⟩
  · obtain ⟨its, rv, p, hz⟩ := I1.list hq
    refine wpAny_pyIter_list p.isList ⟨s1.heap.objs.size, [s1.heap.objs.size], _, _, H1, rfl, I1.kept (t' := s1.toks) fun b o e => Heap.get?_push_of_some _ e, turn_list a _, ⟨_, Heap.get?_push_size _ rfl, rfl, rfl⟩, fun b hb => ?_, q⟩
    obtain rfl : b = s1.heap.objs.size := by simpa using hb
    exact I1.fpOk (Nat.le_refl _) (I1.hok.fresh (Nat.le_refl _))
  · obtain ⟨its, rv, p, hz⟩ := I1.tuple hq
    refine wpAny_pyIter_tuple (show s1.heap.IsTuple a its.toArray from p) ⟨s1.heap.objs.size, [s1.heap.objs.size], _, _, H1, rfl, I1.kept (t' := s1.toks) fun b o e => Heap.get?_push_of_some _ e, turn_tuple a _, ⟨_, Heap.get?_push_size _ rfl, rfl, rfl⟩, fun b hb => ?_, q⟩
    obtain rfl : b = s1.heap.objs.size := by simpa using hb
    exact I1.fpOk (Nat.le_refl _) (I1.hok.fresh (Nat.le_refl _))
/-- walking a list or a tuple: one invariant -/
theorem for_seq {K : PySem.W.Frag} {a : Addr} {xs : List V} {g : TG} {tb : TS} {D : Ends} {σ : St} {H H0 : Hp} (ha : SqL K H0 a xs ∨ SqT K H0 a xs) (Pv : Nat → St → Hp → Prop) (h0 : Pv 0 σ H) (hl : ∀ i σ H1, i ≤ xs.length → Pv i σ H1 → EXT.Ext H0 H1)
    (hs : ∀ i x σ H, xs[i]? = some x → Pv i σ H → g x σ H fun σ2 H2 => tb { D with nx := Pv (i + 1), ct := Pv (i + 1), bk := D.nx } σ2 H2) (hd : ∀ σ H, Pv xs.length σ H → D.nx σ H) :
    let G : It → Prop := fun J => ∃ W : Nat → Nat → St → Hp → Prop, (∃ m, W 0 m σ H) ∧ ∀ i m σ H, W i m σ H →
      ((J.stop i H ∧ D.nx σ H) ∨ (J.go i H ∧ ∃ N : St → Hp → Prop, (∀ σ' H', N σ' H' → ∃ m', m' < m ∧ W (i + 1) m' σ' H') ∧ ∀ x H', J.yld i H x H' → g x σ H' fun σ2 H2 => tb { D with nx := N, ct := N, bk := D.nx } σ2 H2))
    ((∃ xs, SqL K H a xs) ∧ G (Itl K a)) ∨ ((∃ xs, SqT K H a xs) ∧ G (Itt K a)) := by
  rcases ha with h | h
  · exact .inl ⟨⟨xs, (hl _ _ _ (Nat.zero_le _) h0).seq h⟩, for_list Pv h0 (fun i σ H1 hi p => (hl i σ H1 hi p).seq h) hs hd⟩
  · exact .inr ⟨⟨xs, (hl _ _ _ (Nat.zero_le _) h0).tup h⟩, for_tup Pv h0 (fun i σ H1 hi p => (hl i σ H1 hi p).tup h) hs hd⟩
end L2
namespace L2
open PySem PySem.Spec PyProof.Rows
/-- pairs of ints, by their first, then by their second -/
def geP (x y : Int × Int) : Bool := !SrtO.lexB x y
theorem ge_not (i j : Int) : (!decide (i < j)) = decide (j ≤ i) := by
  by_cases z : i < j
  · rw [decide_eq_true z, decide_eq_false (by omega)]
    rfl
  · rw [decide_eq_false z, decide_eq_true (by omega)]
    rfl
/-- t >= u of two pairs of ints -/
def rGeP (K : PySem.W.Frag) : R2 := fun x y H Q => ∃ (a b : Addr) (p q : Int × Int), x = .ref a ∧ y = .ref b ∧ SqT K H a [.int p.1, .int p.2] ∧ SqT K H b [.int q.1, .int q.2] ∧ Q (.bl (geP p q)) H
theorem pair_vals {i j : Int} {its : List Value} (r : Vals [V.int i, .int j] its) : ∃ t u, its = [.int i t, .int j u] := by
  obtain ⟨u1, u2, rfl, ⟨t, rfl⟩, ⟨u, rfl⟩⟩ := vals2 r
  exact ⟨t, u, rfl⟩
theorem op_geP {X : Cx} (hu : X.A.units < cLine) : OpR X (compareOp .GtE) (rGeP X.K) := by
  intro pins s σ H x y v u Q I rx ry h
  obtain ⟨a, b, p, q, rfl, rfl, ha, hb, k⟩ := h
  cases rx
  cases ry
  obtain ⟨its, r1, p1, _⟩ := I.tuple ha
  obtain ⟨its2, r2, p2, _⟩ := I.tuple hb
  obtain ⟨t1, t2, rfl⟩ := pair_vals r1
  obtain ⟨t3, t4, rfl⟩ := pair_vals r2
  have R := Ob.RcOp.tuples_ge (A := X.A) (s := s) (e := fun j => if j = 0 then (p.1 == q.1) else (p.2 == q.2)) (r := fun j => if j = 0 then decide (q.1 ≤ p.1) else decide (q.2 ≤ p.2)) p1 p2 hu (fun j h1 h2 => by
    match j, h1, h2 with
    | 0, _, _ => exact SeqAt.EqAt.int_int _ _ _ _
    | 1, _, _ => exact SeqAt.EqAt.int_int _ _ _ _) (fun j h1 h2 _ => by
    match j, h1, h2 with
    | 0, _, _ => exact Ob.RcOp.ge_int _ _ _ _
    | 1, _, _ => exact Ob.RcOp.ge_int _ _ _ _)
  have e : geP p q = Ob.lexAt (fun j => if j = 0 then (p.1 == q.1) else (p.2 == q.2)) (fun j => if j = 0 then decide (q.1 ≤ p.1) else decide (q.2 ≤ p.2)) (decide (2 ≥ 2)) 0 2 := by
    rw [Ob.lexAt_succ, Ob.lexAt_succ, Ob.lexAt_zero]
    unfold geP SrtO.lexB
    by_cases e1 : p.1 = q.1
    · rw [if_pos e1, ge_not]
      by_cases e2 : p.2 = q.2
      · have b1 : (p.1 == q.1) = true := beq_iff_eq.mpr e1
        have b2 : (p.2 == q.2) = true := beq_iff_eq.mpr e2
        have z : q.2 ≤ p.2 := by omega
        simp [b1, b2, z]
      · have b1 : (p.1 == q.1) = true := beq_iff_eq.mpr e1
        have b2 : (p.2 == q.2) = false := beq_eq_false_iff_ne.mpr e2
        simp [b1, b2]
    · have b1 : (p.1 == q.1) = false := beq_eq_false_iff_ne.mpr e1
      rw [if_neg e1, ge_not]
      simp [b1]
  rw [e] at k
  have z : wpAny (model X.prog X.w) X.A (compareOp .GtE (.ref a) (.ref b)) (EP X pins σ Q) X.xe s := R X.prog X.w X.xe (EP X pins σ Q) ⟨.bl _, H, I, rfl, k⟩
  exact z
/-- a op b op' c op'' d -/
def tChain3 (r r' r'' : R2) (ta tb tc td : TE) : TE := fun σ H Q => ta σ H fun x H1 => tb σ H1 fun y H2 => r x y H2 fun z H3 => ∃ k, z = .bl k ∧
  (if k = true then tc σ H3 fun w' H4 => r' y w' H4 fun z2 H5 => ∃ k2, z2 = .bl k2 ∧ (if k2 = true then td σ H5 fun w2 H6 => r'' w' w2 H6 Q else Q (.bl false) H5) else Q (.bl false) H3)
theorem pe_chain3 {X : Cx} {a b c d : Expr} {pos : Pos} {ta tb tc td : TE} {op op' op'' : CmpOp} {r r' r'' : R2} (ho : OpR X (compareOp op) r) (ho' : OpR X (compareOp op') r') (ho'' : OpR X (compareOp op'') r'') (ha : PE X a ta) (hb : PE X b tb) (hc : PE X c tc) (hd : PE X d td)
    (hm : lastMarks [op, op', op''] [b, c, d] = false := by with_unfolding_all rfl) : PE X (.Compare a [op, op', op''] [b, c, d] pos) (tChain3 r r' r'' ta tb tc td) := by
  refine ⟨fun pins s σ H Q I h => ?_⟩
  refine Compare_chain (thn (ha.run pins s σ H _ I h) fun v s1 ⟨x, H1, I1, r1, q1⟩ => chain_link (thn (hb.run pins s1 σ H1 _ I1 q1) fun u s2 ⟨y, H2, I2, r2, q2⟩ =>
    thn (ho pins s2 σ H2 x y v u _ I2 r1 r2 q2) fun d s3 ⟨z, H3, I3, r3, k, e, q3⟩ => ?_)) hm
  subst e
  cases r3
  refine wpAny_truthy_bool ?_
  cases k with
  | false => exact ite_ff ⟨.bl false, H3, I3, rfl, q3⟩
  | true =>
    refine ite_tt (chain_link (thn (hc.run pins s3 σ H3 _ I3 q3) fun w' s4 ⟨z', H4, I4, r4, q4⟩ => thn (ho' pins s4 σ H4 y z' u w' _ I4 r2 r4 q4) fun d5 s5 ⟨z5, H5, I5, r5, k5, e5, q5⟩ => ?_))
    subst e5
    cases r5
    refine wpAny_truthy_bool ?_
    cases k5 with
    | false => exact ite_ff ⟨.bl false, H5, I5, rfl, q5⟩
    | true => exact ite_tt (chain_last (thn (hd.run pins s5 σ H5 _ I5 q5) fun w2 s6 ⟨z6, H6, I6, r6, q6⟩ => ho'' pins s6 σ H6 z' z6 w' w2 Q I6 r4 r6 q6))
theorem pt_chain3 {X : Cx} {a b c d : Expr} {pos : Pos} {ta tb tc td : TE} {op op' op'' : CmpOp} {r r' r'' : R2} (ho : OpR X (compareOp op) r) (ho' : OpR X (compareOp op') r') (ho'' : OpR X (compareOp op'') r'') (ha : PE X a ta) (hb : PE X b tb) (hc : PE X c tc) (hd : PE X d td)
    (hm : lastMarks [op, op', op''] [b, c, d] = false := by with_unfolding_all rfl) : PT X (.Compare a [op, op', op''] [b, c, d] pos) (tTest (tChain3 r r' r'' ta tb tc td)) := by
  refine ⟨fun pins s σ H Q I h => ?_⟩
  refine isTrue_chain (thn (ha.run pins s σ H _ I h) fun v s1 ⟨x, H1, I1, r1, q1⟩ => test_link (thn (hb.run pins s1 σ H1 _ I1 q1) fun u s2 ⟨y, H2, I2, r2, q2⟩ =>
    thn (ho pins s2 σ H2 x y v u _ I2 r1 r2 q2) fun d s3 ⟨z, H3, I3, r3, k, e, q3⟩ => ?_)) hm
  subst e
  cases r3
  refine wpAny_truthy_bool ?_
  cases k with
  | false =>
    obtain ⟨k', e', q'⟩ := q3
    cases e'
    exact ite_ff ⟨H3, I3, q'⟩
  | true =>
    refine ite_tt (test_link (thn (hc.run pins s3 σ H3 _ I3 q3) fun w' s4 ⟨z', H4, I4, r4, q4⟩ => thn (ho' pins s4 σ H4 y z' u w' _ I4 r2 r4 q4) fun d5 s5 ⟨z5, H5, I5, r5, k5, e5, q5⟩ => ?_))
    subst e5
    cases r5
    refine wpAny_truthy_bool ?_
    cases k5 with
    | false =>
      obtain ⟨k', e', q'⟩ := q5
      cases e'
      exact ite_ff ⟨H5, I5, q'⟩
    | true =>
      refine ite_tt (test_last (thn (hd.run pins s5 σ H5 _ I5 q5) fun w2 s6 ⟨z6, H6, I6, r6, q6⟩ => thn (ho'' pins s6 σ H6 z' z6 w' w2 _ I6 r4 r6 q6) fun d7 s7 ⟨z7, H7, I7, r7, k7, e7, q7⟩ => ?_))
      subst e7
      cases r7
      exact wpAny_truthy_bool ⟨H7, I7, q7⟩
end L2
namespace L2
open PySem PySem.Spec PyProof.Rows RZ
/-- zip of two tuples, the second not longer than the first -/
theorem for_zipM {K : PySem.W.Frag} {a b : Addr} {xs ys : List V} {g : TG} {tb : TS} {D : Ends} {σ : L2.St} {H : Hp} (hl : ys.length ≤ xs.length) (Pv : Nat → L2.St → Hp → Prop) (h0 : Pv 0 σ H) (hq : ∀ i σ H, Pv i σ H → SqT K H a xs ∧ SqT K H b ys)
    (hs : ∀ (i : Nat) (x y : V) (T : Addr) (σ : L2.St) (H : Hp), xs[i]? = some x → ys[i]? = some y → Pv i σ H → H T = none → g (.ref T) σ (upd H T (.tup [x, y])) fun σ2 H2 => tb { D with nx := Pv (i + 1), ct := Pv (i + 1), bk := D.nx } σ2 H2)
    (hd : ∀ σ H, Pv ys.length σ H → D.nx σ H) :
    ∃ W : Nat → Nat → L2.St → Hp → Prop, (∃ m, W 0 m σ H) ∧ ∀ i m σ H, W i m σ H →
      ((ItzT K a b).stop i H ∧ D.nx σ H) ∨ ((ItzT K a b).go i H ∧ ∃ N : L2.St → Hp → Prop, (∀ σ' H', N σ' H' → ∃ m', m' < m ∧ W (i + 1) m' σ' H') ∧ ∀ v H', (ItzT K a b).yld i H v H' → g v σ H' fun σ2 H2 => tb { D with nx := N, ct := N, bk := D.nx } σ2 H2) := by
  refine ⟨fun i m σ H => m = ys.length - i ∧ i ≤ ys.length ∧ Pv i σ H, ⟨ys.length, rfl, Nat.zero_le _, h0⟩, ?_⟩
  rintro i m σ H ⟨rfl, hi, p⟩
  obtain ⟨qx, qy⟩ := hq i σ H p
  by_cases hlt : i < ys.length
  · have hlx : i < xs.length := by omega
    refine .inr ⟨⟨xs, ys, _, _, qx, qy, List.getElem?_eq_getElem hlx, List.getElem?_eq_getElem hlt⟩, Pv (i + 1), fun σ' H' p' => ⟨ys.length - (i + 1), by omega, rfl, hlt, p'⟩, fun v H' y => ?_⟩
    obtain ⟨T, x', y', rfl, hT, rfl, f1, f2⟩ := y
    exact hs i x' y' T σ H (f1 xs qx) (f2 ys qy) p hT
  · obtain rfl : i = ys.length := by omega
    exact .inl ⟨⟨xs, ys, qx, qy, Or.inr (Nat.le_refl _)⟩, hd σ H p⟩
end L2
namespace L2
open PySem PySem.Spec PyProof.Rows
section
variable {X : Cx} {CX : CXT} {k : Nat} {f C : Addr} {fd : FuncData} {ps : List Str} {sp : Sp} {E : St → XK} {x : Str} {p pos : Pos} {e : Expr} {es : List Expr} {t : TA}
/-- C(..) in a try's body: what it lets out may speak of the slots -/
theorem run_makeS {pins : List (Addr × Obj)} {σ : St} {H : Hp} {s : Shared} {Q : VK} {us : List Value} {vs : List V} (M : Mk X.K C f) (F : FnOk X.prog X.w X.K X.mg X.base CX k f fd ps sp) (hr : Room (k + 1) X.A) (hb : Binds X.K fd ps [])
    (hx : PassesAt CX X σ (E σ)) (I : Inv X pins σ H s) (r : Vals vs us)
    (h : ∀ x dx, H x = none → H dx = none → dx ≠ x → sp (.ref x :: vs) (upd (upd H dx (.own x)) x (.ins C dx [])) (fun v H2 => v = .non ∧ Q (.ref x) H2) (E σ)) :
    wpAny (model X.prog X.w) X.A (call (.ref C) us) (EP X pins σ Q) X.xe s := by
  have hq := h (s.heap.objs.size + 1) s.heap.objs.size (I.hok.fresh (Nat.le_succ _)) (I.hok.fresh (Nat.le_refl _)) (Nat.ne_of_lt (Nat.lt_succ_self _))
  have I2 := Inv.made (C := C) I
  have r2 : Vals (V.ref (s.heap.objs.size + 1) :: vs) (Value.ref (s.heap.objs.size + 1) :: us) := .cons rfl r
  have hl : (Value.ref (s.heap.objs.size + 1) :: us).length = ps.length := by
    have l1 := r2.length
    rw [F.len _ _ _ _ hq] at l1
    exact l1.symm
  have bb := hb _ (Value.ref (s.heap.objs.size + 1) :: us) I2.kIn (by rw [List.append_nil]; exact hl)
  rw [List.append_nil] at bb
  refine wpAny_call (make_map (f := f) I.kIn M.makes M.init (beq_iff_eq.mp M.fn) (codeAny_mono (F.run _ X.stack _ _ ⟨Value.ref (s.heap.objs.size + 1) :: us, []⟩ (Value.ref (s.heap.objs.size + 1) :: us) _ _ (E σ) (hr.make C us []) (I2.env0.make C us []) bb r2 hq) fun r s' hq' => ?_))
  cases r with
  | error e => exact hx pins _ _ e s' I2 hq'
  | ok fl =>
    cases fl with
    | ret u =>
      obtain ⟨v, H', I3, rv, ev, q3⟩ := I2.after hq'
      subst ev
      exact ⟨rv, ⟨V.ref (s.heap.objs.size + 1), H', I3, rfl, q3⟩⟩
    | next => exact False.elim hq'
    | brk => exact False.elim hq'
    | cont => exact False.elim hq'
def tMakeS (C : Addr) (sp : Sp) (E : St → XK) (t : TA) : TE := fun σ H Q => t σ H fun vs H1 => ∀ x dx, H1 x = none → H1 dx = none → dx ≠ x →
  sp (.ref x :: vs) (upd (upd H1 dx (.own x)) x (.ins C dx [])) (fun v H2 => v = .non ∧ Q (.ref x) H2) (E σ)
theorem pe_makeS (M : Mk X.K C f) (F : FnOk X.prog X.w X.K X.mg X.base CX k f fd ps sp) (hr : Room (k + 1) X.A) (hg : Gl X x) (hm : X.mg x = some (.ref C)) (hb : Binds X.K fd ps []) (hx : ∀ σ, PassesAt CX X σ (E σ))
    (ha : PA X (e :: es) t) (hdb : (x == ("__debug__" : Str)) = false := by decide) (he : starEach (e :: es) X.env = (false, eval e X.env) :: starEach es X.env := by rfl) (hpl : (backTo pos (starEach es X.env)).any (·.1) = false := by rfl) :
    PE X (.Call (.Name x p) (e :: es) [] pos) (tMakeS C sp E t) := by
  refine ⟨fun pins s σ H Q I h => ?_⟩
  refine wpAny_Call_Name_kw (ld_glob I hg hm ?_ hdb)
  refine PySem.W.callWith_K (h₀ := X.base) I.ok.mod.kin M.kp (thn (ha.run pos pins s σ H _ I h) fun us s1 ⟨vs, H1, I1, r, q⟩ => ⟨I1.kIn, ?_⟩) he hpl
  exact run_makeS M F hr hb (hx σ) I1 r q
end
end L2
/-! ### sum of a tuple of ints -/
namespace L2
open PySem PySem.Spec PyProof.Rows
def rSumT (K : PySem.W.Frag) : List V → Hp → VK → Prop := fun vs H Q => ∃ (a : Addr) (ns : List Int), vs = [V.ref a] ∧ SqT K H a (ns.map V.int) ∧ Q (.int ns.sum) H
theorem preSum_at (ns : List Int) : ∀ k, k ≤ ns.length → preSum (fun i => (ns[i]?).getD 0) k = (ns.take k).sum
  | 0, _ => by simp [preSum]
  | k + 1, h => by
    rw [preSum, preSum_at ns k (by omega), List.take_add_one, List.getElem?_eq_getElem (by omega : k < ns.length), List.sum_append]
    simp
theorem vals_ints_at : ∀ {ns : List Int} {its : List Value} {i : Nat} {v : Value}, Vals (ns.map V.int) its → its[i]? = some v → ∃ t, v = .int ((ns[i]?).getD 0) t
  | [], _, i, v, .nil, h => by simp at h
  | n :: ns, _, 0, v, .cons r t, h => by
    simp only [List.getElem?_cons_zero, Option.some.injEq] at h
    subst h
    obtain ⟨t, e⟩ := r
    exact ⟨t, e⟩
  | n :: ns, _, i + 1, v, .cons r t, h => by
    simp only [List.getElem?_cons_succ] at h
    simpa using vals_ints_at t h
theorem cr_sumT {X : Cx} (hc : X.calm = true) : CallR X (.builtin "sum") (rSumT X.K) := by
  intro pins s σ H xs us Q I hv h
  obtain ⟨a, ns, rfl, hq, q⟩ := h
  cases hv with
  | cons r t =>
    cases t
    cases r
    obtain ⟨its, rv, p, hz⟩ := I.tuple hq
    have p' : s.heap.IsTuple a its.toArray := p
    obtain ⟨o, ho, p2⟩ := id p'
    have hne : a ≠ s.heap.objs.size := Nat.ne_of_lt (Heap.lt_size ho)
    have hl := rv.length
    rw [List.length_map] at hl
    refine call_sum_walkG (wpAny_pyIter_tuple p' ⟨s.heap.objs.size, [s.heap.objs.size, a], [s.heap.objs.size], _, _, _, fun i => (ns[i]?).getD 0, rfl, Walks.tuple (A := X.A.in1) (I.ok.hd hc) _ a hne its.toArray, ⟨⟨_, Heap.get?_push_size _ rfl, rfl, rfl⟩, ⟨o, Heap.get?_push_of_some _ ho, p2⟩⟩, fun b hb => ?_, fun i v hi => ?_, fun h' tk t' hk => ?_⟩)
    · have h1 := Heap.lt_size ho
      simp only [List.mem_cons, List.not_mem_nil, or_false] at hb
      show b < (s.heap.push _).objs.size
      rw [PyProof.Rows.size_push']
      rcases hb with e | e
      · rw [e]
        exact Nat.lt_succ_self _
      · rw [e]
        exact Nat.lt_succ_of_lt h1
    · refine vals_ints_at rv ?_
      simpa using hi
    · refine ⟨.int (preSum (fun i => (ns[i]?).getD 0) its.toArray.size), H, I.kept (t' := tk) fun b o e => hk b o (fun m => ?_) (Heap.get?_push_of_some _ e), ⟨_, rfl⟩, ?_⟩
      · have h1 := Heap.lt_size e
        rw [List.mem_singleton.mp m] at h1
        exact Nat.lt_irrefl _ h1
      · have e : preSum (fun i => (ns[i]?).getD 0) its.toArray.size = ns.sum := by
          rw [List.size_toArray, ← hl, preSum_at ns _ (Nat.le_refl _), List.take_length]
        rw [e]
        exact q
end L2
/-! ### walks with an invariant on the heap alone: the inner for of a comprehension; zip in a generator expression -/
namespace L2
open PySem PySem.Spec PyProof.Rows
theorem passes_no {X : Cx} : Passes (L2.CX X.prog X.w) X (fun _ _ _ => False) := fun pins σ H s e s' I h => by
  obtain ⟨a, B, H', cls, d, _, _, _, _, _, _, _, h⟩ := h
  exact h.elim
section
variable {K : PySem.W.Frag} {a b : Addr} {xs ys : List V} {H0 : Hp} {B : V → Hp → (Hp → Prop) → Prop} {Nx : Hp → Prop}
theorem w_tup (Pv : Nat → Hp → Prop) (h0 : Pv 0 H0) (hl : ∀ i H, i ≤ xs.length → Pv i H → SqT K H a xs) (hs : ∀ i x H, xs[i]? = some x → Pv i H → B x H (Pv (i + 1))) (hd : ∀ H, Pv xs.length H → Nx H) :
    ∃ W : Nat → Nat → Hp → Prop, (∃ m, W 0 m H0) ∧ ∀ i m H, W i m H → ((Itt K a).stop i H ∧ Nx H) ∨ ((Itt K a).go i H ∧ ∃ N : Hp → Prop, (∀ H', N H' → ∃ m', m' < m ∧ W (i + 1) m' H') ∧ ∀ x H', (Itt K a).yld i H x H' → B x H' N) := by
  refine ⟨fun i m H => m = xs.length - i ∧ i ≤ xs.length ∧ Pv i H, ⟨xs.length, rfl, Nat.zero_le _, h0⟩, ?_⟩
  rintro i m H ⟨rfl, hi, p⟩
  have q := hl i H hi p
  by_cases hlt : i < xs.length
  · refine .inr ⟨⟨xs, _, q, List.getElem?_eq_getElem hlt⟩, Pv (i + 1), fun H' p' => ⟨_, by omega, rfl, hlt, p'⟩, fun x H' y => ?_⟩
    obtain ⟨rfl, y⟩ := y
    exact hs i x _ (y xs q) p
  · have e : i = xs.length := by omega
    subst e
    exact .inl ⟨⟨xs, q, Nat.le_refl _⟩, hd H p⟩
theorem w_list (Pv : Nat → Hp → Prop) (h0 : Pv 0 H0) (hl : ∀ i H, i ≤ xs.length → Pv i H → SqL K H a xs) (hs : ∀ i x H, xs[i]? = some x → Pv i H → B x H (Pv (i + 1))) (hd : ∀ H, Pv xs.length H → Nx H) :
    ∃ W : Nat → Nat → Hp → Prop, (∃ m, W 0 m H0) ∧ ∀ i m H, W i m H → ((Itl K a).stop i H ∧ Nx H) ∨ ((Itl K a).go i H ∧ ∃ N : Hp → Prop, (∀ H', N H' → ∃ m', m' < m ∧ W (i + 1) m' H') ∧ ∀ x H', (Itl K a).yld i H x H' → B x H' N) := by
  refine ⟨fun i m H => m = xs.length - i ∧ i ≤ xs.length ∧ Pv i H, ⟨xs.length, rfl, Nat.zero_le _, h0⟩, ?_⟩
  rintro i m H ⟨rfl, hi, p⟩
  have q := hl i H hi p
  by_cases hlt : i < xs.length
  · refine .inr ⟨⟨xs, _, q, List.getElem?_eq_getElem hlt⟩, Pv (i + 1), fun H' p' => ⟨_, by omega, rfl, hlt, p'⟩, fun x H' y => ?_⟩
    obtain ⟨rfl, y⟩ := y
    exact hs i x _ (y xs q) p
  · have e : i = xs.length := by omega
    subst e
    exact .inl ⟨⟨xs, q, Nat.le_refl _⟩, hd H p⟩
theorem w_range {lo : Int} {n : Nat} (Pv : Nat → Hp → Prop) (h0 : Pv 0 H0) (hs : ∀ i H, i < n → Pv i H → B (.int (lo + i)) H (Pv (i + 1))) (hd : ∀ H, Pv n H → Nx H) :
    ∃ W : Nat → Nat → Hp → Prop, (∃ m, W 0 m H0) ∧ ∀ i m H, W i m H → ((Itr lo n).stop i H ∧ Nx H) ∨ ((Itr lo n).go i H ∧ ∃ N : Hp → Prop, (∀ H', N H' → ∃ m', m' < m ∧ W (i + 1) m' H') ∧ ∀ x H', (Itr lo n).yld i H x H' → B x H' N) := by
  refine ⟨fun i m H => m = n - i ∧ i ≤ n ∧ Pv i H, ⟨n, rfl, Nat.zero_le _, h0⟩, ?_⟩
  rintro i m H ⟨rfl, hi, p⟩
  by_cases hlt : i < n
  · refine .inr ⟨hlt, Pv (i + 1), fun H' p' => ⟨_, by omega, rfl, hlt, p'⟩, fun x H' y => ?_⟩
    obtain ⟨rfl, rfl⟩ := y
    exact hs i _ hlt p
  · have e : i = n := by omega
    subst e
    exact .inl ⟨Nat.le_refl _, hd H p⟩
end
end L2
namespace GXP
open PySem PySem.Spec PyProof.Rows L2 RZ
section
variable {K : PySem.W.Frag} {a b : Addr} {xs ys : List V} {g : TG} {tt : TT} {te : TE} {vs : List Nat} {σ : L2.St} {cy : Cy} {Qe : List V → Hp → Prop} {H0 : Hp}
/-- zip of two tuples of one length -/
theorem gx_zipT (hn : xs.length = ys.length) (Pv : Nat → List V → Hp → Prop) (h0 : Pv 0 [] H0) (hl : ∀ i zs H, Pv i zs H → SqT K H a xs ∧ SqT K H b ys)
    (hs : ∀ i x y T zs H, xs[i]? = some x → ys[i]? = some y → Pv i zs H → H T = none → g (.ref T) (wipe σ vs) (upd H T (.tup [x, y])) fun σ2 H2 => wipe σ2 vs = wipe σ vs ∧ tt σ2 H2 fun b H3 => if b = true then te σ2 H3 fun y H4 => cy zs y H4 (Pv (i + 1)) else Pv (i + 1) zs H3)
    (hd : ∀ zs H, Pv ys.length zs H → Qe zs H) : ∃ W m, W 0 m [] H0 ∧ Turns (ItzT K a b) g tt te vs σ cy Qe W := by
  refine ⟨fun i m zs H => m = ys.length - i ∧ i ≤ ys.length ∧ Pv i zs H, ys.length, ⟨rfl, Nat.zero_le _, h0⟩, ?_⟩
  rintro i m zs H ⟨rfl, hi, p⟩
  obtain ⟨qx, qy⟩ := hl i zs H p
  by_cases hlt : i < ys.length
  · have hlx : i < xs.length := by omega
    refine .inr ⟨⟨xs, ys, _, _, qx, qy, List.getElem?_eq_getElem hlx, List.getElem?_eq_getElem hlt⟩, by omega, Pv (i + 1), fun zs' H' p' => ⟨_, by omega, rfl, hlt, p'⟩, fun v H' y => ?_⟩
    obtain ⟨T, x', y', rfl, hT, rfl, f1, f2⟩ := y
    exact hs i x' y' T zs H (f1 xs qx) (f2 ys qy) p hT
  · have e : i = ys.length := by omega
    subst e
    exact .inl ⟨⟨xs, ys, qx, qy, Or.inr (Nat.le_refl _)⟩, hd zs H p⟩
end
end GXP
/-! ### enumerate of a list or a tuple -/
namespace L2
open PySem PySem.Spec PyProof.Rows
theorem wp_if {α : Type} {M : Model} {A : Around} {E : Value → Shared → Prop} {s : Shared} {c : Bool} {x y : Sem α} {Q : α → Shared → Prop} (h1 : wpAny M A x Q E s) (h2 : wpAny M A y Q E s) : wpAny M A (if c = true then x else y) Q E s := by
  cases c
  · exact h2
  · exact h1
theorem call_enumerate_tup {prog : Program} {w : World} {A : Around} {E : Value → Shared → Prop} {s : Shared} {t : Addr} {items : Array Value} {Q : Value → Shared → Prop} (hI : s.heap.IsTuple t items)
    (hQ : ∀ (h' : Heap) (e : Addr), s.heap.objs.size ≤ e → e ≠ s.heap.objs.size → IsEnum h' e s.heap.objs.size 0 Value.none → h'.IsTupleIter s.heap.objs.size t 0 → (∀ (b : Addr) (o : Obj), s.heap.get? b = some o → h'.get? b = some o) → Q (.ref e) { s with heap := h' }) :
    wpAny (model prog w) A (call (.type "enumerate") [.ref t]) Q E s := by
  refine callType_codes (Q₁ := fun obj s1 => s1.TypeIs obj "enumerate" ∧ Q obj s1) F.called_enumerate (F.typeCall_enumerate_1 _) F.entry_object_init (codeAny_of_tree ?_) fun obj s1 h1 =>
    ⟨h1.1, F.args_object_init_2 obj _, object_init_meets F.called_enumerate.init.lookup F.called_enumerate.made (by decide) prog w A.in1 _ s1 ⟨h1.1, rfl, h1.2⟩⟩
  have pl : plainId "enumerate.__new__" = true := by decide +kernel
  show wpAny _ A.in1.in1 (do checkBuiltinCall "enumerate.__new__" ⟨[.type "enumerate", .ref t], []⟩; again (.builtin "enumerate.__new__" ⟨[.type "enumerate", .ref t], []⟩)) _ _ s
  refine wpAny_bind (wpAny_of_eq (F.newCall_enumerate_1 _) (wpAny_pure ⟨plainId_quiet pl _, codeAny_builtin F.entry_enumerate_new ?_⟩))
  rw [Around.under_plainId pl]
  unfold Builtin.«enumerate.__new__»
  have hsub : isSubtype (Value.type "enumerate") (Value.type "enumerate") = pure true := by rfl
  wp_walk using wpAny_pyIter_tuple hI
  refine wpAny_stack_any fun st => wpAny_pure ?_
  refine wp_if ?_ ?_
  all_goals
    refine wpAny_bind (wpAny_of_eq (show _ = pure (Value.ref t, none) from rfl) ?_)
    wp_walk using wpAny_pyIter_tuple hI
  all_goals
    have o1 : ((s.heap.push { cls := .type "tuple_iterator", data := .fields #[.ref t, .int 0 0] }).push { cls := .type "enumerate", data := .fields #[.none, .bool false, .ref s.heap.objs.size, rawInt 0, .none, .none] }).get? (s.heap.push { cls := .type "tuple_iterator", data := .fields #[.ref t, .int 0 0] }).objs.size = some { cls := .type "enumerate", data := .fields #[.none, .bool false, .ref s.heap.objs.size, rawInt 0, .none, .none] } := Heap.get?_push_size _ rfl
    refine ⟨⟨_, o1, rfl⟩, ?_⟩
    have g2 : ((s.heap.push { cls := .type "tuple_iterator", data := .fields #[.ref t, .int 0 0] }).push { cls := .type "enumerate", data := .fields #[.none, .bool false, .ref s.heap.objs.size, rawInt 0, .none, .none] }).get? s.heap.objs.size = some { cls := .type "tuple_iterator", data := .fields #[.ref t, .int 0 0] } := Heap.get?_push_of_some _ (Heap.get?_push_size _ rfl)
    have hz : (s.heap.push { cls := .type "tuple_iterator", data := .fields #[.ref t, .int 0 0] }).objs.size = s.heap.objs.size + 1 := PyProof.Rows.size_push' _ _
    have hq := hQ _ _ (by rw [hz]; exact Nat.le_succ _) (by rw [hz]; exact Nat.succ_ne_self _) o1 ⟨_, g2, rfl, rfl⟩ fun b o e => Heap.get?_push_of_some _ (Heap.get?_push_of_some _ e)
    exact hq
/-- enumerate of a tuple of n things -/
def IteT (K : PySem.W.Frag) (a : Addr) (n : Nat) : It where
  go := fun i H => ∃ xs x, SqT K H a xs ∧ xs[i]? = some x ∧ xs.length = n
  yld := fun i H v H' => ∃ T x, v = V.ref T ∧ H T = none ∧ H' = upd H T (.tup [V.int (i : Int), x]) ∧ ∀ xs : List V, SqT K H a xs → xs[i]? = some x
  stop := fun i H => ∃ xs, SqT K H a xs ∧ xs.length = n ∧ n ≤ i
theorem vals_get : ∀ {xs : List V} {its : List Value} {i : Nat} {u : Value}, Vals xs its → its[i]? = some u → ∃ x, xs[i]? = some x ∧ RelV x u
  | _, _, i, u, .nil, h => by simp at h
  | _, _, 0, u, .cons r t, h => by
    simp only [List.getElem?_cons_zero, Option.some.injEq] at h
    subst h
    exact ⟨_, rfl, r⟩
  | _, _, i + 1, u, .cons r t, h => by
    simp only [List.getElem?_cons_succ] at h
    obtain ⟨x, h1, h2⟩ := vals_get t h
    exact ⟨x, by simpa using h1, h2⟩
theorem turn_enumT {P : Program} {w : World} {K : PySem.W.Frag} {elts : List Expr} {kk : Nat} {tpos : Pos} {a e it : Addr} {n : Nat} :
    Turn P w K (.Tuple elts kk tpos) (IteT K a n) [e, it] e fun i h => (∃ old, IsEnum h e it (i : Int) old) ∧ h.IsTupleIter it a i ∧ e ≠ it ∧ i ≤ n := by
  have ne_of : ∀ {h : Heap} {i : Nat} {old : Value} {items : Array Value}, IsEnum h e it (i : Int) old → h.IsTupleIter it a i → h.IsTuple a items → e ≠ it → a ≠ it ∧ e ∉ [it, a] := fun he hi ha hne => by
    obtain ⟨o, ho, hc, hd⟩ := hi
    obtain ⟨o2, ho2, hc2, _⟩ := ha
    refine ⟨fun z => ?_, fun m => ?_⟩
    · rw [z, ho] at ho2
      cases ho2
      rw [hc] at hc2
      exact absurd (Value.type.inj hc2) (by decide)
    · simp only [List.mem_cons, List.not_mem_nil, or_false] at m
      rcases m with m | m
      · exact hne m
      · have he2 : _ = some _ := he
        rw [m] at he2
        have he3 := he2.symm.trans ho2
        cases he3
        exact absurd (Value.type.inj hc2) (by decide)
  refine ⟨List.mem_cons_self, fun i h tn b hb => ?_, fun i h h' tn hk => ?_, fun X hP hw hK hcalm i pins s σ H E I hfp tn go => ?_, fun X hP hw hK hcalm i pins s σ H E I hfp tn st => ?_, fun A i s Q E tn q => ?_⟩
  · obtain ⟨⟨old, he⟩, ⟨o, ho, hc, hd⟩, hne, hn⟩ := tn
    simp only [List.mem_cons, List.not_mem_nil, or_false] at hb
    rcases hb with rfl | rfl
    · exact ⟨_, he, fun v z => by cases z⟩
    · exact ⟨o, ho, fun v z => by rw [hd] at z; cases z⟩
  · obtain ⟨⟨old, he⟩, ⟨o, ho, hc, hd⟩, hne, hn⟩ := tn
    exact ⟨⟨old, hk e (by simp) _ he⟩, ⟨o, hk it (by simp) _ ho, hc, hd⟩, hne, hn⟩
  · subst hP
    subst hw
    subst hK
    obtain ⟨xs, x, hq, hx, hlen⟩ := go
    obtain ⟨its, rv, p, hz⟩ := I.tuple hq
    have p' : s.heap.IsTuple a its.toArray := p
    obtain ⟨⟨old, he⟩, hi, hne, hn⟩ := tn
    obtain ⟨h1, h2⟩ := ne_of he hi p' hne
    have W := WalksT.enumerateD (prog := X.prog) (w := X.w) (A := X.A) (Draws.tuple (A := X.A.in1) (I.ok.hd hcalm) it a h1 its.toArray) e hne h2 (by simp)
    have hl := rv.length
    have hlt := (List.getElem?_eq_some_iff.mp hx).1
    refine W.item i s _ E (by rw [List.size_toArray]; omega) ⟨⟨old, he⟩, hi, p'⟩ (fun T vals h' tk hv hT hTup hmid hk => ⟨_, rfl, ?_⟩)
    obtain ⟨t, x', hx', rfl⟩ := hv
    have hTw := W.apart _ _ _ hmid
    refine W.go elts kk tpos i T { s with heap := h', toks := tk } _ E hmid (fun h2 hst hk2 => ?_)
    obtain ⟨⟨old2, he2⟩, hi2, _⟩ := hst
    obtain ⟨x2, hx2, hr⟩ := vals_get rv (by simpa using hx')
    have ex : x2 = x := Option.some.inj (hx2.symm.trans hx)
    subst ex
    obtain ⟨oT, hoT, hcT, nT, hdT⟩ := hTup
    have hn0 : ∀ b ∈ [e, it], b ≠ T := fun b hb z => by
      refine absurd hT (Nat.not_le_of_lt ?_)
      rw [← z]
      simp only [List.mem_cons, List.not_mem_nil, or_false] at hb
      rcases hb with rfl | rfl
      · exact Heap.lt_size he
      · obtain ⟨o, ho, _⟩ := hi
        exact Heap.lt_size ho
    refine ⟨.ref T, upd H T (.tup [V.int (i : Int), x2]), I.turnedNew (ch := [e, it]) (fun b o hb eo => hk2 b o hb (hk b o hb eo)) hfp hT
      (show ObjOk X.prog X.w _ _ _ (.tup [V.int (i : Int), x2]) from ⟨by rw [sizeLine_eq]; simp, [.int (i : Int) t, x'], .cons ⟨t, rfl⟩ (.cons hr .nil), oT, hk2 _ _ hTw hoT, hcT, nT, hdT⟩), rfl, ⟨T, x2, rfl, I.hok.fresh hT, rfl, fun ys hys => by rw [I.tuple_inj hys hq]; exact hx⟩, ⟨⟨old2, he2⟩, hi2, hne, by omega⟩, fun b hb => ?_⟩
    rw [upd_ne (hn0 b hb)]
    exact (hfp b hb).1
  · subst hP
    subst hw
    subst hK
    obtain ⟨xs, hq, hlen, hle⟩ := st
    obtain ⟨its, rv, p, hz⟩ := I.tuple hq
    have p' : s.heap.IsTuple a its.toArray := p
    obtain ⟨⟨old, he⟩, hi, hne, hn⟩ := tn
    obtain ⟨h1, h2⟩ := ne_of he hi p' hne
    have W := WalksT.enumerateD (prog := X.prog) (w := X.w) (A := X.A) (Draws.tuple (A := X.A.in1) (I.ok.hd hcalm) it a h1 its.toArray) e hne h2 (by simp)
    have hl := rv.length
    have ei : i = its.toArray.size := by rw [List.size_toArray]; omega
    refine W.done s _ E ⟨⟨old, by rw [← ei]; exact he⟩, by rw [← ei]; exact hi, p'⟩ (fun h' tk hk => ⟨rfl, I.turnedL (ch := [e, it]) hk hfp⟩)
  · obtain ⟨⟨old, he⟩, _⟩ := tn
    exact wpAny_pyIter_enum he q
/-- enumerate(l), l a tuple -/
def iEnumT (K : PySem.W.Frag) (ta : TA) : TI := fun σ H R => ta σ H fun vs H1 => ∃ a xs, vs = [.ref a] ∧ SqT K H1 a xs ∧ R (IteT K a xs.length) H1
theorem pi_enumT {X : Cx} {e : Expr} {ta : TA} {p pos tpos : Pos} {elts : List Expr} {kk : Nat} (hcalm : X.calm = true) (hg : Gl X "enumerate") (hm : X.mg "enumerate" = none) (ha : PA X [e] ta)
    (he : starEach [e] X.env = (false, eval e X.env) :: starEach [] X.env := by rfl) : PI X (.Tuple elts kk tpos) (.Call (.Name "enumerate" p) [e] [] pos) (iEnumT X.K ta) := by
  refine ⟨fun pins s σ H R I h => ?_⟩
  refine wpAny_Call_Name_kw (ld_blt I hg hm (by decide +kernel : bootBuiltins "enumerate" = some (.type "enumerate")) (PyProof.Rows.callWith_type1 (thn (ha.run pos pins s σ H _ I h) fun us s1 ⟨vs, H1, I1, r, a, xs, ev, hq, q⟩ => ?_) he (by rfl)))
  subst ev
  cases r with
  | cons r t =>
    cases t
    cases r
    obtain ⟨its, rv, p', hz⟩ := I1.tuple hq
    refine call_enumerate_tup (show s1.heap.IsTuple a its.toArray from p') fun h' e1 hle hne hE hT hk => ?_
    have I2 : Inv X pins σ H1 { s1 with heap := h' } := I1.kept (t' := s1.toks) hk
    refine wpAny_pyIter_enum hE ⟨e1, [e1, s1.heap.objs.size], _, _, H1, rfl, I2, turn_enumT, ⟨⟨_, hE⟩, hT, hne, Nat.zero_le _⟩, fun b hb => ?_, q⟩
    simp only [List.mem_cons, List.not_mem_nil, or_false] at hb
    rcases hb with rfl | rfl
    · exact I1.fpOk hle (I1.hok.fresh hle)
    · exact I1.fpOk (Nat.le_refl _) (I1.hok.fresh (Nat.le_refl _))
/-- a walk that counts the things of a list or a tuple that stood in H0 -/
structure EnumW (J : It) (H0 : Hp) (xs : List V) : Prop where
  go : ∀ i H, EXT.Ext H0 H → i < xs.length → J.go i H
  stop : ∀ H, EXT.Ext H0 H → J.stop xs.length H
  yld : ∀ i H v H', EXT.Ext H0 H → J.yld i H v H' → ∃ T x, v = V.ref T ∧ H T = none ∧ H' = upd H T (.tup [V.int (i : Int), x]) ∧ xs[i]? = some x
theorem enumW_list {K : PySem.W.Frag} {H0 : Hp} {a : Addr} {xs : List V} (h : SqL K H0 a xs) : EnumW (Ite K a) H0 xs :=
  ⟨fun i H s hi => ⟨xs, _, s.seq h, List.getElem?_eq_getElem hi⟩, fun H s => ⟨xs, s.seq h, Nat.le_refl _⟩, fun i H v H' s ⟨T, x, e1, e2, e3, e4⟩ => ⟨T, x, e1, e2, e3, e4 xs (s.seq h)⟩⟩
theorem enumW_tup {K : PySem.W.Frag} {H0 : Hp} {a : Addr} {xs : List V} (h : SqT K H0 a xs) : EnumW (IteT K a xs.length) H0 xs :=
  ⟨fun i H s hi => ⟨xs, _, s.tup h, List.getElem?_eq_getElem hi, rfl⟩, fun H s => ⟨xs, s.tup h, rfl, Nat.le_refl _⟩, fun i H v H' s ⟨T, x, e1, e2, e3, e4⟩ => ⟨T, x, e1, e2, e3, e4 xs (s.tup h)⟩⟩
/-- enumerate(l), l a list or a tuple -/
def iEnumS (K : PySem.W.Frag) (ta : TA) : TI := fun σ H R => ta σ H fun vs H1 => ∃ a xs H0, vs = [.ref a] ∧ EXT.Ext H0 H1 ∧ (SqL K H0 a xs ∨ SqT K H0 a xs) ∧ ∀ J, EnumW J H0 xs → R J H1
theorem pi_enumS {X : Cx} {e : Expr} {ta : TA} {p pos tpos : Pos} {elts : List Expr} {kk : Nat} (hcalm : X.calm = true) (hg : Gl X "enumerate") (hm : X.mg "enumerate" = none) (ha : PA X [e] ta)
    (he : starEach [e] X.env = (false, eval e X.env) :: starEach [] X.env := by rfl) : PI X (.Tuple elts kk tpos) (.Call (.Name "enumerate" p) [e] [] pos) (iEnumS X.K ta) := by
  refine ⟨fun pins s σ H R I h => ?_⟩
  refine wpAny_Call_Name_kw (ld_blt I hg hm (by decide +kernel : bootBuiltins "enumerate" = some (.type "enumerate")) (PyProof.Rows.callWith_type1 (thn (ha.run pos pins s σ H _ I h) fun us s1 ⟨vs, H1, I1, r, a, xs, H0, ev, hE0, hq, q⟩ => ?_) he (by rfl)))
  subst ev
  cases r with
  | cons r t =>
    cases t
    cases r
    rcases hq with hq | hq
    · obtain ⟨its, rv, p', hz⟩ := I1.list (hE0.seq hq)
      refine call_enumerate_list p'.isList fun h' hE hT hsz hk => ?_
      have I2 : Inv X pins σ H1 { s1 with heap := h' } := I1.kept (t' := s1.toks) hk
      have hle : s1.heap.objs.size ≤ s1.heap.objs.size + 1 := Nat.le_succ _
      refine wpAny_pyIter_enum hE ⟨s1.heap.objs.size + 1, [s1.heap.objs.size + 1, s1.heap.objs.size], _, _, H1, rfl, I2, turn_enum a _ _, ⟨⟨_, hE⟩, hT, Nat.succ_ne_self _⟩, fun b hb => ?_, q _ (enumW_list hq)⟩
      simp only [List.mem_cons, List.not_mem_nil, or_false] at hb
      rcases hb with rfl | rfl
      · exact I1.fpOk hle (I1.hok.fresh hle)
      · exact I1.fpOk (Nat.le_refl _) (I1.hok.fresh (Nat.le_refl _))
    · obtain ⟨its, rv, p', hz⟩ := I1.tuple (hE0.tup hq)
      refine call_enumerate_tup (show s1.heap.IsTuple a its.toArray from p') fun h' e1 hle hne hE hT hk => ?_
      have I2 : Inv X pins σ H1 { s1 with heap := h' } := I1.kept (t' := s1.toks) hk
      refine wpAny_pyIter_enum hE ⟨e1, [e1, s1.heap.objs.size], _, _, H1, rfl, I2, turn_enumT, ⟨⟨_, hE⟩, hT, hne, Nat.zero_le _⟩, fun b hb => ?_, q _ (enumW_tup hq)⟩
      simp only [List.mem_cons, List.not_mem_nil, or_false] at hb
      rcases hb with rfl | rfl
      · exact I1.fpOk hle (I1.hok.fresh hle)
      · exact I1.fpOk (Nat.le_refl _) (I1.hok.fresh (Nat.le_refl _))
section
variable {J : It} {H0 : Hp} {xs : List V}
theorem w_enum {B : V → Hp → (Hp → Prop) → Prop} {Nx : Hp → Prop} {H1 : Hp} (w : EnumW J H0 xs) (Pv : Nat → Hp → Prop) (h0 : Pv 0 H1) (hl : ∀ i H, i ≤ xs.length → Pv i H → EXT.Ext H0 H)
    (hs : ∀ i x T H, xs[i]? = some x → Pv i H → H T = none → B (.ref T) (upd H T (.tup [V.int (i : Int), x])) (Pv (i + 1))) (hd : ∀ H, Pv xs.length H → Nx H) :
    ∃ W : Nat → Nat → Hp → Prop, (∃ m, W 0 m H1) ∧ ∀ i m H, W i m H → (J.stop i H ∧ Nx H) ∨ (J.go i H ∧ ∃ N : Hp → Prop, (∀ H', N H' → ∃ m', m' < m ∧ W (i + 1) m' H') ∧ ∀ x H', J.yld i H x H' → B x H' N) := by
  refine ⟨fun i m H => m = xs.length - i ∧ i ≤ xs.length ∧ Pv i H, ⟨xs.length, rfl, Nat.zero_le _, h0⟩, ?_⟩
  rintro i m H ⟨rfl, hi, p⟩
  have s := hl i H hi p
  by_cases hlt : i < xs.length
  · refine .inr ⟨w.go i H s hlt, Pv (i + 1), fun H' p' => ⟨_, by omega, rfl, hlt, p'⟩, fun v H' y => ?_⟩
    obtain ⟨T, x, rfl, hT, rfl, hx⟩ := w.yld i H v H' s y
    exact hs i x T H hx p hT
  · have e : i = xs.length := by omega
    subst e
    exact .inl ⟨w.stop H s, hd H p⟩
theorem for_enum {g : TG} {tb : TS} {D : Ends} {σ0 : St} {H1 : Hp} (w : EnumW J H0 xs) (Pv : Nat → St → Hp → Prop) (h0 : Pv 0 σ0 H1) (hl : ∀ i σ H, i ≤ xs.length → Pv i σ H → EXT.Ext H0 H)
    (hs : ∀ i x T σ H, xs[i]? = some x → Pv i σ H → H T = none → g (.ref T) σ (upd H T (.tup [V.int (i : Int), x])) fun σ2 H2 => tb { D with nx := Pv (i + 1), ct := Pv (i + 1), bk := D.nx } σ2 H2) (hd : ∀ σ H, Pv xs.length σ H → D.nx σ H) :
    ∃ W : Nat → Nat → St → Hp → Prop, (∃ m, W 0 m σ0 H1) ∧ ∀ i m σ H, W i m σ H →
      (J.stop i H ∧ D.nx σ H) ∨ (J.go i H ∧ ∃ N : St → Hp → Prop, (∀ σ' H', N σ' H' → ∃ m', m' < m ∧ W (i + 1) m' σ' H') ∧ ∀ x H', J.yld i H x H' → g x σ H' fun σ2 H2 => tb { D with nx := N, ct := N, bk := D.nx } σ2 H2) := by
  refine ⟨fun i m σ H => m = xs.length - i ∧ i ≤ xs.length ∧ Pv i σ H, ⟨xs.length, rfl, Nat.zero_le _, h0⟩, ?_⟩
  rintro i m σ H ⟨rfl, hi, p⟩
  have s := hl i σ H hi p
  by_cases hlt : i < xs.length
  · refine .inr ⟨w.go i H s hlt, Pv (i + 1), fun σ' H' p' => ⟨_, by omega, rfl, hlt, p'⟩, fun v H' y => ?_⟩
    obtain ⟨T, x, rfl, hT, rfl, hx⟩ := w.yld i H v H' s y
    exact hs i x T σ H hx p hT
  · have e : i = xs.length := by omega
    subst e
    exact .inl ⟨w.stop H s, hd σ H p⟩
end
/-- a walk over a list or a tuple that stood in H0 -/
structure SeqW (J : It) (H0 : Hp) (xs : List V) : Prop where
  go : ∀ i H, EXT.Ext H0 H → i < xs.length → J.go i H
  stop : ∀ H, EXT.Ext H0 H → J.stop xs.length H
  yld : ∀ i H v H', EXT.Ext H0 H → J.yld i H v H' → H' = H ∧ xs[i]? = some v
theorem seqW_list {K : PySem.W.Frag} {H : Hp} {a : Addr} {xs : List V} (h : SqL K H a xs) : SeqW (Itl K a) H xs := ⟨fun i H s hi => ⟨xs, _, s.seq h, List.getElem?_eq_getElem hi⟩, fun H s => ⟨xs, s.seq h, Nat.le_refl _⟩, fun i H v H' s y => ⟨y.1, y.2 xs (s.seq h)⟩⟩
theorem seqW_tup {K : PySem.W.Frag} {H : Hp} {a : Addr} {xs : List V} (h : SqT K H a xs) : SeqW (Itt K a) H xs := ⟨fun i H s hi => ⟨xs, _, s.tup h, List.getElem?_eq_getElem hi⟩, fun H s => ⟨xs, s.tup h, Nat.le_refl _⟩, fun i H v H' s y => ⟨y.1, y.2 xs (s.tup h)⟩⟩
/-- a list or a tuple, walked alike -/
def iSeqW (K : PySem.W.Frag) (tl : TE) : TI := fun σ H R => tl σ H fun x H1 => ∃ a xs H0, x = .ref a ∧ EXT.Ext H0 H1 ∧ (SqL K H0 a xs ∨ SqT K H0 a xs) ∧ ∀ J, SeqW J H0 xs → R J H1
theorem pi_seqW {X : Cx} {tg l : Expr} {tl : TE} (hl : PE X l tl) : PI X tg l (iSeqW X.K tl) := by
  refine ⟨fun pins s σ H R I h => ?_⟩
  refine thn (hl.run pins s σ H _ I h) fun v s1 ⟨x, H1, I1, r1, a, xs, H0, e, hE0, hq, q⟩ => ?_
  subst e
  cases r1
  rcases hq with hq | hq
  · obtain ⟨its, rv, p, hz⟩ := I1.list (hE0.seq hq)
    refine wpAny_pyIter_list p.isList ⟨s1.heap.objs.size, [s1.heap.objs.size], _, _, H1, rfl, I1.kept (t' := s1.toks) fun b o e => Heap.get?_push_of_some _ e, turn_list a _, ⟨_, Heap.get?_push_size _ rfl, rfl, rfl⟩, fun b hb => ?_, q _ (seqW_list hq)⟩
    obtain rfl : b = s1.heap.objs.size := by simpa using hb
    exact I1.fpOk (Nat.le_refl _) (I1.hok.fresh (Nat.le_refl _))
  · obtain ⟨its, rv, p, hz⟩ := I1.tuple (hE0.tup hq)
    refine wpAny_pyIter_tuple (show s1.heap.IsTuple a its.toArray from p) ⟨s1.heap.objs.size, [s1.heap.objs.size], _, _, H1, rfl, I1.kept (t' := s1.toks) fun b o e => Heap.get?_push_of_some _ e, turn_tuple a _, ⟨_, Heap.get?_push_size _ rfl, rfl, rfl⟩, fun b hb => ?_, q _ (seqW_tup hq)⟩
    obtain rfl : b = s1.heap.objs.size := by simpa using hb
    exact I1.fpOk (Nat.le_refl _) (I1.hok.fresh (Nat.le_refl _))
theorem w_seq {J : It} {H0 : Hp} {xs : List V} {B : V → Hp → (Hp → Prop) → Prop} {Nx : Hp → Prop} {H1 : Hp} (w : SeqW J H0 xs) (Pv : Nat → Hp → Prop) (h0 : Pv 0 H1) (hl : ∀ i H, i ≤ xs.length → Pv i H → EXT.Ext H0 H)
    (hs : ∀ i x H, xs[i]? = some x → Pv i H → B x H (Pv (i + 1))) (hd : ∀ H, Pv xs.length H → Nx H) :
    ∃ W : Nat → Nat → Hp → Prop, (∃ m, W 0 m H1) ∧ ∀ i m H, W i m H → (J.stop i H ∧ Nx H) ∨ (J.go i H ∧ ∃ N : Hp → Prop, (∀ H', N H' → ∃ m', m' < m ∧ W (i + 1) m' H') ∧ ∀ x H', J.yld i H x H' → B x H' N) := by
  refine ⟨fun i m H => m = xs.length - i ∧ i ≤ xs.length ∧ Pv i H, ⟨xs.length, rfl, Nat.zero_le _, h0⟩, ?_⟩
  rintro i m H ⟨rfl, hi, p⟩
  have s := hl i H hi p
  by_cases hlt : i < xs.length
  · refine .inr ⟨w.go i H s hlt, Pv (i + 1), fun H' p' => ⟨_, by omega, rfl, hlt, p'⟩, fun v H' y => ?_⟩
    obtain ⟨rfl, hx⟩ := w.yld i H v H' s y
    exact hs i v _ hx p
  · have e : i = xs.length := by omega
    subst e
    exact .inl ⟨w.stop H s, hd H p⟩
end L2
/-! ### min of a list of pairs of ints -/
namespace MINP
open PySem PySem.Spec PyProof.Rows L2
theorem lex2 {a b c d : Int} : HT.lexLt [a, b] [c, d] = decide (a < c ∨ (a = c ∧ b < d)) := by
  unfold HT.lexLt
  by_cases h : a = c
  · subst h
    simp only [if_true, Int.lt_irrefl, false_or, true_and]
    unfold HT.lexLt
    by_cases h2 : b = d
    · subst h2
      simp [HT.lexLt]
    · rw [if_neg h2]
  · rw [if_neg h]
    simp [h]
/-- the pair k at v -/
def At (h : Heap) (v : Value) (k : Int × Int) : Prop := ∃ a its, v = .ref a ∧ IsTup h a its ∧ IntsAre its.toList [k.1, k.2]
theorem At.keep {h h' : Heap} {v : Value} {k : Int × Int} {N : List Addr} (x : At h v k) (hk : ∀ (b : Addr) (o : Obj), b ∉ N → h.get? b = some o → h'.get? b = some o) (hn : ∀ a, v = .ref a → a ∉ N) : At h' v k := by
  obtain ⟨a, its, e, ⟨o, ho, h1, h2⟩, h3⟩ := x
  exact ⟨a, its, e, ⟨o, hk a o (hn a e) ho, h1, h2⟩, h3⟩
theorem At.lt {prog : Program} {w : World} {A : Around} {E : Value → Shared → Prop} {s : Shared} {u v : Value} {k m : Int × Int} {Q : Value → Shared → Prop} (x : At s.heap u k) (y : At s.heap v m) (hu : A.units < cLine) (q : Q (.bool (HT.lexLt [k.1, k.2] [m.1, m.2])) s) :
    wpAny (model prog w) A (richCompare .Lt u v) Q E s := by
  obtain ⟨a, its, rfl, h1, h2⟩ := x
  obtain ⟨b, jts, rfl, g1, g2⟩ := y
  exact HT.lt_tupInts h1 g1 h2 g2 hu q
abbrev tmp (xs : Array Value) (c : Nat) : Obj := { cls := .type "list", data := .seq xs c }
theorem loop {prog : Program} {w : World} {A : Around} {R : Result → Shared → Prop} {s0 : Shared} {I S l : Addr} {us : List Value} {ks : List (Int × Int)} (hd : A.handled = none) (hu : A.in1.units < cLine) (hl : s0.heap.IsList l us.toArray) (hk : Paired (At s0.heap) us ks) (hlI : l ≠ I) (hlS : l ≠ S) (hIS : I ≠ S)
    (hn : ∀ u ∈ us, ∀ a, u = .ref a → a ∉ [I, S])
    (fin : ∀ (i : Nat) (v : Value) (s : Shared), us[i]? = some v → (∀ (j : Nat) (x y : Int × Int), ks[j]? = some x → ks[i]? = some y → HT.lexLt [x.1, x.2] [y.1, y.2] = false) → (∀ (b : Addr) (o : Obj), b ∉ [I, S] → s0.heap.get? b = some o → s.heap.get? b = some o) → s.gens = s0.gens → s.drawn = s0.drawn → s.os = s0.os → R (.ok (.ret v)) s) :
    ∀ (r j i : Nat) (s : Shared) (v : Value) (c : Nat), us.length - j = r → j ≤ us.length → i < j → us[i]? = some v → (∀ (j' : Nat) (x y : Int × Int), j' < j → ks[j']? = some x → ks[i]? = some y → HT.lexLt [x.1, x.2] [y.1, y.2] = false) →
      s.heap.IsListIter I l j → s.heap.get? S = some (tmp #[v, v] c) → (∀ (b : Addr) (o : Obj), b ∉ [I, S] → s0.heap.get? b = some o → s.heap.get? b = some o) → s.gens = s0.gens → s.drawn = s0.drawn → s.os = s0.os →
      codeAny (model prog w) A (.builtin "min.loop" ⟨[.ref I, .none, .ref S], []⟩) R s := by
  intro r
  induction r with
  | zero =>
    intro j i s v c hr hj hij hv hb hI hS hkp hg hdr hos
    have ej : j = us.length := by omega
    subst ej
    have hl' : s.heap.IsList l us.toArray := by
      obtain ⟨o, ho, h⟩ := hl
      exact ⟨o, hkp l o (by simp [hlI, hlS]) ho, h⟩
    refine codeAny_builtin F.entry_min_loop ?_
    rw [Around.under_plainId F.plain_min_loop]
    unfold Builtin.«min.loop»
    have nx := fun (Q : Option Value → Shared → Prop) (E : Value → Shared → Prop) hQ => wpAny_pyNext_list_end (A := A.in1) (prog := prog) (w := w) (E := E) (Q := Q) hd hI hl' (by simp) hQ
    wp_walk using wpAny_load hS, nx
    refine wpAny_tryCatch (nx _ _ fun h' hx => ?_)
    have hS' : h'.get? S = some (tmp #[v, v] c) := hx S _ (Ne.symm hIS) hS
    show wpAny _ _ (updateSeq S (fun _ => #[]) >>= fun _ => letGo [v] [v] >>= fun _ => ret v) _ _ _
    refine wpAny_bind (wpAny_updateSeq (s := { s with heap := h' }) hS' rfl ?_)
    wp_walk
    refine fin i v _ hv (fun j x y h1 h2 => hb j x y ?_ h1 h2) (fun b o hn' e => ?_) hg hdr hos
    · rw [hk.length]
      exact (List.getElem?_eq_some_iff.mp h1).1
    · simp only [List.mem_cons, List.not_mem_nil, or_false, not_or] at hn'
      exact (Heap.get?_update_other _ _ (Ne.symm hn'.2)).trans (hx b o hn'.1 (hkp b o (by simp [hn'.1, hn'.2]) e))
  | succ r ih =>
    intro j i s v c hr hj hij hv hb hI hS hkp hg hdr hos
    have hlt : j < us.length := by omega
    have hl' : s.heap.IsList l us.toArray := by
      obtain ⟨o, ho, h⟩ := hl
      exact ⟨o, hkp l o (by simp [hlI, hlS]) ho, h⟩
    obtain ⟨u, hu2⟩ : ∃ u, us[j]? = some u := ⟨_, List.getElem?_eq_getElem hlt⟩
    refine codeAny_builtin F.entry_min_loop ?_
    rw [Around.under_plainId F.plain_min_loop]
    unfold Builtin.«min.loop»
    have nx := fun (Q : Option Value → Shared → Prop) (E : Value → Shared → Prop) hQ => wpAny_pyNext_list_item (A := A.in1) (prog := prog) (w := w) (E := E) (Q := Q) (x := u) hI hl' (by simpa using hu2) hQ
    wp_walk using wpAny_load hS, nx
    refine wpAny_tryCatch (nx _ _ fun h' hI' hx => ?_)
    have hS' : h'.get? S = some (tmp #[v, v] c) := (hx.2 S (Ne.symm hIS)).trans hS
    have hkp' : ∀ (b : Addr) (o : Obj), b ∉ [I, S] → s0.heap.get? b = some o → h'.get? b = some o := fun b o hb' e => by
      refine (hx.2 b ?_).trans (hkp b o hb' e)
      simp only [List.mem_cons, List.not_mem_nil, or_false, not_or] at hb'
      exact hb'.1
    have hil := (List.getElem?_eq_some_iff.mp hv).1
    obtain ⟨ku, hku, hau⟩ := EXT.paired_at hk hu2
    obtain ⟨kv, hkv, hav⟩ := EXT.paired_at hk hv
    have hau' := hau.keep hkp' (hn u (List.mem_of_getElem? hu2))
    have hav' := hav.keep hkp' (hn v (List.mem_of_getElem? hv))
    wp_walk
    refine wpAny_tryCatch (wpAny_holding (wpAny_bind (At.lt (s := { s with heap := h' }) hau' hav' hu ?_)))
    wp_walk
    have qm : (Code.builtin "min.loop" ⟨[.ref I, .none, .ref S], []⟩).quiet = true := plainId_quiet F.plain_min_loop _
    have kl := hk.length
    cases hc : HT.lexLt [ku.1, ku.2] [kv.1, kv.2] with
    | true =>
      simp only [if_true]
      refine wpAny_bind (wpAny_updateSeq (s := { s with heap := h' }) hS' rfl ?_)
      wp_walk
      have o1 := Heap.get?_update_self (Obj.mapSeq fun _ => #[u, u]) hS' rfl
      refine ⟨qm, ih (j + 1) j _ u _ (by omega) (by omega) (Nat.lt_succ_self _) hu2 (fun j' x y hj' h1 h2 => ?_) ?_ o1 (fun b o hn' e => ?_) hg hdr hos⟩
      · rw [hku] at h2
        cases h2
        by_cases e : j' = j
        · subst e
          rw [hku] at h1
          cases h1
          rw [lex2]
          refine decide_eq_false ?_
          omega
        · have := hb j' x kv (by omega) h1 hkv
          rw [lex2] at this hc ⊢
          have this := of_decide_eq_false this
          have hc := of_decide_eq_true hc
          refine decide_eq_false ?_
          omega
      · obtain ⟨o, ho, h1, h2⟩ := hI'
        exact ⟨o, (Heap.get?_update_other _ _ (Ne.symm hIS)).trans ho, h1, h2⟩
      · have hb2 := hn'
        simp only [List.mem_cons, List.not_mem_nil, or_false, not_or] at hb2
        exact (Heap.get?_update_other _ _ (Ne.symm hb2.2)).trans (hkp' b o hn' e)
    | false =>
      simp only [Bool.false_eq_true, if_false]
      wp_walk
      refine ⟨qm, ih (j + 1) i _ v c (by omega) (by omega) (by omega) hv (fun j' x y hj' h1 h2 => ?_) hI' hS' hkp' hg hdr hos⟩
      by_cases e : j' = j
      · subst e
        rw [hku] at h1
        cases h1
        rw [hkv] at h2
        cases h2
        exact hc
      · exact hb j' x y (by omega) h1 h2
theorem first {prog : Program} {w : World} {A : Around} {R : Result → Shared → Prop} {s0 : Shared} {I S l : Addr} {us : List Value} {ks : List (Int × Int)} {c : Nat} (hd : A.handled = none) (hu : A.in1.units < cLine) (hl : s0.heap.IsList l us.toArray) (hk : Paired (At s0.heap) us ks) (hlI : l ≠ I) (hlS : l ≠ S) (hIS : I ≠ S)
    (hn : ∀ u ∈ us, ∀ a, u = .ref a → a ∉ [I, S]) (hp : 0 < us.length) (hI : s0.heap.IsListIter I l 0) (hS : s0.heap.get? S = some (tmp #[] c))
    (fin : ∀ (i : Nat) (v : Value) (s : Shared), us[i]? = some v → (∀ (j : Nat) (x y : Int × Int), ks[j]? = some x → ks[i]? = some y → HT.lexLt [x.1, x.2] [y.1, y.2] = false) → (∀ (b : Addr) (o : Obj), b ∉ [I, S] → s0.heap.get? b = some o → s.heap.get? b = some o) → s.gens = s0.gens → s.drawn = s0.drawn → s.os = s0.os → R (.ok (.ret v)) s) :
    codeAny (model prog w) A (.builtin "min.loop" ⟨[.ref I, .none, .ref S], []⟩) R s0 := by
  obtain ⟨u, hu2⟩ : ∃ u, us[0]? = some u := ⟨_, List.getElem?_eq_getElem hp⟩
  refine codeAny_builtin F.entry_min_loop ?_
  rw [Around.under_plainId F.plain_min_loop]
  unfold Builtin.«min.loop»
  have nx := fun (Q : Option Value → Shared → Prop) (E : Value → Shared → Prop) hQ => wpAny_pyNext_list_item (A := A.in1) (prog := prog) (w := w) (E := E) (Q := Q) (x := u) hI hl (by simpa using hu2) hQ
  wp_walk using wpAny_load hS, nx
  refine wpAny_tryCatch (nx _ _ fun h' hI' hx => ?_)
  have hS' : h'.get? S = some (tmp #[] c) := (hx.2 S (Ne.symm hIS)).trans hS
  have hkp' : ∀ (b : Addr) (o : Obj), b ∉ [I, S] → s0.heap.get? b = some o → h'.get? b = some o := fun b o hb' e => by
    refine (hx.2 b ?_).trans e
    simp only [List.mem_cons, List.not_mem_nil, or_false, not_or] at hb'
    exact hb'.1
  have qm : (Code.builtin "min.loop" ⟨[.ref I, .none, .ref S], []⟩).quiet = true := plainId_quiet F.plain_min_loop _
  wp_walk
  have o1 := Heap.get?_update_self (Obj.mapSeq fun _ => #[u, u]) hS' rfl
  refine ⟨qm, loop hd hu hl hk hlI hlS hIS hn fin _ 1 0 _ u _ rfl hp (by decide) hu2 (fun j' x y hj' h1 h2 => ?_) ?_ o1 (fun b o hn' e => ?_) rfl rfl rfl⟩
  · obtain rfl : j' = 0 := by omega
    rw [h1] at h2
    cases h2
    rw [lex2]
    refine decide_eq_false ?_
    omega
  · obtain ⟨o, ho, h1, h2⟩ := hI'
    exact ⟨o, (Heap.get?_update_other _ _ (Ne.symm hIS)).trans ho, h1, h2⟩
  · have hb2 := hn'
    simp only [List.mem_cons, List.not_mem_nil, or_false, not_or] at hb2
    exact (Heap.get?_update_other _ _ (Ne.symm hb2.2)).trans (hkp' b o hn' e)
theorem call_min {prog : Program} {w : World} {A : Around} {E : Value → Shared → Prop} {s : Shared} {l : Addr} {us : List Value} {ks : List (Int × Int)} {Q : Value → Shared → Prop} (hd : A.handled = none) (hu : A.units + 8 < cLine) (hl : s.heap.IsList l us.toArray) (hk : Paired (At s.heap) us ks) (hp : 0 < us.length)
    (q : ∀ (i : Nat) (v : Value) (h' : Heap) (tk : Nat), us[i]? = some v → (∀ (j : Nat) (x y : Int × Int), ks[j]? = some x → ks[i]? = some y → HT.lexLt [x.1, x.2] [y.1, y.2] = false) → (∀ (b : Addr) (o : Obj), s.heap.get? b = some o → h'.get? b = some o) → Q v { s with heap := h', toks := tk }) :
    wpAny (model prog w) A (call (.builtin "min") [.ref l]) Q E s := by
  refine call_function_tree F.kind_min F.plain_min F.entry_min (F.args_min1 _) ?_
  unfold Builtin.min
  have hls := fun (Q : Value → Shared → Prop) (E : Value → Shared → Prop) h => wpAny_pyIter_list (prog := prog) (w := w) (A := A.in1) (s := s) (Q := Q) (E := E) hl h
  wp_walk using hls
  have qm : (Code.builtin "min.loop" ⟨[.ref s.heap.objs.size, .none, .ref (s.heap.push { cls := .type "list_iterator", data := .fields #[.ref l, .int 0 0] }).objs.size], []⟩).quiet = true := plainId_quiet F.plain_min_loop _
  have sz : (s.heap.push { cls := .type "list_iterator", data := .fields #[.ref l, .int 0 0] }).objs.size = s.heap.objs.size + 1 := size_push' _ _
  have old : ∀ {a : Addr} {o : Obj}, s.heap.get? a = some o → a ∉ [s.heap.objs.size, (s.heap.push { cls := .type "list_iterator", data := .fields #[.ref l, .int 0 0] }).objs.size] := fun {a o} e m => by
    have h1 := Heap.lt_size e
    simp only [List.mem_cons, List.not_mem_nil, or_false] at m
    rw [sz] at m
    rcases m with m | m
    · rw [m] at h1
      exact Nat.lt_irrefl _ h1
    · rw [m] at h1
      exact absurd h1 (Nat.not_lt_of_le (Nat.le_succ _))
  have kp : ∀ (b : Addr) (o : Obj), s.heap.get? b = some o → ((s.heap.push { cls := .type "list_iterator", data := .fields #[.ref l, .int 0 0] }).push { cls := .type "list", data := .seq #[] }).get? b = some o := fun b o e => Heap.get?_push_of_some _ (Heap.get?_push_of_some _ e)
  obtain ⟨ol, hol, hcl⟩ := id hl
  have hlo := old hol
  simp only [List.mem_cons, List.not_mem_nil, or_false, not_or] at hlo
  refine ⟨qm, first (c := 0) hd (by show A.units + 1 < cLine; omega) ⟨ol, kp l ol hol, hcl⟩ (EXT.paired_imp (fun v k x => ?_) hk) hlo.1 hlo.2 (by rw [sz]; exact (Nat.succ_ne_self _).symm) (fun u hu2 a e => ?_) hp ⟨_, Heap.get?_push_of_some _ (Heap.get?_push_size _ rfl), rfl, rfl⟩ (Heap.get?_push_size _ rfl) (fun i v s2 h1 h2 h3 h4 h5 h6 => ?_)⟩
  · obtain ⟨a, its, e, ⟨o, ho, g1⟩, g2⟩ := x
    exact ⟨a, its, e, ⟨o, kp a o ho, g1⟩, g2⟩
  · obtain ⟨i, hi⟩ := List.mem_iff_getElem?.mp hu2
    obtain ⟨k, _, a', its, e', ⟨o, ho, _⟩, _⟩ := EXT.paired_at hk hi
    rw [e] at e'
    cases e'
    exact old ho
  · have := q i v s2.heap s2.toks h1 h2 fun b o e => h3 b o (old e) (kp b o e)
    have es : s2 = { s with heap := s2.heap, toks := s2.toks } := by
      cases s2
      cases h4
      cases h5
      cases h6
      rfl
    rw [es]
    exact this
/-- min of a list of pairs of ints -/
def rMinP (K : PySem.W.Frag) : List V → Hp → VK → Prop := fun vs H Q => ∃ (a : Addr) (xs : List V) (ks : List (Int × Int)), vs = [V.ref a] ∧ SqL K H a xs ∧ Paired (fun v k => ∃ p, v = .ref p ∧ SqT K H p [.int k.1, .int k.2]) xs ks ∧ 0 < xs.length ∧
  ∀ (i : Nat) (v : V) (k : Int × Int), xs[i]? = some v → ks[i]? = some k → (∀ (j : Nat) (x : Int × Int), ks[j]? = some x → ¬ (x.1 < k.1 ∨ (x.1 = k.1 ∧ x.2 < k.2))) → Q v H
theorem at_all {X : Cx} {pins : List (Addr × Obj)} {σ : L2.St} {H : Hp} {s : Shared} (I : Inv X pins σ H s) : ∀ {xs : List V} {its : List Value} {ks : List (Int × Int)}, Vals xs its → Paired (fun v k => ∃ p, v = .ref p ∧ SqT X.K H p [.int k.1, .int k.2]) xs ks → Paired (At s.heap) its ks
  | _, _, _, .nil, .nil => .nil
  | _, _, _, .cons r t, .cons ⟨p, e, h⟩ u => by
    subst e
    cases r
    obtain ⟨its, rv, q, _⟩ := I.tuple h
    refine .cons ⟨p, its.toArray, rfl, q, ?_⟩ (at_all I t u)
    cases rv with
    | cons r1 t1 =>
      cases t1 with
      | cons r2 t2 =>
        cases t2
        obtain ⟨k1, e1⟩ := r1
        obtain ⟨k2, e2⟩ := r2
        subst e1
        subst e2
        exact .cons _ _ (.cons _ _ .nil)
theorem cr_minP {X : Cx} (hc : X.calm = true) (hu : X.A.units + 8 < cLine) : CallR X (.builtin "min") (rMinP X.K) := by
  intro pins s σ H xs us Q I hv h
  obtain ⟨a, xs, ks, rfl, hq, hk, hp, q⟩ := h
  cases hv with
  | cons r t =>
    cases t
    cases r
    obtain ⟨its, rv, p, hz⟩ := I.list hq
    have l1 := rv.length
    refine call_min (ks := ks) (I.ok.hd hc) hu p.isList (?_) (by omega) (fun i v h' tk h1 h2 hkp => ?_)
    · exact at_all I rv hk
    · obtain ⟨x, hx, hr⟩ := vals_get rv h1
      obtain ⟨k, hki, _⟩ := EXT.paired_at hk hx
      refine ⟨x, H, I.kept hkp, hr, q i x k hx hki fun j y hj => ?_⟩
      have := h2 j y k hj hki
      rw [lex2] at this
      exact of_decide_eq_false this
end MINP
/-! ### o[i] of a list, by values; sorted of a tuple of ints -/
namespace AUG
open PySem PySem.Spec PyProof.Rows L2
section
variable {X : Cx}
def rGetL (K : PySem.W.Frag) : V → V → Hp → VK → Prop := fun x y H Q => ∃ p xs i v, x = .ref p ∧ y = .int i ∧ 0 ≤ i ∧ SqL K H p xs ∧ xs[i.toNat]? = some v ∧ Q v H
theorem get_list : PGet X (rGetL X.K) := by
  intro pins s σ H x y v u Q I rx ry h
  obtain ⟨p, xs, i, z, rfl, rfl, h0, hq, he, q⟩ := h
  cases rx
  obtain ⟨t, rfl⟩ := ry
  obtain ⟨its, r, pl, hz⟩ := I.list hq
  obtain ⟨w, ew, rw'⟩ := r.get he
  have hl := r.length
  have hn := line63
  have hlt := (List.getElem?_eq_some_iff.mp he).1
  exact wpAny_getItem_list pl.isList h0 (by omega) (by simpa using ew) ⟨z, H, I, rw', q⟩
theorem sorted_tup {prog : Program} {w : World} {A : Around} {E : Value → Shared → Prop} {s : Shared} {t : Addr} {vs : List Value} {ns : List Int} {Q : Value → Shared → Prop} (ht : IsTup s.heap t vs.toArray) (hI : IntsAre vs ns) (h64 : vs.length < 64)
    (h : ∀ (h1 h' : Heap) (e : Nat) (out : Array Value) (ns' : List Int), (∀ b o, s.heap.get? b = some o → h1.get? b = some o) → (∀ b o, h1.get? b = some o → h'.get? b = some o) → h'.get? h1.objs.size = some (seqObj "list" out e) → IntsAre out.toList ns' → ns'.Perm ns → ns'.Pairwise (· ≤ ·) → Q (.ref h1.objs.size) { s with heap := h' }) :
    wpAny (model prog w) A (call (.builtin "sorted") [.ref t]) Q E s := by
  obtain ⟨o, ho, hc, n, hd⟩ := ht
  have hz : vs.length ≤ sizeLine := by rw [sizeLine_eq]; omega
  refine Calls.call_function_entry kind_sorted plain_sorted entry_sorted (args_sorted1 _) ?_
  unfold Builtin.«sorted»
  refine wpAny_bind (m := checkCount "sorted" 1 1 _) (wpAny_pure ?_)
  refine wpAny_bind (wpAny_collect_seq (T := "tuple") t (.inr rfl) ho hc hd (fun h1 k1 => ?_) (by simpa using hz))
  show wpAny _ _ _ _ _ _
  have e0 : vs.toArray.toList = vs := rfl
  rw [e0]
  refine wpAny_bind (wpAny_newList (s := { s with heap := h1 }) ?_ hz)
  have hoL : (h1.push (seqObj "list" vs.toArray 0)).get? h1.objs.size = some (seqObj "list" vs.toArray 0) := Heap.get?_push_size _ rfl
  show wpAny _ _ _ _ _ { s with heap := h1.push (seqObj "list" vs.toArray 0) }
  refine wpAny_bind (wpAny_holding (wpAny_call_entry slot_list_sort ⟨_, hoL, rfl⟩ entry_list_sort (list_sort_tree (s := { s with heap := h1.push (seqObj "list" vs.toArray 0) }) hoL hI h64 fun out ns' a1 a2 a3 => ⟨_, rfl, ?_⟩) (args_list_sort _)))
  obtain ⟨e, he⟩ := sortedHeap_at (out := out) hoL
  refine wpAny_pure ⟨_, rfl, h h1 _ e out ns' k1 (fun b o hb1 => ?_) he a1 a2 a3⟩
  have hlt := Heap.lt_size hb1
  rw [sortedHeap_old (Nat.ne_of_lt hlt) (by rw [size_push']; exact Nat.lt_succ_of_lt hlt)]
  exact Heap.get?_push_of_some _ hb1
/-- sorted(t), ints -/
def rSortedTu (K : PySem.W.Frag) : List V → Hp → VK → Prop := fun vs H Q => ∃ (a : Addr) (ns : List Int), vs = [V.ref a] ∧ SqT K H a (ns.map V.int) ∧ ns.length < 64 ∧
  ∀ (ns' : List Int) (p : Addr), ns'.Perm ns → ns'.Pairwise (· ≤ ·) → H p = none → Q (.ref p) (upd H p (.lst (ns'.map V.int)))
theorem cr_sortedTu : CallR X (.builtin "sorted") (rSortedTu X.K) := by
  intro pins s σ H vs us Q I r h
  obtain ⟨a, ns, rfl, hs, h64, q⟩ := h
  obtain ⟨its, rv, ht, _⟩ := I.tuple hs
  rw [Vals.ref1 r]
  have hi := rv.ints
  refine sorted_tup ht hi (by rw [hi.length]; exact h64) fun g h' e out ns' k1 kp he h1 h2 h3 => ?_
  have hlen : (ns'.map V.int).length ≤ sizeLine := by rw [List.length_map, h2.length_eq]; exact small64 h64
  have I1 : Inv X pins σ H { s with heap := g } := I.kept (t' := s.toks) k1
  exact ⟨.ref _, upd H g.objs.size (.lst (ns'.map V.int)), I1.laid (t' := s.toks) kp (Nat.le_refl _) ⟨hlen, out.toList, e, vals_of_ints h1, he⟩, rfl, q ns' _ h2 h3 (I1.hok.fresh (Nat.le_refl _))⟩
/-- an int's truth -/
theorem tru_int : TruR X (fun x H Q => ∃ i : Int, x = .int i ∧ Q (i != 0) H) := by
  intro pins s σ H x v Q I rx h
  obtain ⟨i, rfl, q⟩ := h
  exact tru_ok pins s σ H (.int i) v Q I rx ⟨_, rfl, q⟩
def tTruI (ta : TE) : TT := fun σ H Q => ta σ H fun x H' => ∃ i : Int, x = .int i ∧ Q (i != 0) H'
theorem pt_truthI {a : Expr} {ta : TE} (ha : PE X a ta) (he : ∀ whole, isTrue a X.env whole = (do let v ← whole; standAt a.pos; holding [v] (truthy v))) : PT X a (tTruI ta) :=
  ⟨fun pins s σ H Q I h => isTrue_plain (thn (ha.run pins s σ H _ I h) fun v s1 ⟨x, H1, I1, r1, q1⟩ => tru_int pins s1 σ H1 x v Q I1 r1 q1) (he _)⟩
end
end AUG
/-! ### sorted of a list of tuples of ints whose first item is () -/
namespace STU
open PySem PySem.Spec PyProof.Rows L2
section
variable {prog : Program} {w : World} {A : Around} {E : Value → Shared → Prop} {s : Shared}
/-- v is a tuple of these ints -/
def At (h : Heap) (v : Value) (ns : List Int) : Prop := ∃ a its, v = .ref a ∧ IsTup h a its ∧ IntsAre its.toList ns
theorem At.keeps {h h' : Heap} {v : Value} {ns : List Int} (x : At h v ns) (k : ∀ b o, v = .ref b → h.get? b = some o → h'.get? b = some o) : At h' v ns := by
  obtain ⟨a, its, e, ⟨o, ho, h1⟩, h2⟩ := x
  exact ⟨a, its, e, ⟨o, k a o e ho, h1⟩, h2⟩
theorem oneLt_tup {v u : Value} {ns ms : List Int} {Q : Bool → Shared → Prop} (hu : A.units < cLine) (hv : At s.heap v ns) (hw : At s.heap u ms) (h : Q (HT.lexLt ns ms) s) : wpAny (model prog w) A (keyLt' oneType' v u) Q E s := by
  obtain ⟨a, items, rfl, ⟨⟨cls, dd, data, sl⟩, ho, hc, n, hd⟩, hi⟩ := hv
  obtain ⟨b, items2, rfl, ⟨⟨cls2, dd2, data2, sl2⟩, ho2, hc2, n2, hd2⟩, hj⟩ := hw
  simp only at hc hd hc2 hd2
  subst hc hd hc2 hd2
  rw [keyLt'_oneType, oneLt'_eq]
  simp only [if_true]
  refine wpAny_bind (wpAny_cRoomFor hu ?_)
  refine wpAny_bind (wpAny_callSpecialIfBound?_slot (T := "tuple") ⟨_, ho, rfl⟩ PySem.F.slot_tuple_lt (call_meets PySem.F.slot_tuple_lt ⟨_, ho, rfl⟩ PySem.F.entry_tuple_lt (PySem.F.args_tuple_lt_2 _ _) (HT.tuple_lt_ints a b items items2 n n2 dd dd2 sl sl2 ns ms hi hj) ⟨ho, ho2, ?_⟩))
  exact wpAny_truthy_bool h
theorem mapM_by {α β : Type} {M : Model} {f : α → Sem β} {r : α → β} : ∀ (l : List α) {Q : List β → Shared → Prop}, (∀ v ∈ l, ∀ (Q' : β → Shared → Prop), Q' (r v) s → wpAny M A (f v) Q' E s) → Q (l.map r) s → wpAny M A (l.mapM f) Q E s
  | [], _, _, h => by
    rw [List.mapM_nil]
    exact wpAny_pure h
  | x :: l, Q, hf, h => by
    rw [List.mapM_cons]
    exact wpAny_bind (hf x (.head _) _ (wpAny_bind (mapM_by l (Q := fun bs s' => wpAny M A (pure (r x :: bs)) Q E s') (fun v hv => hf v (.tail _ hv)) (wpAny_pure h))))
theorem kind_tup {v0 : Value} {rest : List Value} {ks : Value → List Int} {Q : SortKind → Shared → Prop} (hv : ∀ v ∈ v0 :: rest, At s.heap v (ks v)) (h0 : ks v0 = []) (h : Q oneType' s) : wpAny (model prog w) A (keyKind' (v0 :: rest).toArray) Q E s := by
  have hx : ∀ v : Value, ∃ x : Array Value, v ∈ v0 :: rest → ∃ a, v = .ref a ∧ IsTup s.heap a x ∧ IntsAre x.toList (ks v) := fun v => by
    by_cases m : v ∈ v0 :: rest
    · obtain ⟨a, its, h1, h2, h3⟩ := hv v m
      exact ⟨its, fun _ => ⟨a, h1, h2, h3⟩⟩
    · exact ⟨#[], fun c => absurd c m⟩
  obtain ⟨its, hits⟩ := Classical.axiomOfChoice hx
  have e0 : (its v0)[0]? = none := by
    obtain ⟨a, _, _, h3⟩ := hits v0 (List.mem_cons_self ..)
    rw [h0] at h3
    have : (its v0).toList = [] := by
      cases hh : (its v0).toList with
      | nil => rfl
      | cons y ys =>
        rw [hh] at h3
        cases h3
    have l : (its v0).size = 0 := by rw [← Array.length_toList, this]; rfl
    exact Array.getElem?_eq_none (by omega)
  have hty : ∀ v ∈ v0 :: rest, s.TypeIs v "tuple" := fun v m => by
    obtain ⟨a, e, ⟨o, ho, hc, _⟩, _⟩ := hits v m
    rw [e]
    exact ⟨o, ho, hc⟩
  rw [kat_kind_eq, List.mapM_toArray, map_eq_pure_bind]
  refine wpAny_bind (wpAny_bind (mapM_by (r := fun v => (its v)[0]?) _ (fun v m Q' hq => ?_) (wpAny_pure ?_)))
  · obtain ⟨a, e, ⟨o, ho, hc, n, hd⟩, _⟩ := hits v m
    rw [PySem.W.kas_first_eq]
    refine wpAny_bind (wpAny_typeOf (hty v m) ?_)
    rw [if_neg (by first | decide | simp)]
    rw [e]
    refine wpAny_bind (listItems_at ho hd (wpAny_pure ?_))
    exact hq
  · have n1 : ¬ (((v0 :: rest).map fun v => (its v)[0]?).toArray.all fun x => x.isSome) = true := by
      rw [List.map_cons, e0]
      simp
    rw [if_neg n1]
    have n2 : ¬ ((((v0 :: rest).map fun v => (its v)[0]?).toArray[0]?.bind id).isSome) = true := by
      rw [List.map_cons, e0]
      simp
    rw [if_neg n2]
    rw [oneTypeOnly'_eq, List.mapM_toArray, map_eq_pure_bind]
    refine wpAny_bind (wpAny_bind (wpAny_bind (mapM_by (r := fun _ => Value.type "tuple") _ (fun v m Q' hq => wpAny_typeOf (hty v m) hq) (wpAny_pure ?_))))
    have hall : ((List.map (fun _ => Value.type "tuple") (v0 :: rest)).toArray.all fun x => x == Value.type "tuple") = true := by
      simp only [List.all_toArray, List.all_map, List.all_eq_true]
      intro _ _
      rfl
    have h1 : (List.map (fun _ => Value.type "tuple") (v0 :: rest)).toArray[0]? = some (Value.type "tuple") := by simp
    rw [h1]
    simp only [hall, if_true]
    exact wpAny_pure (wpAny_pure h)
theorem sortable {a : Addr} {v0 : Value} {rest : List Value} {ks : Value → List Int} (hu : A.units < cLine) (hv : ∀ v ∈ v0 :: rest, At s.heap v (ks v)) (h0 : ks v0 = []) (ha : ∀ v ∈ v0 :: rest, v ≠ .ref a) : SrtO.SortableO prog w A s a (v0 :: rest) fun v u => HT.lexLt (ks v) (ks u) := by
  intro h' keep
  have hv' : ∀ v ∈ v0 :: rest, At h' v (ks v) := fun v m => (hv v m).keeps fun b o e g => keep b o (fun z => ha v m (by rw [e, z])) g
  refine ⟨oneType', fun Q E hq => kind_tup (s := { s with heap := h' }) hv' h0 hq, fun p q hp hq => ?_⟩
  exact oneLt_tup (Q := fun r s' => s' = { s with heap := h' } ∧ r = HT.lexLt (ks p.1) (ks q.1)) (E := fun _ _ => False) (s := { s with heap := h' }) hu (hv' p.1 hp) (hv' q.1 hq) ⟨rfl, rfl⟩
end
/-- sorted(xs), xs tuples of ints (k says which), the first one empty -/
def rSortV (K : PySem.W.Frag) : List V → Hp → VK → Prop := fun vs H Q => ∃ (a : Addr) (x : V) (xs : List V) (k : V → List Int), vs = [V.ref a] ∧ SqL K H a (x :: xs) ∧ (∀ y ∈ x :: xs, ∃ t, y = V.ref t ∧ SqT K H t ((k y).map V.int)) ∧ k x = [] ∧
  ∀ ys p, ys.Perm (x :: xs) → ys.Pairwise (fun u v => HT.lexLt (k v) (k u) = false) → H p = none → Q (.ref p) (upd H p (.lst ys))
theorem cr_sortedV {X : Cx} (hu : X.A.units + 8 < cLine) : CallR X (.builtin "sorted") (rSortV X.K) := by
  intro pins s σ H vs us Q I r h
  obtain ⟨a, x, xs, k, rfl, hs, hx, h0, q⟩ := h
  obtain ⟨its, rv, hl, hz⟩ := I.list hs
  obtain ⟨u, rfl, ru⟩ := vals1 r
  obtain rfl : u = Value.ref a := ru
  obtain ⟨e1, e2⟩ := refs_back rv fun y m => by
    obtain ⟨t, e, _⟩ := hx y m
    exact ⟨t, e⟩
  have hat : ∀ v ∈ its, At s.heap v (k (backV v)) := fun v hv => by
    obtain ⟨t, rfl⟩ := e2 v hv
    have hm : V.ref t ∈ x :: xs := by
      rw [e1]
      exact List.mem_map.mpr ⟨_, hv, rfl⟩
    obtain ⟨t', e, ht⟩ := hx _ hm
    cases e
    obtain ⟨its2, r2, q2, _⟩ := I.tuple ht
    exact ⟨t, its2.toArray, rfl, q2, r2.ints⟩
  cases its with
  | nil => cases rv
  | cons v0 rest =>
    have h00 : k (backV v0) = [] := by
      rw [List.map_cons] at e1
      rw [← (List.cons.inj e1).1]
      exact h0
    refine SrtO.sorted_ord (NtL.swo_lexL fun v => k (backV v)) hl.isList (by rw [← rv.length]; exact hz) (fun h2 h₁ a' ha kk => ?_) fun out h1 h2 => ?_
    · refine sortable (s := { s with heap := h₁ }) (ks := fun v => k (backV v)) (by show X.A.units + 1 + 1 < cLine; omega) (fun v m => (hat v m).keeps fun b o _ g => (kk b o g).2) h00 fun v m e => ?_
      obtain ⟨b, its2, e', ⟨o, ho, _⟩, _⟩ := hat v m
      rw [e] at e'
      cases e'
      exact (kk _ o ho).1 rfl
    · have h3 : ∀ u ∈ out, ∃ a, u = Value.ref a := fun u hu => e2 u (h2.perm.mem_iff.mp hu)
      obtain ⟨n, hn⟩ := sortedAll_at s.heap (v0 :: rest) out.toArray
      have hp : (out.map backV).Perm (x :: xs) := by
        rw [e1]
        exact h2.perm.map backV
      refine ⟨.ref _, upd H (s.heap.objs.size + 1) (.lst (out.map backV)), I.laid (t' := s.toks) (fun _ _ => sortedAll_old) (Nat.le_succ _) ⟨by rw [hp.length_eq]; exact hz, out, n, vals_back h3, hn⟩, rfl, q _ _ hp (List.pairwise_map.mpr h1) (I.hok.fresh (Nat.le_succ _))⟩
end STU
namespace KP
open PySem PySem.Spec PyProof.Rows L2 EXT SDT GXP AUG
open PM (Trm Ex canon mulT look put gather keys addTo pw one addE Canon)
def veB : List Value := [.type "ValueError", .type "Exception", .type "BaseException", .type "object"]
def topS (i : Nat) : Stmt := PySem.Challenge.pw_spinfield_k13_even_sets.main.body.getD i (.Pass ⟨0, 0, 0, 0⟩)
abbrev s_even_sets : Stmt := topS 6
abbrev n_even_sets : List Str := ["spins", "rounds", "masks", "one", "mask"]
theorem sc_even_sets : FnScope n_even_sets ["spins"] (defScope s_even_sets) := ⟨rfl, rfl, rfl, by decide +kernel, rfl, by decide +kernel, by decide +kernel⟩
abbrev s_members : Stmt := topS 7
abbrev n_members : List Str := ["mask", "count", "index"]
theorem sc_members : FnScope n_members ["mask", "count"] (defScope s_members) := ⟨rfl, rfl, rfl, by decide +kernel, rfl, by decide +kernel, by decide +kernel⟩
abbrev s_independent_rounds : Stmt := topS 8
abbrev n_independent_rounds : List Str := ["spins", "count", "roots", "ways", "rounds", "index", "u", "v", "_", "link", "old", "vertex"]
theorem sc_independent_rounds : FnScope n_independent_rounds ["spins"] (defScope s_independent_rounds) := ⟨rfl, rfl, rfl, by decide +kernel, rfl, by decide +kernel, by decide +kernel⟩
abbrev s_Spins_init : Stmt := inClass (topS 13) 0
abbrev n_Spins_init : List Str := ["self", "fields", "edges", "edge"]
theorem sc_Spins_init : FnScope n_Spins_init ["self", "fields", "edges"] (defScope s_Spins_init) := ⟨rfl, rfl, rfl, by decide +kernel, rfl, by decide +kernel, by decide +kernel⟩
abbrev s_check_fields : Stmt := topS 14
abbrev n_check_fields : List Str := ["fields", "field"]
theorem sc_check_fields : FnScope n_check_fields ["fields"] (defScope s_check_fields) := ⟨rfl, rfl, rfl, by decide +kernel, rfl, by decide +kernel, by decide +kernel⟩
abbrev s_check_edges : Stmt := topS 15
abbrev n_check_edges : List Str := ["edges", "count", "u", "v", "j", "before", "behind"]
theorem sc_check_edges : FnScope n_check_edges ["edges", "count"] (defScope s_check_edges) := ⟨rfl, rfl, rfl, by decide +kernel, rfl, by decide +kernel, by decide +kernel⟩
abbrev s_law_cell : Stmt := topS 17
abbrev n_law_cell : List Str := ["script", "k"]
theorem sc_law_cell : FnScope n_law_cell ["script", "k"] (defScope s_law_cell) := ⟨rfl, rfl, rfl, by decide +kernel, rfl, by decide +kernel, by decide +kernel⟩
abbrev s_law_mix : Stmt := topS 18
abbrev n_law_mix : List Str := ["cell", "k", "number"]
theorem sc_law_mix : FnScope n_law_mix ["cell", "k"] (defScope s_law_mix) := ⟨rfl, rfl, rfl, by decide +kernel, rfl, by decide +kernel, by decide +kernel⟩
abbrev s_law_row : Stmt := topS 19
abbrev n_law_row : List Str := ["cell", "count", "bound", "found", "rest", "k"]
theorem sc_law_row : FnScope n_law_row ["cell", "count", "bound"] (defScope s_law_row) := ⟨rfl, rfl, rfl, by decide +kernel, rfl, by decide +kernel, by decide +kernel⟩
abbrev s_law_tuples : Stmt := topS 20
abbrev n_law_tuples : List Str := ["thing", "part"]
theorem sc_law_tuples : FnScope n_law_tuples ["thing"] (defScope s_law_tuples) := ⟨rfl, rfl, rfl, by decide +kernel, rfl, by decide +kernel, by decide +kernel⟩
abbrev s_law_spins : Stmt := topS 21
abbrev n_law_spins : List Str := ["script", "first", "most", "kind", "count", "fields", "digit", "pairs", "u", "v", "edges", "digits", "k", "coupling"]
theorem sc_law_spins : FnScope n_law_spins ["script", "first", "most", "kind"] (defScope s_law_spins) := ⟨rfl, rfl, rfl, by decide +kernel, rfl, by decide +kernel, by decide +kernel⟩
abbrev s_law_even_sets : Stmt := topS 23
abbrev n_law_even_sets : List Str := ["count", "pairs", "found", "mask", "chosen", "k", "parity", "number"]
theorem sc_law_even_sets : FnScope n_law_even_sets ["count", "pairs"] (defScope s_law_even_sets) := ⟨rfl, rfl, rfl, by decide +kernel, rfl, by decide +kernel, by decide +kernel⟩
abbrev s_law_many : Stmt := topS 24
abbrev n_law_many : List Str := ["count", "found", "k", "step", "u"]
theorem sc_law_many : FnScope n_law_many ["count"] (defScope s_law_many) := ⟨rfl, rfl, rfl, by decide +kernel, rfl, by decide +kernel, by decide +kernel⟩
abbrev s_law : Stmt := topS 25
abbrev n_law : List Str := ["script", "count", "edges", "number", "e", "fields", "told", "chosen", "edge"]
theorem sc_law : FnScope n_law ["script"] (defScope s_law) := ⟨rfl, rfl, rfl, by decide +kernel, rfl, by decide +kernel, by decide +kernel⟩
structure Top (K : PySem.W.Frag) (mg : Str → Option Value) : Type where
  f_even_sets : Addr
  d_even_sets : FuncData
  F_even_sets : Fun K "even_sets" "even_sets" s_even_sets f_even_sets d_even_sets
  b_even_sets : Binds K d_even_sets ["spins"] []
  g_even_sets : mg "even_sets" = some (.ref f_even_sets)
  f_members : Addr
  d_members : FuncData
  c_members : Addr
  P_members : Addr
  F_members : FunC K "_members" "_members" s_members f_members d_members c_members
  b_members : Binds K d_members ["mask", "count"] []
  g_members : mg "_members" = some (.ref f_members)
  f_independent_rounds : Addr
  d_independent_rounds : FuncData
  F_independent_rounds : Fun K "_independent_rounds" "_independent_rounds" s_independent_rounds f_independent_rounds d_independent_rounds
  b_independent_rounds : Binds K d_independent_rounds ["spins"] []
  g_independent_rounds : mg "_independent_rounds" = some (.ref f_independent_rounds)
  f_check_fields : Addr
  d_check_fields : FuncData
  c_check_fields : Addr
  P_check_fields : Addr
  F_check_fields : FunC K "_check_fields" "_check_fields" s_check_fields f_check_fields d_check_fields c_check_fields
  b_check_fields : Binds K d_check_fields ["fields"] []
  g_check_fields : mg "_check_fields" = some (.ref f_check_fields)
  f_check_edges : Addr
  d_check_edges : FuncData
  F_check_edges : Fun K "_check_edges" "_check_edges" s_check_edges f_check_edges d_check_edges
  b_check_edges : Binds K d_check_edges ["edges", "count"] []
  g_check_edges : mg "_check_edges" = some (.ref f_check_edges)
  f_law_cell : Addr
  d_law_cell : FuncData
  F_law_cell : Fun K "_law_cell" "_law_cell" s_law_cell f_law_cell d_law_cell
  b_law_cell : Binds K d_law_cell ["script", "k"] []
  g_law_cell : mg "_law_cell" = some (.ref f_law_cell)
  f_law_mix : Addr
  d_law_mix : FuncData
  F_law_mix : Fun K "_law_mix" "_law_mix" s_law_mix f_law_mix d_law_mix
  b_law_mix : Binds K d_law_mix ["cell", "k"] []
  g_law_mix : mg "_law_mix" = some (.ref f_law_mix)
  f_law_row : Addr
  d_law_row : FuncData
  F_law_row : Fun K "_law_row" "_law_row" s_law_row f_law_row d_law_row
  b_law_row : Binds K d_law_row ["cell", "count", "bound"] []
  g_law_row : mg "_law_row" = some (.ref f_law_row)
  f_law_tuples : Addr
  d_law_tuples : FuncData
  F_law_tuples : Fun K "_law_tuples" "_law_tuples" s_law_tuples f_law_tuples d_law_tuples
  b_law_tuples : Binds K d_law_tuples ["thing"] []
  g_law_tuples : mg "_law_tuples" = some (.ref f_law_tuples)
  f_law_spins : Addr
  d_law_spins : FuncData
  F_law_spins : Fun K "_law_spins" "_law_spins" s_law_spins f_law_spins d_law_spins
  b_law_spins : Binds K d_law_spins ["script", "first", "most", "kind"] []
  g_law_spins : mg "_law_spins" = some (.ref f_law_spins)
  f_law_even_sets : Addr
  d_law_even_sets : FuncData
  F_law_even_sets : Fun K "_law_even_sets" "_law_even_sets" s_law_even_sets f_law_even_sets d_law_even_sets
  b_law_even_sets : Binds K d_law_even_sets ["count", "pairs"] []
  g_law_even_sets : mg "_law_even_sets" = some (.ref f_law_even_sets)
  f_law_many : Addr
  d_law_many : FuncData
  F_law_many : Fun K "_law_many" "_law_many" s_law_many f_law_many d_law_many
  b_law_many : Binds K d_law_many ["count"] []
  g_law_many : mg "_law_many" = some (.ref f_law_many)
  t_MOST_SETS : Tok
  g_MOST_SETS : mg "MOST_SETS" = some (.int 8192 t_MOST_SETS)
  t_MOST_VERTICES : Tok
  g_MOST_VERTICES : mg "MOST_VERTICES" = some (.int 12 t_MOST_VERTICES)
  t_MOST_EDGES : Tok
  g_MOST_EDGES : mg "MOST_EDGES" = some (.int 24 t_MOST_EDGES)
  t_MOST_SIZE : Tok
  g_MOST_SIZE : mg "MOST_SIZE" = some (.int 9 t_MOST_SIZE)
  f_FieldError : Addr
  g_FieldError : mg "FieldError" = some (.ref f_FieldError)
  q_FieldError : PySem.W.excIn K f_FieldError veB "ValueError.__new__" = true
  k_FieldError : PySem.W.keepIn K (.ref f_FieldError) = true
  b_FieldError : PySem.W.subIn K (.ref f_FieldError) (.type "BaseException") = some true
  y_FieldError : PySem.W.typeIn K (.ref f_FieldError) = some (.type "type")
  f_InvalidSpins : Addr
  g_InvalidSpins : mg "InvalidSpins" = some (.ref f_InvalidSpins)
  q_InvalidSpins : PySem.W.excIn K f_InvalidSpins veB "ValueError.__new__" = true
  k_InvalidSpins : PySem.W.keepIn K (.ref f_InvalidSpins) = true
  b_InvalidSpins : PySem.W.subIn K (.ref f_InvalidSpins) (.type "BaseException") = some true
  y_InvalidSpins : PySem.W.typeIn K (.ref f_InvalidSpins) = some (.type "type")
  f_TooLarge : Addr
  g_TooLarge : mg "TooLarge" = some (.ref f_TooLarge)
  q_TooLarge : PySem.W.excIn K f_TooLarge veB "ValueError.__new__" = true
  k_TooLarge : PySem.W.keepIn K (.ref f_TooLarge) = true
  b_TooLarge : PySem.W.subIn K (.ref f_TooLarge) (.type "BaseException") = some true
  y_TooLarge : PySem.W.typeIn K (.ref f_TooLarge) = some (.type "type")
  C_Spins : Addr
  g_Spins : mg "Spins" = some (.ref C_Spins)
  cl_Spins : Cls K C_Spins
  f_Spins_init : Addr
  d_Spins_init : FuncData
  c_Spins_init : Addr
  P_Spins_init : Addr
  F_Spins_init : FunC K "__init__" "Spins.__init__" s_Spins_init f_Spins_init d_Spins_init c_Spins_init
  b_Spins_init : Binds K d_Spins_init ["self", "fields", "edges"] []
  mk_Spins : Mk K C_Spins f_Spins_init
  na_Spins_fields : NoAttr K C_Spins "fields"
  na_Spins_edges : NoAttr K C_Spins "edges"
  m_abs : mg "abs" = none
  m_all : mg "all" = none
  m_bool : mg "bool" = none
  m_enumerate : mg "enumerate" = none
  m_int : mg "int" = none
  m_isinstance : mg "isinstance" = none
  m_len : mg "len" = none
  m_list : mg "list" = none
  m_range : mg "range" = none
  m_sorted : mg "sorted" = none
  m_tuple : mg "tuple" = none
  m_zip : mg "zip" = none
  xm : PySem.W.exmOne K (.ref f_TooLarge) (.ref f_FieldError) = some true
  ki : PySem.W.kitOne K (.ref f_TooLarge) (.ref f_TooLarge) = some true
  ec : ExcC K f_TooLarge
structure Tb {K : PySem.W.Frag} {mg : Str → Option Value} (T : Top K mg) (base : Heap) : Prop where
  t_members : LamX.TabB base mg T.c_members T.P_members
  t_Spins_init : LamX.TabB base mg T.c_Spins_init T.P_Spins_init
  t_check_fields : LamX.TabB base mg T.c_check_fields T.P_check_fields
/-- the tables stand -/
structure Tg {K : PySem.W.Frag} {mg : Str → Option Value} (T : Top K mg) (H : Hp) : Prop where
  t_members : GxR.TabG H T.P_members
  t_Spins_init : GxR.TabG H T.P_Spins_init
  t_check_fields : GxR.TabG H T.P_check_fields
theorem Tg.ext {K : PySem.W.Frag} {mg : Str → Option Value} {T : Top K mg} {H H1 : Hp} (G : Tg T H) (s : Ext H H1) : Tg T H1 := ⟨s.tab G.t_members, s.tab G.t_Spins_init, s.tab G.t_check_fields⟩
theorem sl2 : (2 : Nat) ≤ sizeLine := by rw [sizeLine_eq]; decide
theorem sl_of {n : Nat} (h : n ≤ 1000000) : n ≤ sizeLine := by rw [sizeLine_eq]; omega
theorem sl_lt {n : Nat} (h : n < 1000000) : n < sizeLine := by rw [sizeLine_eq]; omega
end KP
namespace KP
open PySem PySem.Spec PyProof.Rows L2 EXT SDT GXP AUG
open PM (Trm Ex canon mulT look put gather keys addTo pw one addE Canon)
section
variable {P : Program} {w : World} {K : PySem.W.Frag} {mg : Str → Option Value} {base : Heap}
/-- // by a divisor that is not 0, below 2 ^ 9000 -/
def CDivZ (_ j : Int) : Prop := j ≠ 0 ∧ j.natAbs.log2 < 9000
theorem op_fdivZ {X : Cx} : OpR X (binaryOp .FloorDiv) (rI CDivZ fun i j => .int (i.fdiv j)) := opI fun i j _ _ _ _ _ hc q =>
  floordiv_int hc.1 q (.inl (PyProof.noPylong_of_log2 hc.2))
theorem same_upd {H : Hp} {p : Addr} {o : HO} (h : H p = none) : Same H (upd H p o) := fun b x e => by
  rw [upd_ne (ne_of_none e h)]
  exact e
theorem _root_.L2.Same.tup {K : PySem.W.Frag} {H H' : Hp} {a : Addr} {xs : List V} (e : Same H H') (h : SqT K H a xs) : SqT K H' a xs := e.ext.tup h
theorem take_snoc {α : Type} {l : List α} {i : Nat} {x : α} (h : l[i]? = some x) : l.take (i + 1) = l.take i ++ [x] := by
  rw [List.take_add_one, h]
  rfl
theorem _root_.L2.FunC.okX {x qual : Str} {st : Stmt} {f c : Addr} {fd : FuncData} {N ps : List Str} {k : Nat} {sp : Sp} (F : FunC K x qual st f fd c) (S : FnScope N ps (defScope st)) (len : ∀ vs H Q E, sp vs H Q E → vs.length = ps.length)
    (hbody : ∀ (A : Around) (outer : List Env) (s : Shared) (H : Hp) (vs : List V) (Q : VK) (E : XK), Room k (A.deeper (envOfC qual (defScope st) s.heap.objs.size f (.ref c))) → sp vs H Q E →
      ∃ t, PSs (cxOf (L2.CX P w) P w K mg base N qual (defScope st) f (.ref c) A outer s H E) (defBody st) t ∧ t { nx := fun _ H' => Q .non H', rt := Q } (start N vs) H) :
    FnOk P w K mg base (L2.CX P w) (k + 1) f fd ps sp := by
  obtain ⟨oc, od, kV, doc, pm, an, ct, osl, e, lk, hcd⟩ := F.ex
  subst e
  exact fn_of lk hcd S len fun A outer s H vs Q E hr hsp => hbody A outer s H vs Q E hr hsp
theorem iteB {c : Bool} {A B : Prop} (h1 : c = true → A) (h2 : c = false → B) : if c = true then A else B := by
  cases c
  · exact iteF (h2 rfl)
  · exact iteT (h1 rfl)
/-- fields as they may be -/
def goodF (fs : List Int) : Prop := 1 ≤ fs.length ∧ fs.length ≤ 12 ∧ ∀ f ∈ fs, -9 ≤ f ∧ f ≤ 9
def spFields (T : Top K mg) : Sp := fun vs H Q E => ∃ (a : Addr) (fs : List Int), vs = [.ref a] ∧ SqT K H a (fs.map V.int) ∧ Tg T H ∧
  (goodF fs → ∀ H', Ext H H' → Q .non H') ∧ (¬ goodF fs → ∀ H', Ext H H' → E (.ref T.f_InvalidSpins) none H')
theorem ok_check_fields (T : Top K mg) (B : Tb T base) : FnOk P w K mg base (L2.CX P w) 2 T.f_check_fields T.d_check_fields ["fields"] (spFields T) := by
  refine T.F_check_fields.okX sc_check_fields (fun vs H Q E h => ?_) (fun A outer s H vs Q E hr h => ?_)
  · obtain ⟨a, fs, rfl, _⟩ := h
    rfl
  · obtain ⟨a, fs, rfl, ha, G, q1, q2⟩ := h
    refine ⟨_, (pss_cons (ps_if (pt_not (pt_chain op_le op_le pe_int (pe_callB call_len_seq (by rfl) T.m_len (by decide +kernel) (pa_cons (pv 0) pa_nil)) (pe_glob (v := .int 12) (by rfl) T.g_MOST_VERTICES ⟨_, rfl⟩))) (pss_one (ps_raise rfl (takes_of rfl rfl rfl rfl) (pmk_own PySem.F.excBase_ValueError T.q_InvalidSpins T.g_InvalidSpins T.k_InvalidSpins (raises_own T.b_InvalidSpins T.y_InvalidSpins) (by rfl)))) pss_nil)
      (pss_one (ps_if (pt_not (pt_val (GXP.pe_allGx (own := [("field", 1)]) (g := gName 1) (tt := tYes) (k := 0) (c := T.c_check_fields) (P := T.P_check_fields) (by rfl) T.m_all ⟨hr.mono (by decide), rfl, B.t_check_fields, rfl, rfl, blkOk_by (own := [("field", 1)]) (N := n_check_fields) (sc := defScope s_check_fields) (by decide +kernel), sc_check_fields.nd, by decide +kernel, rfl, (pi_tup (pv 0)), fun A s H C cl code bi fp hrA => (pg_name (i := 1) sc_check_fields.nd rfl (by first | exact .inl rfl | exact .inr rfl)), fun A s H C cl code bi fp hrA => pts_nil, fun A s H C cl code bi fp hrA => (pe_chain op_le op_le (pe_un un_neg (pe_glob (v := .int 9) (by rfl) T.g_MOST_SIZE ⟨_, rfl⟩)) (pv 1) (pe_glob (v := .int 9) (by rfl) T.g_MOST_SIZE ⟨_, rfl⟩)), fun _ => rfl⟩))) (pss_one (ps_raise rfl (takes_of rfl rfl rfl rfl) (pmk_own PySem.F.excBase_ValueError T.q_InvalidSpins T.g_InvalidSpins T.k_InvalidSpins (raises_own T.b_InvalidSpins T.y_InvalidSpins) (by rfl)))) pss_nil))), ?_⟩
    have hl : (fs.map V.int).length = fs.length := List.length_map _
    have bad : ¬ goodF fs → ∀ H', Ext H H' → E (.ref T.f_InvalidSpins) none H' := q2
    refine ⟨_, rfl, a, _, rfl, .inr ha, _, _, rfl, rfl, _, rfl, ite2 (fun e1 => ?_) (fun e1 => ?_)⟩
    · have e1 : 1 ≤ fs.length := by
        have := of_decide_eq_true e1
        rw [hl] at this
        omega
      refine ⟨_, _, rfl, rfl, _, rfl, iteB (fun e2 => ?_) (fun e2 => ?_)⟩
      · have e2 : ¬ fs.length ≤ 12 := fun z => by
          have e3 : (12 : Int) < fs.length := by simpa using e2
          omega
        exact bad (fun g => e2 g.2.1) H (Ext.refl H)
      · have e2 : fs.length ≤ 12 := by
          have : decide (((fs.map V.int).length : Int) ≤ 12) = true := by simpa using e2
          have := of_decide_eq_true this
          rw [hl] at this
          omega
        refine ⟨_, rfl, a, rfl, ⟨_, ha⟩, G.t_check_fields, fun H2 t2 => ?_⟩
        have x2 : Ext H H2 := ext_tabbed G.t_check_fields t2
        refine gx_tup (xs := fs.map V.int) (fun i zs H3 => H3 = H2 ∧ ∀ f ∈ fs.take i, -9 ≤ f ∧ f ≤ 9) ⟨rfl, fun f m => by simp at m⟩ (fun i zs H3 _ h => by rw [h.1]; exact x2.tup ha) (fun i x zs H3 hi hP => ?_) (fun zs H3 hP => ?_)
        · obtain ⟨rfl, hz⟩ := hP
          rw [List.getElem?_map] at hi
          cases hf : fs[i]? with
          | none => rw [hf] at hi; cases hi
          | some f =>
            rw [hf] at hi
            cases hi
            have hm := List.mem_of_getElem? hf
            have take1 : fs.take (i + 1) = fs.take i ++ [f] := by rw [List.take_add_one, hf]; rfl
            refine ⟨rfl, _, rfl, _, rfl, _, _, rfl, rfl, _, rfl, ite2 (fun e3 => ?_) (fun e3 => ?_)⟩
            · have e3 := of_decide_eq_true e3
              refine ⟨_, _, rfl, rfl, _, rfl, ?_⟩
              by_cases e4 : f ≤ 9
              · rw [decide_eq_true e4, if_neg (by decide)]
                refine ⟨rfl, fun g m => ?_⟩
                rw [take1] at m
                rcases List.mem_append.mp m with m | m
                · exact hz g m
                · rw [List.mem_singleton.mp m]
                  exact ⟨e3, e4⟩
              · rw [decide_eq_false e4, if_pos rfl]
                exact ⟨_, rfl, iteT (bad (fun g => e4 (g.2.2 f hm).2) _ x2)⟩
            · have e3 : ¬ -9 ≤ f := fun z => e3 (decide_eq_true z)
              refine ⟨_, rfl, ?_⟩
              rw [if_pos rfl]
              exact ⟨_, rfl, iteT (bad (fun g => e3 (g.2.2 f hm).1) _ x2)⟩
        · obtain ⟨rfl, hz⟩ := hP
          rw [hl, List.take_length] at hz
          exact ⟨_, rfl, iteF (q1 ⟨e1, e2, hz⟩ _ x2)⟩
    · have e1 : ¬ 1 ≤ fs.length := fun z => e1 (decide_eq_true (by rw [hl]; omega))
      exact ⟨_, rfl, iteT (bad (fun g => e1 g.1) H (Ext.refl H))⟩
/-- an edge, as a tuple of three ints -/
abbrev Eg := Int × Int × Int
def EdgeAt (K : PySem.W.Frag) (H : Hp) (v : V) (e : Eg) : Prop := ∃ a, v = .ref a ∧ SqT K H a [.int e.1, .int e.2.1, .int e.2.2]
def okE (n : Int) (e : Eg) : Prop := 0 ≤ e.1 ∧ e.1 < e.2.1 ∧ e.2.1 < n ∧ e.2.2 ≠ 0 ∧ -9 ≤ e.2.2 ∧ e.2.2 ≤ 9
def ltEg (x y : Eg) : Prop := x.1 < y.1 ∨ (x.1 = y.1 ∧ x.2.1 < y.2.1)
def goodE (n : Int) (es : List Eg) : Prop := es.length ≤ 24 ∧ (∀ e ∈ es, okE n e) ∧ ∀ i x y, es[i]? = some x → es[i + 1]? = some y → ltEg x y
def spEdges (T : Top K mg) : Sp := fun vs H Q E => ∃ (a : Addr) (xs : List V) (es : List Eg) (n : Int), vs = [.ref a, .int n] ∧ SqT K H a xs ∧ Paired (EdgeAt K H) xs es ∧ es.length < 1000000 ∧
  (goodE n es → ∀ H', Ext H H' → Q .non H') ∧ (¬ goodE n es → ∀ H', Ext H H' → E (.ref T.f_InvalidSpins) none H')
theorem cut2 {x y z : V} : ¬ (HT.sIx [x, y, z].length 0 none = 0 ∧ HT.sIx [x, y, z].length [x, y, z].length (some 2) = [x, y, z].length) := fun w => by
  have h := w.2
  rw [show (some (2 : Int)) = some ((2 : Nat) : Int) from rfl, HT.sIx_nat] at h
  simp at h
theorem ok_check_edges (T : Top K mg) : FnOk P w K mg base (L2.CX P w) 1 T.f_check_edges T.d_check_edges ["edges", "count"] (spEdges T) := by
  refine T.F_check_edges.okX sc_check_edges (fun vs H Q E h => ?_) (fun cdv A outer s H vs Q E hr h => ?_)
  · obtain ⟨a, xs, es, n, rfl, _⟩ := h
    rfl
  · obtain ⟨a, xs, es, n, rfl, ha, hes, hlen, q1, q2⟩ := h
    refine ⟨_, (pss_cons (ps_if (pt_cmpR op_gt (pe_callB call_len_seq (by rfl) T.m_len (by decide +kernel) (pa_cons (pv 0) pa_nil)) (pe_glob (v := .int 24) (by rfl) T.g_MOST_EDGES ⟨_, rfl⟩) (nomark _)) (pss_one (ps_raise rfl (takes_of rfl rfl rfl rfl) (pmk_own PySem.F.excBase_ValueError T.q_InvalidSpins T.g_InvalidSpins T.k_InvalidSpins (raises_own T.b_InvalidSpins T.y_InvalidSpins) (by rfl)))) pss_nil)
      (pss_cons (ps_for (passes_of rfl) rfl (pi_tup (pv 0)) (pg_tup rfl (pgs_cons (pg_name (i := 2) sc_check_edges.nd rfl (by first | exact .inl rfl | exact .inr rfl)) (pgs_cons (pg_name (i := 3) sc_check_edges.nd rfl (by first | exact .inl rfl | exact .inr rfl)) (pgs_cons (pg_name (i := 4) sc_check_edges.nd rfl (by first | exact .inl rfl | exact .inr rfl)) pgs_nil)))) (pss_cons (ps_if (pt_not (pt_chain3 op_le op_lt op_lt pe_int (pv 2) (pv 3) (pv 1))) (pss_one (ps_raise rfl (takes_of rfl rfl rfl rfl) (pmk_own PySem.F.excBase_ValueError T.q_InvalidSpins T.g_InvalidSpins T.k_InvalidSpins (raises_own T.b_InvalidSpins T.y_InvalidSpins) (by rfl)))) pss_nil)
      (pss_one (ps_if (PW.pt (pw_or (pt_cmpR op_eq (pv 4) pe_int (nomark _)) (pw_or1 (pt_not (pt_chain op_le op_le (pe_un un_neg (pe_glob (v := .int 9) (by rfl) T.g_MOST_SIZE ⟨_, rfl⟩)) (pv 4) (pe_glob (v := .int 9) (by rfl) T.g_MOST_SIZE ⟨_, rfl⟩)))))) (pss_one (ps_raise rfl (takes_of rfl rfl rfl rfl) (pmk_own PySem.F.excBase_ValueError T.q_InvalidSpins T.g_InvalidSpins T.k_InvalidSpins (raises_own T.b_InvalidSpins T.y_InvalidSpins) (by rfl)))) pss_nil))))
      (pss_one (ps_for (passes_of rfl) rfl (RZ.pi_zipA (by rfl) T.m_zip (pa_cons (pv 0) (pa_cons (pe_slice sl_tupA (pv 0) (po_some pe_int) po_none) pa_nil))) (pg_tup rfl (pgs_cons (pg_name (i := 5) sc_check_edges.nd rfl (by first | exact .inl rfl | exact .inr rfl)) (pgs_cons (pg_name (i := 6) sc_check_edges.nd rfl (by first | exact .inl rfl | exact .inr rfl)) pgs_nil))) (pss_one (ps_if (pt_cmpR (op_geP (Nat.lt_of_le_of_lt (Nat.le_add_right _ _) hr.units)) (pe_slice sl_tupA (pv 5) po_none (po_some pe_int)) (pe_slice sl_tupA (pv 6) po_none (po_some pe_int)) (nomark _)) (pss_one (ps_raise rfl (takes_of rfl rfl rfl rfl) (pmk_own PySem.F.excBase_ValueError T.q_InvalidSpins T.g_InvalidSpins T.k_InvalidSpins (raises_own T.b_InvalidSpins T.y_InvalidSpins) (by rfl)))) pss_nil)))))), ?_⟩
    have bad : ¬ goodE n es → ∀ H', Ext H H' → E (.ref T.f_InvalidSpins) none H' := q2
    have hl := hes.length
    refine ⟨_, rfl, a, _, rfl, .inr ha, _, _, rfl, rfl, _, rfl, ite2 (fun e1 => ?_) (fun e1 => ?_)⟩
    · have e1 := of_decide_eq_true e1
      exact bad (fun g => by have := g.1; omega) H (Ext.refl H)
    have el24 : es.length ≤ 24 := by
      have : ¬ (24 : Int) < (xs.length : Int) := fun z => e1 (decide_eq_true z)
      omega
    refine ⟨_, rfl, a, rfl, ⟨_, ha⟩, for_tup (xs := xs) (fun i σ H1 => (∃ x1 x2 x3, σ = [some (.ref a), some (.int n), x1, x2, x3, none, none]) ∧ Ext H H1 ∧ ∀ e ∈ es.take i, okE n e) ⟨⟨_, _, _, rfl⟩, Ext.refl H, fun e m => by simp at m⟩ (fun i σ H1 _ h => h.2.1.tup ha) (fun i x σ H1 hi hP => ?_) (fun σ H1 hP => ?_)⟩
    · obtain ⟨⟨x1, x2, x3, rfl⟩, s1, hok⟩ := hP
      obtain ⟨⟨u, v, j⟩, hei, a1, rfl, h1⟩ := paired_at hes hi
      have hm := List.mem_of_getElem? hei
      have take1 : es.take (i + 1) = es.take i ++ [(u, v, j)] := by rw [List.take_add_one, hei]; rfl
      have bade : ¬ okE n (u, v, j) → E (.ref T.f_InvalidSpins) none H1 := fun z => bad (fun g => z (g.2.1 _ hm)) H1 s1
      refine ⟨a1, _, rfl, s1.tup h1, rfl, _, _, rfl, _, _, rfl, _, _, rfl, rfl, ?_⟩
      refine ⟨_, rfl, _, _, rfl, rfl, _, rfl, ite2 (fun b1 => ?_) (fun b1 => ?_)⟩
      · have b1 : 0 ≤ u := of_decide_eq_true b1
        refine ⟨_, rfl, _, _, rfl, rfl, _, rfl, ite2 (fun b2 => ?_) (fun b2 => ?_)⟩
        · have b2 : u < v := of_decide_eq_true b2
          refine ⟨_, rfl, _, _, rfl, rfl, _, rfl, ?_⟩
          by_cases b3 : v < n
          · rw [decide_eq_true b3]
            refine iteF ?_
            refine ⟨_, rfl, rfl, _, rfl, ?_⟩
            by_cases b4 : j = 0
            · subst b4
              refine iteT (iteT (bade fun z => z.2.2.2.1 rfl))
            · have d4 : decide (V.int j = V.int 0) = false := decide_eq_false fun z => b4 (V.int.inj z)
              rw [d4]
              refine iteF ?_
              refine ⟨_, rfl, _, rfl, _, _, rfl, rfl, _, rfl, ite2 (fun b5 => ?_) (fun b5 => ?_)⟩
              · have b5 : -9 ≤ j := of_decide_eq_true b5
                refine ⟨_, _, rfl, rfl, _, rfl, ?_⟩
                by_cases b6 : j ≤ 9
                · rw [decide_eq_true b6]
                  refine iteF ⟨⟨_, _, _, rfl⟩, s1, fun e m => ?_⟩
                  rw [take1] at m
                  rcases List.mem_append.mp m with m | m
                  · exact hok e m
                  · rw [List.mem_singleton.mp m]
                    exact ⟨b1, b2, b3, b4, b5, b6⟩
                · rw [decide_eq_false b6]
                  exact iteT (bade fun z => b6 z.2.2.2.2.2)
              · have b5 : ¬ -9 ≤ j := fun z => b5 (decide_eq_true z)
                exact ⟨_, rfl, iteT (bade fun z => b5 z.2.2.2.2.1)⟩
          · rw [decide_eq_false b3]
            exact iteT (bade fun z => b3 z.2.2.1)
        · have b2 : ¬ u < v := fun z => b2 (decide_eq_true z)
          exact ⟨_, rfl, iteT (bade fun z => b2 z.2.1)⟩
      · have b1 : ¬ 0 ≤ u := fun z => b1 (decide_eq_true z)
        exact ⟨_, rfl, iteT (bade fun z => b1 z.1)⟩
    · obtain ⟨⟨x1, x2', x3, rfl⟩, s1, hok⟩ := hP
      rw [hl, List.take_length] at hok
      -- the pairs ascend
      refine ⟨_, rfl, _, rfl, 1, rfl, a, xs, rfl, s1.tup ha, fun hw => ?_, fun hw p hp => ?_⟩
      · have z0 : xs.length = 0 := by
          have h1 := hw.1
          rw [show (some (1 : Int)) = some ((1 : Nat) : Int) from rfl, HT.sIx_nat] at h1
          omega
        obtain rfl := List.length_eq_zero_iff.mp z0
        refine ⟨a, a, [], [], rfl, .inr ⟨s1.tup ha, s1.tup ha, for_zipM (Nat.le_refl _) (fun i σ H3 => Ext H1 H3) (Ext.refl _) (fun i σ H3 h => ⟨(s1.trans h).tup ha, (s1.trans h).tup ha⟩) (fun i x y T' σ H3 hx => by simp at hx) (fun σ H3 h => ?_)⟩⟩
        refine q1 ⟨el24, hok, fun i x y hx => ?_⟩ H3 (s1.trans h)
        have : es.length = 0 := by rw [← hl]; exact z0
        obtain rfl := List.length_eq_zero_iff.mp this
        simp at hx
      · have ec : cutV xs (some 1) none = xs.drop 1 := by
          unfold cutV
          rw [show (some (1 : Int)) = some ((1 : Nat) : Int) from rfl, HT.sIx_nat, HT.sIx_none]
          by_cases z : xs.length = 0
          · obtain rfl := List.length_eq_zero_iff.mp z
            rfl
          · have z1 : min 1 xs.length = 1 := by omega
            rw [z1]
            refine List.take_of_length_le ?_
            rw [List.length_drop]
            exact Nat.le_refl _
        rw [ec]
        have x2 : Ext H1 (upd H1 p (.tup (xs.drop 1))) := ext_upd hp
        have hb : SqT K (upd H1 p (.tup (xs.drop 1))) p (xs.drop 1) := SqT.of upd_same
        generalize upd H1 p (.tup (xs.drop 1)) = H2 at *
        have s2 := s1.trans x2
        refine ⟨a, p, xs, xs.drop 1, rfl, .inr ⟨s2.tup ha, hb, for_zipM (by rw [List.length_drop]; omega) (fun i σ H3 => (∃ w1 w2, σ = [some (.ref a), some (.int n), x1, x2', x3, w1, w2]) ∧ Ext H2 H3 ∧ ∀ k x y, k < i → es[k]? = some x → es[k + 1]? = some y → ltEg x y)
          ⟨⟨_, _, rfl⟩, Ext.refl _, fun k x y hk => absurd hk (by omega)⟩ (fun i σ H3 h => ⟨(s2.trans h.2.1).tup ha, h.2.1.tup hb⟩) (fun i x y T' σ H3 hx hy hP hT => ?_) (fun σ H3 hP => ?_)⟩⟩
        · obtain ⟨⟨w1, w2, rfl⟩, s3, hlt⟩ := hP
          rw [List.getElem?_drop] at hy
          obtain ⟨⟨u, v, j⟩, hex, a1, rfl, g1⟩ := paired_at hes hx
          obtain ⟨⟨u', v', j'⟩, hey, a2, rfl, g2⟩ := paired_at hes hy
          have hey : es[i + 1]? = some (u', v', j') := by rw [Nat.add_comm]; exact hey
          have s4 : Ext H (upd H3 T' (.tup [.ref a1, .ref a2])) := (s2.trans s3).new hT
          have s5 : Ext H2 (upd H3 T' (.tup [.ref a1, .ref a2])) := s3.new hT
          refine ⟨T', _, rfl, SqT.of upd_same, rfl, _, _, rfl, _, _, rfl, rfl, ?_⟩
          generalize upd H3 T' (.tup [.ref a1, .ref a2]) = H4 at *
          refine ⟨_, rfl, 2, rfl, a1, _, rfl, s4.tup g1, fun w => absurd w cut2, fun _ p1 hp1 => ?_⟩
          have s6 := s4.new (o := .tup (cutV [V.int u, .int v, .int j] none (some 2))) hp1
          refine ⟨_, rfl, 2, rfl, a2, _, rfl, s6.tup g2, fun w => absurd w cut2, fun _ p2 hp2 => ?_⟩
          have s7 := s6.new (o := .tup (cutV [V.int u', .int v', .int j'] none (some 2))) hp2
          refine ⟨p1, p2, (u, v), (u', v'), rfl, rfl, SqT.of ((ext_upd hp2).at upd_same), SqT.of upd_same, _, rfl, iteB (fun z => ?_) (fun z => ?_)⟩
          · have z : geP (u, v) (u', v') = true := z
            refine bad (fun g => ?_) _ s7
            have h1 := g.2.2 i _ _ hex hey
            have h2 : SrtO.lexB (u, v) (u', v') = true := SrtO.lexB_iff.mpr h1
            unfold geP at z
            rw [h2] at z
            cases z
          · have z : geP (u, v) (u', v') = false := z
            refine ⟨⟨_, _, rfl⟩, (s5.new hp1).new hp2, fun k x y hk hkx hky => ?_⟩
            by_cases ek : k = i
            · subst ek
              rw [hex] at hkx
              rw [hey] at hky
              cases hkx
              cases hky
              refine (SrtO.lexB_iff (p := (u, v)) (q := (u', v'))).mp ?_
              unfold geP at z
              simpa using z
            · exact hlt k x y (by omega) hkx hky
        · obtain ⟨⟨w1, w2, rfl⟩, s3, hlt⟩ := hP
          refine q1 ⟨el24, hok, fun i x y hx hy => hlt i x y ?_ hx hy⟩ H3 (s2.trans s3)
          have := (List.getElem?_eq_some_iff.mp hy).1
          rw [List.length_drop]
          omega
/-- tuple(x) of a list, a tuple -/
def rTupOf (K : PySem.W.Frag) : List V → Hp → VK → Prop := fun xs H Q => ∃ p ys, xs = [.ref p] ∧ ((SqL K H p ys ∧ ∀ l, H l = none → Q (.ref l) (upd H l (.tup ys))) ∨ (SqT K H p ys ∧ Q (.ref p) H))
/-- a list or a tuple at a -/
abbrev Sq (K : PySem.W.Frag) (H : Hp) (a : Addr) (xs : List V) : Prop := SqL K H a xs ∨ SqT K H a xs
theorem _root_.EXT.Ext.sq {H H' : Hp} (s : Ext H H') {a : Addr} {xs : List V} (h : Sq K H a xs) : Sq K H' a xs := h.imp s.seq s.tup
theorem _root_.EXT.Ext.edges {H H' : Hp} (s : Ext H H') {xs : List V} {es : List Eg} (h : Paired (EdgeAt K H) xs es) : Paired (EdgeAt K H') xs es := paired_imp (fun _ _ ⟨a, e, h⟩ => ⟨a, e, s.tup h⟩) h
theorem sqt_ins {H : Hp} {p C dx a : Addr} {fs : List (Str × V)} {xs : List V} {o : HO} (hp : H p = some (.ins C dx fs)) (h : SqT K H a xs) : SqT K (upd H p o) a xs := by
  rcases h with (h | ⟨o', h⟩) | h
  · exact .inl (.inl (by rw [upd_ne (fun z => by rw [z, hp] at h; cases h)]; exact h))
  · exact .inl (.inr ⟨o', by rw [upd_ne (fun z => by rw [z, hp] at h; cases h)]; exact h⟩)
  · exact .inr h
/-- a new one is made at p (not there in H0) -/
def spInit (T : Top K mg) : Sp := fun vs H Q E => ∃ (p dx fa ea : Addr) (fs : List Int) (xs : List V) (es : List Eg) (H0 : Hp), vs = [.ref p, .ref fa, .ref ea] ∧ H p = some (.ins T.C_Spins dx []) ∧ H0 p = none ∧ Ext H0 H ∧
  Sq K H0 fa (fs.map V.int) ∧ Sq K H0 ea xs ∧ Paired (EdgeAt K H0) xs es ∧ es.length < 1000000 ∧ fs.length < 1000000 ∧ Tg T H0 ∧
  (goodF fs → goodE fs.length es → ∀ H' fb eb ys, Ext H0 H' → H' p = some (.ins T.C_Spins dx [("fields", .ref fb), ("edges", .ref eb)]) → SqT K H' fb (fs.map V.int) → SqT K H' eb ys → Paired (EdgeAt K H') ys es → Q .non H') ∧
  (¬ (goodF fs ∧ goodE fs.length es) → ∀ H', Ext H0 H' → E (.ref T.f_InvalidSpins) none H')
theorem ok_Spins_init (T : Top K mg) (B : Tb T base) : FnOk P w K mg base (L2.CX P w) 4 T.f_Spins_init T.d_Spins_init ["self", "fields", "edges"] (spInit T) := by
  refine T.F_Spins_init.okX sc_Spins_init (fun vs H Q E h => ?_) (fun A outer s H vs Q E hr h => ?_)
  · obtain ⟨p, dx, fa, ea, fs, xs, es, H0, rfl, _⟩ := h
    rfl
  · obtain ⟨p, dx, fa, ea, fs, xs, es, H0, rfl, hp, h0, s0, hf, he, hes, el, fl, G, q1, q2⟩ := h
    refine ⟨_, (C8.pss_cut (ps_fld (pv 0) (pe_callTy call_tuple_of (by rfl) T.m_tuple (by decide +kernel) (pa_cons (pv 1) pa_nil)) rfl)
      (C8.pss_cut (ps_fld (pv 0) (GXP.pe_tupleGx (own := [("edge", 3)]) (g := gName 3) (tt := tYes) (k := 2) (c := T.c_Spins_init) (P := T.P_Spins_init) (by rfl) T.m_tuple ⟨hr.mono (by decide), rfl, B.t_Spins_init, rfl, rfl, blkOk_by (own := [("edge", 3)]) (N := n_Spins_init) (sc := defScope s_Spins_init) (by decide +kernel), sc_Spins_init.nd, by decide +kernel, rfl, (pi_seq (pv 2)), fun A s H C cl code bi fp hrA => (pg_name (i := 3) sc_Spins_init.nd rfl (by first | exact .inl rfl | exact .inr rfl)), fun A s H C cl code bi fp hrA => pts_nil, fun A s H C cl code bi fp hrA => (pe_callTy (T := "tuple") (r := rTupOf K) call_tuple_of (by rfl) T.m_tuple (by decide +kernel) (pa_cons (pv 3) pa_nil)), fun _ => rfl⟩) rfl)
      (pss_cons (ps_expr (pe_call (ok_check_fields T B) (hr.mono (by decide)) (by rfl) T.g_check_fields T.F_check_fields.kp T.b_check_fields .nil (passes_call (takes_of rfl rfl rfl rfl) (fun _ _ _ _ h => h)) (pa_cons (pe_fld (pv 0) rfl) pa_nil)))
      (pss_one (ps_expr (pe_call (ok_check_edges T) (hr.mono (by decide)) (by rfl) T.g_check_edges T.F_check_edges.kp T.b_check_edges .nil (passes_call (takes_of rfl rfl rfl rfl) (fun _ _ _ _ h => h)) (pa_cons (pe_fld (pv 0) rfl) (pa_cons (pe_callB call_len_seq (by rfl) T.m_len (by decide +kernel) (pa_cons (pe_fld (pv 0) rfl) pa_nil)) pa_nil)))))))), ?_⟩
    have hbad : ∀ H', Ext H0 H' → ¬ (goodF fs ∧ goodE fs.length es) → E (.ref T.f_InvalidSpins) none H' := fun H' s z => q2 z H' s
    refine ⟨fun σ H1 => σ = [some (.ref p), some (.ref fa), some (.ref ea), none] ∧ ∃ fb, Ext H0 H1 ∧ H1 p = some (.ins T.C_Spins dx [("fields", .ref fb)]) ∧ SqT K H1 fb (fs.map V.int), ?_, ?_⟩
    · rcases hf with hf | hf
      · refine ⟨_, rfl, fa, _, rfl, .inl ⟨s0.seq hf, fun l hl => ?_⟩⟩
        have np : p ≠ l := ne_of_none hp hl
        refine ⟨_, rfl, p, T.C_Spins, dx, [], rfl, by rw [upd_ne np]; exact hp, T.cl_Spins, T.na_Spins_fields, by decide, rfl, l, (s0.new hl).own h0, by rw [upd_same]; rfl, ?_⟩
        exact SqT.of (by rw [upd_ne np.symm]; exact upd_same)
      · refine ⟨_, rfl, fa, _, rfl, .inr ⟨s0.tup hf, ?_⟩⟩
        exact ⟨_, rfl, p, T.C_Spins, dx, [], rfl, hp, T.cl_Spins, T.na_Spins_fields, by decide, rfl, fa, s0.own h0, by rw [upd_same]; rfl, (s0.own h0).tup hf⟩
    rintro σ H1 ⟨rfl, fb, s1, hp1, hfb⟩
    have xl := hes.length
    refine ⟨fun σ H1 => σ = [some (.ref p), some (.ref fa), some (.ref ea), none] ∧ ∃ fb eb, Ext H0 H1 ∧ H1 p = some (.ins T.C_Spins dx [("fields", .ref fb), ("edges", .ref eb)]) ∧ SqT K H1 fb (fs.map V.int) ∧ SqT K H1 eb xs, ?_, ?_⟩
    · have tb := (G.ext s1).t_Spins_init
      rcases he with he | he
      · refine ⟨_, rfl, ea, rfl, .inl ⟨⟨_, s1.seq he⟩, tb, fun H2 t2 => ?_⟩⟩
        have s2 := s1.tabbed tb t2
        have hp2 := (ext_tabbed tb t2).keep p _ hp1 (fun _ z => by cases z)
        have hfb2 := (ext_tabbed tb t2).tup hfb
        refine gx_list (xs := xs) (fun i zs H3 => H3 = H2 ∧ zs = xs.take i) ⟨rfl, rfl⟩ (fun i zs H3 _ h => by rw [h.1]; exact s2.seq he) (fun i x zs H3 hi hP => ?_) (fun zs H3 hP => ?_)
        · obtain ⟨rfl, rfl⟩ := hP
          obtain ⟨e, hei, a1, rfl, g1⟩ := paired_at hes hi
          refine ⟨rfl, _, rfl, a1, _, rfl, .inr ⟨s2.tup g1, ?_, rfl, ?_⟩⟩
          · rw [List.length_take]
            exact sl_lt (by omega)
          · rw [List.take_add_one, hi]
            rfl
        · obtain ⟨rfl, rfl⟩ := hP
          intro l hl
          have np : p ≠ l := ne_of_none hp2 hl
          refine ⟨_, rfl, p, T.C_Spins, dx, _, rfl, by rw [upd_ne np]; exact hp2, T.cl_Spins, T.na_Spins_edges, (by show 1 < 1000; decide), rfl, fb, l, (s2.new hl).own h0, by rw [upd_same]; rfl, ?_, ?_⟩
          · exact sqt_ins (by rw [upd_ne np]; exact hp2) ((ext_upd hl).tup hfb2)
          · rw [List.take_length]
            exact SqT.of (by rw [upd_ne np.symm]; exact upd_same)
      · refine ⟨_, rfl, ea, rfl, .inr ⟨⟨_, s1.tup he⟩, tb, fun H2 t2 => ?_⟩⟩
        have s2 := s1.tabbed tb t2
        have hp2 := (ext_tabbed tb t2).keep p _ hp1 (fun _ z => by cases z)
        have hfb2 := (ext_tabbed tb t2).tup hfb
        refine gx_tup (xs := xs) (fun i zs H3 => H3 = H2 ∧ zs = xs.take i) ⟨rfl, rfl⟩ (fun i zs H3 _ h => by rw [h.1]; exact s2.tup he) (fun i x zs H3 hi hP => ?_) (fun zs H3 hP => ?_)
        · obtain ⟨rfl, rfl⟩ := hP
          obtain ⟨e, hei, a1, rfl, g1⟩ := paired_at hes hi
          refine ⟨rfl, _, rfl, a1, _, rfl, .inr ⟨s2.tup g1, ?_, rfl, ?_⟩⟩
          · rw [List.length_take]
            exact sl_lt (by omega)
          · rw [List.take_add_one, hi]
            rfl
        · obtain ⟨rfl, rfl⟩ := hP
          intro l hl
          have np : p ≠ l := ne_of_none hp2 hl
          refine ⟨_, rfl, p, T.C_Spins, dx, _, rfl, by rw [upd_ne np]; exact hp2, T.cl_Spins, T.na_Spins_edges, (by show 1 < 1000; decide), rfl, fb, l, (s2.new hl).own h0, by rw [upd_same]; rfl, ?_, ?_⟩
          · exact sqt_ins (by rw [upd_ne np]; exact hp2) ((ext_upd hl).tup hfb2)
          · rw [List.take_length]
            exact SqT.of (by rw [upd_ne np.symm]; exact upd_same)
    rintro σ H2 ⟨rfl, fb, eb, s2, hp2, hfb2, heb2⟩
    refine ⟨_, rfl, p, T.C_Spins, dx, _, .ref fb, rfl, hp2, T.cl_Spins, T.na_Spins_fields, rfl, fb, fs, rfl, hfb2, G.ext s2, fun gf H3 s3 => ?_, fun nf H3 s3 => hbad H3 (s2.trans s3) fun z => nf z.1⟩
    have hp3 := s3.keep p _ hp2 (fun _ z => by cases z)
    have s03 := s2.trans s3
    refine ⟨_, rfl, p, T.C_Spins, dx, _, .ref eb, rfl, hp3, T.cl_Spins, T.na_Spins_edges, rfl, _, rfl, p, T.C_Spins, dx, _, .ref fb, rfl, hp3, T.cl_Spins, T.na_Spins_fields, rfl, fb, _, rfl, .inr (s3.tup hfb2), ?_⟩
    refine ⟨eb, xs, es, fs.length, by rw [List.length_map]; rfl, s3.tup heb2, s03.edges hes, el, fun ge H4 s4 => ?_, fun ne H4 s4 => hbad H4 (s03.trans s4) fun z => ne z.2⟩
    exact q1 gf ge H4 fb eb xs (s03.trans s4) (s4.keep p _ hp3 (fun _ z => by cases z)) (s4.tup (s3.tup hfb2)) (s4.tup (s3.tup heb2)) ((s03.trans s4).edges hes)
/-! ### the law's cell of the script -/
def cellZ (ns : List Int) (k : Nat) : Int := ns.getD k 0
def spCellZ (K : PySem.W.Frag) : Sp := fun vs H Q _ => ∃ (l : Addr) (ns : List Int) (k : Nat), vs = [.ref l, .int (k : Int)] ∧ SqL K H l (ns.map V.int) ∧ Q (.int (cellZ ns k)) H
theorem ok_law_cell (T : Top K mg) : FnOk P w K mg base CX0 1 T.f_law_cell T.d_law_cell ["script", "k"] (spCellZ K) := by
  refine T.F_law_cell.ok sc_law_cell (fun vs H Q E h => ?_) (fun cdv A outer s H vs Q E hr h => ?_)
  · obtain ⟨l, ns, k, rfl, _⟩ := h
    rfl
  · obtain ⟨l, ns, k, rfl, hS, q⟩ := h
    refine ⟨_, (pss_cons (ps_if (pt_cmpR op_lt (pv 1) (pe_callB call_len_seq (by rfl) T.m_len (by decide +kernel) (pa_cons (pv 0) pa_nil)) (nomark _)) (pss_one (ps_ret (pe_callTy call_int1 (by rfl) T.m_int (by decide +kernel) (pa_cons (pe_ix ix_list (pv 0) (pv 1) (fun _ _ => rfl)) pa_nil)))) pss_nil)
      (pss_one (ps_ret pe_int))), ?_⟩
    refine ⟨_, rfl, _, rfl, l, _, rfl, .inl hS, _, _, rfl, rfl, _, rfl, ?_⟩
    refine ite2 (fun e => ?_) (fun e => ?_)
    · have hk : k < ns.length := by
        have := of_decide_eq_true e
        rw [List.length_map] at this
        omega
      refine ⟨_, rfl, _, rfl, l, _, _, .int ns[k], rfl, rfl, hS, ?_, .inl ⟨_, rfl, ?_⟩⟩
      · refine atI_nat ?_
        rw [List.getElem?_map, List.getElem?_eq_getElem hk]
        rfl
      · have : cellZ ns k = ns[k] := by
          unfold cellZ
          rw [List.getD_eq_getElem?_getD, List.getElem?_eq_getElem hk]
          rfl
        rw [← this]
        exact q
    · have hk : ¬ k < ns.length := fun z => e (by
        refine decide_eq_true ?_
        rw [List.length_map]
        omega)
      have : cellZ ns k = 0 := by
        unfold cellZ
        rw [List.getD_eq_getElem?_getD, List.getElem?_eq_none (by omega)]
        rfl
      show Q (.int 0) H
      rw [← this]
      exact q
/-! ### data that stands in the heap -/
mutual
theorem dp_same {K : PySem.W.Frag} {H H' : Hp} (s : Same H H') : ∀ {v : V} {d : PyData}, Dp K H v d → Dp K H' v d
  | _, _, .non => .non
  | _, _, .bl b => .bl b
  | _, _, .int i => .int i
  | _, _, .str x => .str x
  | _, _, .lst h t => .lst (s.seq h) (dpAll_same s t)
  | _, _, .tup h t => .tup (s.tup h) (dpAll_same s t)
theorem dpAll_same {K : PySem.W.Frag} {H H' : Hp} (s : Same H H') : ∀ {vs : List V} {ds : List PyData}, DpAll K H vs ds → DpAll K H' vs ds
  | _, _, .nil => .nil
  | _, _, .cons h t => .cons (dp_same s h) (dpAll_same s t)
end
theorem dpAll_len {K : PySem.W.Frag} {H : Hp} : ∀ {vs : List V} {ds : List PyData}, DpAll K H vs ds → vs.length = ds.length
  | _, _, .nil => rfl
  | _, _, .cons _ t => congrArg (· + 1) (dpAll_len t)
theorem dpAll_get {K : PySem.W.Frag} {H : Hp} : ∀ {vs : List V} {ds : List PyData} {i : Nat} {v : V}, DpAll K H vs ds → vs[i]? = some v → ∃ d, ds[i]? = some d ∧ d ∈ ds ∧ Dp K H v d
  | _, _, i, v, .nil, h => by simp at h
  | _, d :: ds, 0, v, .cons a t, h => by
    simp only [List.getElem?_cons_zero, Option.some.injEq] at h
    subst h
    exact ⟨d, rfl, List.mem_cons_self, a⟩
  | _, d :: ds, i + 1, v, .cons a t, h => by
    simp only [List.getElem?_cons_succ] at h
    obtain ⟨e, h1, h2, h3⟩ := dpAll_get t h
    exact ⟨e, by simpa using h1, List.mem_cons_of_mem _ h2, h3⟩
theorem dpAll_of {α : Type} {K : PySem.W.Frag} {H : Hp} {f : α → PyData} {R : V → α → Prop} (hR : ∀ v x, R v x → Dp K H v (f x)) : ∀ {vs : List V} {xs : List α}, Paired R vs xs → DpAll K H vs (xs.map f)
  | _, _, .nil => .nil
  | _, _, .cons h t => .cons (hR _ _ h) (dpAll_of hR t)
theorem sqt_ty {K : PySem.W.Frag} {H : Hp} {a : Addr} {xs : List V} (h : SqT K H a xs) : TyX K H (.ref a) (.type "tuple") := by
  rcases h with (h | ⟨o, h⟩) | ⟨o, its, n, h, hc, _⟩
  · exact .base (.tup h)
  · exact .fTuple h
  · exact .kTuple h hc
theorem sql_ty {K : PySem.W.Frag} {H : Hp} {a : Addr} {xs : List V} (h : SqL K H a xs) : TyX K H (.ref a) (.type "list") := by
  rcases h with (h | ⟨o, h⟩) | ⟨o, its, n, h, hc, _⟩
  · exact .base (.lst h)
  · exact .base (.frz h)
  · exact .kList h hc
/-- nested tuples of ints, at most n - 1 deep -/
def tupD : Nat → PyData → Prop
  | 0, _ => False
  | _ + 1, .int _ => True
  | n + 1, .tuple ds => ds.length < 1000000 ∧ ∀ x ∈ ds, tupD n x
  | _ + 1, _ => False
def spTup (K : PySem.W.Frag) (n : Nat) : Sp := fun vs H Q _ => ∃ v d, vs = [v] ∧ Dp K H v d ∧ tupD n d ∧ ∀ H', Same H H' → Q (.bl true) H'
theorem ok_law_tuples (T : Top K mg) : ∀ n, FnOk P w K mg base CX0 (n + 1) T.f_law_tuples T.d_law_tuples ["thing"] (spTup K n)
  | 0 => T.F_law_tuples.ok sc_law_tuples (fun vs H Q E h => by obtain ⟨v, d, _, _, h, _⟩ := h; exact h.elim) (fun cdv A outer s H vs Q E hr h => by obtain ⟨v, d, _, _, h, _⟩ := h; exact h.elim)
  | n + 1 => by
    have ih := ok_law_tuples T n
    refine T.F_law_tuples.ok sc_law_tuples (fun vs H Q E h => ?_) (fun cdv A outer s H vs Q E hr h => ?_)
    · obtain ⟨v, d, rfl, _⟩ := h
      rfl
    · obtain ⟨v, d, rfl, hd, ht, q⟩ := h
      refine ⟨_, (pss_cons (ps_if (pt_val (pe_callB call_isi (by rfl) T.m_isinstance (by decide +kernel) (pa_cons (pv 0) (pa_cons (pe_bltn (v := .ty "tuple") (by rfl) T.m_tuple boot_tuple rfl) pa_nil)))) (pss_one (ps_ret (pe_callB (cr_all rfl) (by rfl) T.m_all (by decide +kernel) (pa_cons (pe_lc (own := [("part", 1)]) (g := gName 1) (tt := tYes) rfl sc_law_tuples.nd (pi_tup (pv 0)) (blkOk_by (own := [("part", 1)]) (N := n_law_tuples) (sc := defScope s_law_tuples) (by decide +kernel)) (fun _ _ _ _ _ => (pg_name (i := 1) sc_law_tuples.nd rfl (by first | exact .inl rfl | exact .inr rfl))) (fun _ _ _ _ _ => pts_nil) (fun _ _ _ _ _ => (pe_call ih hr (by rfl) T.g_law_tuples T.F_law_tuples.kp T.b_law_tuples .nil pass0 (pa_cons (pv 1) pa_nil)))) pa_nil)))) pss_nil)
      (pss_one (ps_ret (pe_and (pe_callB call_isi (by rfl) T.m_isinstance (by decide +kernel) (pa_cons (pv 0) (pa_cons (pe_bltn (v := .ty "int") (by rfl) T.m_int boot_int rfl) pa_nil))) (pe_one (pe_not (pe_callB call_isi (by rfl) T.m_isinstance (by decide +kernel) (pa_cons (pv 0) (pa_cons (pe_bltn (v := .ty "bool") (by rfl) T.m_bool boot_bool rfl) pa_nil))))))))), ?_⟩
      cases d with
      | int i =>
        cases hd
        refine ⟨_, rfl, _, _, _, _, _, rfl, .ty _, .base (.int i), kit_ty (r := false) (by decide +kernel), _, rfl, iteF ?_⟩
        refine ⟨_, rfl, _, _, _, _, _, rfl, .ty _, .base (.int i), kit_ty (r := true) (by decide +kernel), _, rfl, iteT ?_⟩
        exact ⟨_, rfl, _, _, _, _, _, rfl, .ty _, .base (.int i), kit_ty (r := false) (by decide +kernel), _, rfl, q H (Same.refl H)⟩
      | tuple ds =>
        cases hd with
        | @tup a xs _ hx hds =>
        refine ⟨_, rfl, _, _, _, _, _, rfl, .ty _, sqt_ty hx, kit_ty (r := true) (by decide +kernel), _, rfl, iteT ?_⟩
        refine ⟨_, rfl, a, rfl, ⟨_, hx⟩, fun D hD => lc_tup (xs := xs) (fun i H' => Same H H' ∧ H' D = some (.lst ((List.replicate i true).map V.bl)) ∧ i ≤ xs.length) ⟨same_upd hD, upd_same, Nat.zero_le _⟩ (fun i H' _ h => h.1.tup hx) (fun i x H' hi hP => ?_) (fun H' hP => ?_)⟩
        · obtain ⟨s1, hl, hix⟩ := hP
          obtain ⟨d, _, hm, hdx⟩ := dpAll_get hds hi
          have hil : i < xs.length := (List.getElem?_eq_some_iff.mp hi).1
          have hlen := dpAll_len hds
          have hz := ht.1
          refine ⟨rfl, _, rfl, x, d, rfl, dp_same s1 hdx, ht.2 d hm, fun H2 s2 => ⟨_, s2 _ _ hl, ?_, fun b o e => ?_, ?_, hil⟩⟩
          · rw [List.length_map, List.length_replicate]
            exact sl_lt (by omega)
          · rw [upd_ne (ne_of_none e hD)]
            exact s2 _ _ (s1 _ _ e)
          · rw [upd_same, List.replicate_succ', List.map_append]
            rfl
        · obtain ⟨s1, hl, _⟩ := hP
          refine ⟨D, List.replicate xs.length true, rfl, SqL.of hl, ?_⟩
          have e : (List.replicate xs.length true).all id = true := by
            rw [List.all_eq_true]
            intro x hx
            rw [List.eq_of_mem_replicate hx]
            rfl
          rw [e]
          exact q H' s1
      | none => exact ht.elim
      | bool b => exact ht.elim
      | str x => exact ht.elim
      | list x => exact ht.elim
      | dict x => exact ht.elim
theorem pos_lit {z : Int} {n : Nat} (h : z = ((n + 1 : Nat) : Int)) : 0 < z := by omega
def spMix : Sp := fun vs H Q _ => ∃ c k : Int, vs = [.int c, .int k] ∧ ∀ m : Int, 0 ≤ m → Q (.int m) H
theorem ok_law_mix (T : Top K mg) : FnOk P w K mg base CX0 1 T.f_law_mix T.d_law_mix ["cell", "k"] spMix := by
  refine T.F_law_mix.ok sc_law_mix (fun vs H Q E h => ?_) (fun cdv A outer s H vs Q E hr h => ?_)
  · obtain ⟨c, k, rfl, _⟩ := h
    rfl
  · obtain ⟨c, k, rfl, q⟩ := h
    refine ⟨_, (pss_cons (ps_set (i := 2) sc_law_mix.nd rfl (by first | exact .inl rfl | exact .inr rfl) (pe_op op_mod (pe_callTy call_int1 (by rfl) T.m_int (by decide +kernel) (pa_cons (pe_op op_add (pe_op op_add (pe_op op_mul (pv 0) pe_int) (pe_op op_mul (pv 1) pe_int)) pe_int) pa_nil)) pe_int))
      (pss_cons (ps_set (i := 2) sc_law_mix.nd rfl (by first | exact .inl rfl | exact .inr rfl) (pe_op op_mod (pe_callTy call_int1 (by rfl) T.m_int (by decide +kernel) (pa_cons (pe_op op_add (pe_op op_add (pe_op op_mul (pv 2) pe_int) (pe_op op_mul (pv 1) pe_int)) pe_int) pa_nil)) pe_int))
      (pss_one (ps_ret (pe_op op_fdiv (pv 2) pe_int))))), ?_⟩
    refine ⟨_, rfl, _, _, rfl, rfl, .inr ⟨by decide, by decide⟩, _, rfl, _, _, rfl, rfl, .inr ⟨by decide, by decide⟩, _, _, rfl, rfl, _, _, rfl, rfl, .inl ⟨_, rfl, _, _, rfl, rfl, pos_lit rfl, ?_⟩⟩
    refine ⟨_, rfl, _, _, rfl, rfl, .inr ⟨by decide, by decide⟩, _, rfl, _, _, rfl, rfl, .inr ⟨by decide, by decide⟩, _, _, rfl, rfl, _, _, rfl, rfl, .inl ⟨_, rfl, _, _, rfl, rfl, pos_lit rfl, ?_⟩⟩
    refine ⟨_, rfl, _, _, rfl, rfl, ⟨by decide, by decide⟩, q _ ?_⟩
    refine Int.ediv_nonneg (Int.emod_nonneg _ (by decide)) (by decide)
/-- some n numbers from 0 up to below b -/
def spRow (K : PySem.W.Frag) : Sp := fun vs H Q _ => ∃ (c b : Int) (n : Nat), vs = [.int c, .int (n : Int), .int b] ∧ n ≤ 1000 ∧ 0 < b ∧ b < 1000 ∧
  ∀ l H' (rs : List Int), Ext H H' → H l = none → H' l = some (.lst (rs.map V.int)) → rs.length = n → (∀ r ∈ rs, 0 ≤ r ∧ r < b) → Q (.ref l) H'
theorem ok_law_row (T : Top K mg) : FnOk P w K mg base CX0 2 T.f_law_row T.d_law_row ["cell", "count", "bound"] (spRow K) := by
  refine T.F_law_row.ok sc_law_row (fun vs H Q E h => ?_) (fun cdv A outer s H vs Q E hr h => ?_)
  · obtain ⟨c, b, n, rfl, _⟩ := h
    rfl
  · obtain ⟨c, b, n, rfl, hn, hb, hb2, q⟩ := h
    refine ⟨_, (pss_cons (ps_set (i := 3) sc_law_row.nd rfl (by first | exact .inl rfl | exact .inr rfl) (pe_lst pa_nil))
      (pss_cons (ps_set (i := 4) sc_law_row.nd rfl (by first | exact .inl rfl | exact .inr rfl) (pe_callB call_abs (by rfl) T.m_abs (by decide +kernel) (pa_cons (pv 0) pa_nil)))
      (pss_cons (ps_for PassesOwn.never rfl (pi_range1 (by rfl) T.m_range (pa_cons (pv 1) pa_nil)) (pg_name (i := 5) sc_law_row.nd rfl (by first | exact .inl rfl | exact .inr rfl)) (pss_one (ps_if (pt_cmpR op_ge (pe_callB call_abs (by rfl) T.m_abs (by decide +kernel) (pa_cons (pv 0) pa_nil)) pe_int (nomark _)) (pss_cons (ps_expr (pe_bm PySem.F.plainAttrs_list PySem.F.slot_list_append PySem.F.type_list_append mt_append (pv 3) (pa_cons (pe_op op_mod (pe_callTy call_int1 (by rfl) T.m_int (by decide +kernel) (pa_cons (pv 4) pa_nil)) (pv 2)) pa_nil)))
      (pss_one (ps_set (i := 4) sc_law_row.nd rfl (by first | exact .inl rfl | exact .inr rfl) (pe_op op_fdivZ (pv 4) (pv 2))))) (pss_one (ps_expr (pe_bm PySem.F.plainAttrs_list PySem.F.slot_list_append PySem.F.type_list_append mt_append (pv 3) (pa_cons (pe_op op_mod (pe_callTy call_int1 (by rfl) T.m_int (by decide +kernel) (pa_cons (pe_call (ok_law_mix T) (hr.mono (by decide)) (by rfl) T.g_law_mix T.F_law_mix.kp T.b_law_mix .nil pass0 (pa_cons (pv 0) (pa_cons (pv 5) pa_nil))) pa_nil)) (pv 2)) pa_nil)))))))
      (pss_one (ps_ret (pv 3)))))), ?_⟩
    refine ⟨by rw [sizeLine_eq]; simp, fun l hl => ?_⟩
    refine ⟨_, rfl, c, rfl, ?_⟩
    refine ⟨_, rfl, _, rfl, by omega, by omega, for_range (n := n) (fun i σ H1 => (∃ (x : Int) (y : Option V) (rs : List Int), σ = [some (.int c), some (.int (n : Int)), some (.int b), some (.ref l), some (.int x), y] ∧ Ext H H1 ∧ H1 l = some (.lst (rs.map V.int)) ∧ rs.length = i ∧ ∀ r ∈ rs, 0 ≤ r ∧ r < b))
      ⟨_, _, [], rfl, ext_upd hl, upd_same, rfl, fun r m => by simp at m⟩ (fun i σ H1 hi hP => ?_) (fun σ H1 hP => ?_)⟩
    · obtain ⟨x, y, rs, rfl, s1, hl1, hlen, hrs⟩ := hP
      have step : ∀ m : Int, ∃ rs', rs' = rs ++ [m % b] ∧ rs'.length = i + 1 ∧ ∀ r ∈ rs', 0 ≤ r ∧ r < b := fun m => ⟨_, rfl, by rw [List.length_append, hlen]; rfl, fun r hr => by
        rcases List.mem_append.mp hr with hr | hr
        · exact hrs r hr
        · rw [List.mem_singleton.mp hr]
          exact ⟨Int.emod_nonneg _ (by omega), Int.emod_lt_of_pos _ hb⟩⟩
      have cnt : (rs.map V.int).length < sizeLine := sl_lt (by rw [List.length_map]; omega)
      have app : ∀ m : Int, rs.map V.int ++ [V.int (m % b)] = (rs ++ [m % b]).map V.int := fun m => by rw [List.map_append]; rfl
      refine ⟨_, rfl, c, rfl, _, _, rfl, rfl, _, rfl, iteB (fun z => ?_) (fun z => ?_)⟩
      · refine ⟨_, rfl, .inl ⟨rfl, _, SqL.of hl1⟩, _, rfl, .inl ⟨_, rfl, _, rfl, _, _, rfl, rfl, hb, l, _, _, rfl, rfl, hl1, cnt, ?_⟩⟩
        refine ⟨_, rfl, _, rfl, _, _, rfl, rfl, ⟨by omega, ?_⟩, ?_⟩
        · refine Nat.lt_of_lt_of_le (PySem.Flt.log2_lt_of (k := 10) (by decide) ?_) (by decide)
          omega
        · obtain ⟨rs', e1, e2, e3⟩ := step x
          subst e1
          exact ⟨_, _, _, rfl, s1.own hl, by rw [upd_same, app], e2, e3⟩
      · refine ⟨_, rfl, .inl ⟨rfl, _, SqL.of hl1⟩, _, rfl, _, rfl, c, _, rfl, fun m hm => .inl ⟨_, rfl, _, rfl, _, _, rfl, rfl, hb, l, _, _, rfl, rfl, hl1, cnt, ?_⟩⟩
        obtain ⟨rs', e1, e2, e3⟩ := step m
        subst e1
        exact ⟨_, _, _, rfl, s1.own hl, by rw [upd_same, app], e2, e3⟩
    · obtain ⟨x, y, rs, rfl, s1, hl1, hlen, hrs⟩ := hP
      exact ⟨_, rfl, q l H1 rs s1 hl hl1 hlen hrs⟩
/-! ### the pairs of vertices -/
def rowP (n u : Nat) : List (Int × Int) := (List.range (n - (u + 1))).map fun j => ((u : Int), ((u + 1 + j : Nat) : Int))
def prs (n : Nat) : Nat → List (Int × Int)
  | 0 => []
  | i + 1 => prs n i ++ rowP n i
def ltK (x y : Int × Int) : Prop := x.1 < y.1 ∨ (x.1 = y.1 ∧ x.2 < y.2)
theorem mem_row {n u : Nat} {x : Int × Int} (h : x ∈ rowP n u) : x.1 = u ∧ (u : Int) < x.2 ∧ x.2 < n := by
  obtain ⟨j, hj, rfl⟩ := List.mem_map.mp h
  have := List.mem_range.mp hj
  exact ⟨rfl, by show (u : Int) < ((u + 1 + j : Nat) : Int); omega, by show ((u + 1 + j : Nat) : Int) < n; omega⟩
theorem mem_prs {n : Nat} {x : Int × Int} : ∀ {i : Nat}, x ∈ prs n i → 0 ≤ x.1 ∧ x.1 < i ∧ x.1 < x.2 ∧ x.2 < n
  | 0, h => by cases h
  | i + 1, h => by
    rcases List.mem_append.mp h with h | h
    · have := mem_prs h
      omega
    · have := mem_row h
      omega
theorem prs_asc (n : Nat) : ∀ i, (prs n i).Pairwise ltK
  | 0 => .nil
  | i + 1 => by
    refine List.pairwise_append.mpr ⟨prs_asc n i, ?_, fun x hx y hy => ?_⟩
    · unfold rowP
      rw [List.pairwise_map]
      refine (List.pairwise_lt_range (n := n - (i + 1))).imp fun {a b} h => ?_
      refine .inr ⟨rfl, ?_⟩
      show ((i + 1 + a : Nat) : Int) < ((i + 1 + b : Nat) : Int)
      omega
    · have h1 := mem_prs hx
      have h2 := mem_row hy
      exact .inl (by omega)
theorem prs_cnt : ∀ n, n ≤ 7 → 2 * (prs n n).length ≤ n * (n - 1) := by decide
theorem prs_len : ∀ n, n ≤ 7 → (prs n n).length ≤ 21 := by decide
/-- an edge known to be a tuple -/
def EdgeT (H : Hp) (v : V) (e : Eg) : Prop := ∃ a, v = .ref a ∧ H a = some (.tup [.int e.1, .int e.2.1, .int e.2.2])
theorem edges_at {H : Hp} {xs : List V} {es : List Eg} (h : Paired (EdgeT H) xs es) : Paired (EdgeAt K H) xs es := paired_imp (fun _ _ ⟨a, e, h⟩ => ⟨a, e, SqT.of h⟩) h
theorem _root_.EXT.Ext.edgesT {H H' : Hp} (s : Ext H H') {xs : List V} {es : List Eg} (h : Paired (EdgeT H) xs es) : Paired (EdgeT H') xs es := paired_imp (fun _ _ ⟨a, e, h⟩ => ⟨a, e, s.at h⟩) h
theorem edgesT_upd {H : Hp} {D : Addr} {o : HO} {acc : List V} {xs : List V} {es : List Eg} (hD : H D = some (.lst acc)) (h : Paired (EdgeT H) xs es) : Paired (EdgeT (upd H D o)) xs es :=
  paired_imp (fun _ _ ⟨a, e, h⟩ => ⟨a, e, by rw [upd_ne (fun z => by rw [z, hD] at h; cases h)]; exact h⟩) h
/-- pairs known to be tuples -/
def PrT (H : Hp) (v : V) (k : Int × Int) : Prop := ∃ a, v = .ref a ∧ H a = some (.tup [.int k.1, .int k.2])
theorem _root_.EXT.Ext.prs {H H' : Hp} (s : Ext H H') {xs : List V} {ks : List (Int × Int)} (h : Paired (PrT H) xs ks) : Paired (PrT H') xs ks := paired_imp (fun _ _ ⟨a, e, h⟩ => ⟨a, e, s.at h⟩) h
theorem prs_upd {H : Hp} {D : Addr} {o : HO} {acc : List V} {xs : List V} {ks : List (Int × Int)} (hD : H D = some (.lst acc)) (h : Paired (PrT H) xs ks) : Paired (PrT (upd H D o)) xs ks :=
  paired_imp (fun _ _ ⟨a, e, h⟩ => ⟨a, e, by rw [upd_ne (fun z => by rw [z, hD] at h; cases h)]; exact h⟩) h
/-- fields and edges as the law draws them -/
structure Drawn (most : Int) (fs : List Int) (es : List Eg) : Prop where
  one : 1 ≤ fs.length
  most : (fs.length : Int) ≤ most
  small : ∀ f ∈ fs, -2 ≤ f ∧ f ≤ 2
  len : es.length ≤ 21
  ok : ∀ e ∈ es, okE fs.length e
  asc : es.Pairwise ltEg
  cnt : 2 * es.length ≤ fs.length * (fs.length - 1)
theorem coup_at (r : Int) (h0 : 0 ≤ r) (h6 : r < 12) : ∃ c : Int, atI [V.int 1, .int (-1), .int 0, .int 2, .int 1, .int 0, .int (-2), .int 3, .int 0, .int 1, .int (-1), .int 0] r = some (.int c) ∧ -2 ≤ c ∧ c ≤ 3 := by
  have : r = 0 ∨ r = 1 ∨ r = 2 ∨ r = 3 ∨ r = 4 ∨ r = 5 ∨ r = 6 ∨ r = 7 ∨ r = 8 ∨ r = 9 ∨ r = 10 ∨ r = 11 := by omega
  rcases this with rfl | rfl | rfl | rfl | rfl | rfl | rfl | rfl | rfl | rfl | rfl | rfl <;> exact ⟨_, rfl, by decide, by decide⟩
def spSpins (K : PySem.W.Frag) : Sp := fun vs H Q _ => ∃ (a : Addr) (ns : List Int) (first : Nat) (most kind : Int), vs = [.ref a, .int (first : Int), .int most, .int kind] ∧ SqL K H a (ns.map V.int) ∧ 1 ≤ most ∧ most ≤ 7 ∧
  ∀ l H' fb eb fs xs es, Ext H H' → H l = none → H' l = some (.tup [.ref fb, .ref eb]) → H fb = none → H' fb = some (.lst (fs.map V.int)) → H eb = none → H' eb = some (.lst xs) → Paired (EdgeT H') xs es → Drawn most fs es → Q (.ref l) H'
theorem ok_law_spins (T : Top K mg) : FnOk P w K mg base CX0 3 T.f_law_spins T.d_law_spins ["script", "first", "most", "kind"] (spSpins K) := by
  refine T.F_law_spins.ok sc_law_spins (fun vs H Q E h => ?_) (fun cdv A outer s H vs Q E hr h => ?_)
  · obtain ⟨a, ns, first, most, kind, rfl, _⟩ := h
    rfl
  obtain ⟨a, ns, first, most, kind, rfl, hS, hm1, hm7, q⟩ := h
  refine ⟨_, (pss_cons (ps_set (i := 4) sc_law_spins.nd rfl (by first | exact .inl rfl | exact .inr rfl) (pe_op op_add pe_int (pe_op op_mod (pe_call (ok_law_cell T) (hr.mono (by decide)) (by rfl) T.g_law_cell T.F_law_cell.kp T.b_law_cell .nil pass0 (pa_cons (pv 0) (pa_cons (pv 1) pa_nil))) (pv 2))))
      (pss_cons (ps_set (i := 5) sc_law_spins.nd rfl (by first | exact .inl rfl | exact .inr rfl) (pe_op op_rep (pe_lst (pa_cons pe_int pa_nil)) (pv 4)))
      (C8.pss_cut (ps_if (pt_cmpR op_lt (pv 3) pe_int (nomark _)) (pss_one (ps_setLc (i := 5) (own := [("digit", 6)]) (g := gName 6) (tt := tYes) rfl sc_law_spins.nd rfl rfl (sw_true rfl rfl rfl (by decide +kernel)) (pi_list (pe_call (ok_law_row T) (hr.mono (by decide)) (by rfl) T.g_law_row T.F_law_row.kp T.b_law_row .nil pass0 (pa_cons (pe_call (ok_law_cell T) (hr.mono (by decide)) (by rfl) T.g_law_cell T.F_law_cell.kp T.b_law_cell .nil pass0 (pa_cons (pv 0) (pa_cons (pe_op op_add (pv 1) pe_int) pa_nil))) (pa_cons (pv 4) (pa_cons pe_int pa_nil))))) (blkOk_by (own := [("digit", 6)]) (N := n_law_spins) (sc := defScope s_law_spins) (by decide +kernel)) (fun _ _ _ _ _ => (pg_name (i := 6) sc_law_spins.nd rfl (by first | exact .inl rfl | exact .inr rfl))) (fun _ _ _ _ _ => pts_nil) (fun _ _ _ _ _ => (pe_op op_sub (pv 6) pe_int)))) pss_nil)
      (pss_cons (ps_set (i := 7) sc_law_spins.nd rfl (by first | exact .inl rfl | exact .inr rfl) (pe_lst pa_nil))
      (C8.pss_cut (ps_for PassesOwn.never rfl (pi_range1 (by rfl) T.m_range (pa_cons (pv 4) pa_nil)) (pg_name (i := 8) sc_law_spins.nd rfl (by first | exact .inl rfl | exact .inr rfl)) (pss_one (ps_aug (i := 7) sc_law_spins.nd rfl (by first | exact .inl rfl | exact .inr rfl) (pe_lc (own := [("v", 9)]) (g := gName 9) (tt := tYes) rfl sc_law_spins.nd (pi_range2 (by rfl) T.m_range (pa_cons (pe_op op_add (pv 8) pe_int) (pa_cons (pv 4) pa_nil))) (blkOk_by (own := [("v", 9)]) (N := n_law_spins) (sc := defScope s_law_spins) (by decide +kernel)) (fun _ _ _ _ _ => (pg_name (i := 9) sc_law_spins.nd rfl (by first | exact .inl rfl | exact .inr rfl))) (fun _ _ _ _ _ => pts_nil) (fun _ _ _ _ _ => (pe_tup (pa_cons (pv 8) (pa_cons (pv 9) pa_nil))))) iop_ext)))
      (pss_cons (ps_set (i := 10) sc_law_spins.nd rfl (by first | exact .inl rfl | exact .inr rfl) (pe_lst pa_nil))
      (pss_cons (ps_set (i := 11) sc_law_spins.nd rfl (by first | exact .inl rfl | exact .inr rfl) (pe_call (ok_law_row T) (hr.mono (by decide)) (by rfl) T.g_law_row T.F_law_row.kp T.b_law_row .nil pass0 (pa_cons (pe_call (ok_law_cell T) (hr.mono (by decide)) (by rfl) T.g_law_cell T.F_law_cell.kp T.b_law_cell .nil pass0 (pa_cons (pv 0) (pa_cons (pe_op op_add (pv 1) pe_int) pa_nil))) (pa_cons (pe_callB call_len_seq (by rfl) T.m_len (by decide +kernel) (pa_cons (pv 7) pa_nil)) (pa_cons pe_int pa_nil)))))
      (pss_cons (ps_for PassesOwn.never rfl (pi_range1 (by rfl) T.m_range (pa_cons (pe_callB call_len_seq (by rfl) T.m_len (by decide +kernel) (pa_cons (pv 7) pa_nil)) pa_nil)) (pg_name (i := 12) sc_law_spins.nd rfl (by first | exact .inl rfl | exact .inr rfl)) (pss_cons (ps_set (i := 13) sc_law_spins.nd rfl (by first | exact .inl rfl | exact .inr rfl) (pe_ix ix_tup (pe_tup (pa_cons pe_int (pa_cons (pe_un un_neg pe_int) (pa_cons pe_int (pa_cons pe_int (pa_cons pe_int (pa_cons pe_int (pa_cons (pe_un un_neg pe_int) (pa_cons pe_int (pa_cons pe_int (pa_cons pe_int (pa_cons (pe_un un_neg pe_int) (pa_cons pe_int pa_nil))))))))))))) (pe_ix ix_list (pv 11) (pv 12) (fun _ _ => rfl)) (fun _ _ => rfl)))
      (pss_one (ps_if (pt_cmpR op_ne (pv 13) pe_int (nomark _)) (pss_one (ps_expr (pe_bm PySem.F.plainAttrs_list PySem.F.slot_list_append PySem.F.type_list_append mt_append (pv 10) (pa_cons (pe_tup (pa_cons (pe_ix ix_tup (pe_ix ix_list (pv 7) (pv 12) (fun _ _ => rfl)) pe_int (fun _ _ => rfl)) (pa_cons (pe_ix ix_tup (pe_ix ix_list (pv 7) (pv 12) (fun _ _ => rfl)) pe_int (fun _ _ => rfl)) (pa_cons (pe_ifExp (pt_cmpR op_in_seq (pv 3) (pe_tup (pa_cons pe_int (pa_cons pe_int pa_nil))) (by rfl)) (pe_callB call_abs (by rfl) T.m_abs (by decide +kernel) (pa_cons (pv 13) pa_nil)) (pv 13)) pa_nil)))) pa_nil)))) pss_nil))))
      (pss_one (ps_ret (pe_tup (pa_cons (pv 5) (pa_cons (pv 10) pa_nil))))))))))))), ?_⟩
  -- count
  refine ⟨_, rfl, _, rfl, a, ns, first, rfl, hS, _, rfl, _, _, rfl, rfl, (show 0 < most by omega), _, _, rfl, rfl, ?_⟩
  obtain ⟨n, hn, hn7⟩ : ∃ n : Nat, 1 + cellZ ns first % most = ((n + 1 : Nat) : Int) ∧ ((n + 1 : Nat) : Int) ≤ most := by
    have h1 := Int.emod_nonneg (cellZ ns first) (show most ≠ 0 by omega)
    have h2 := Int.emod_lt_of_pos (cellZ ns first) (show 0 < most by omega)
    exact ⟨(cellZ ns first % most).toNat, by omega, by omega⟩
  have hn8 : n ≤ 6 := by omega
  have ec : V.int (1 + cellZ ns first % most) = V.int ((n + 1 : Nat) : Int) := by rw [hn]
  refine ⟨by rw [sizeLine_eq]; simp, fun l0 hl0 => ⟨_, rfl, l0, _, [V.int 0], rfl, rfl, upd_same, by omega, by omega, ?_, fun f0 hf0 => ?_⟩⟩
  · rw [hn, sizeLine_eq]
    show 1 * (((n + 1 : Nat) : Int)).toNat ≤ _
    omega
  have s0 : Ext H (upd (upd H l0 (.lst [V.int 0])) f0 (.lst (List.replicate (1 + cellZ ns first % most).toNat [V.int 0]).flatten)) := (ext_upd hl0).new hf0
  have nf0 : H f0 = none := (ext_upd hl0).free hf0
  have hfl : upd (upd H l0 (.lst [V.int 0])) f0 (.lst (List.replicate (1 + cellZ ns first % most).toNat [V.int 0]).flatten) f0 = some (.lst ((List.replicate (n + 1) (0 : Int)).map V.int)) := by
    rw [upd_same, hn]
    have : ((n + 1 : Nat) : Int).toNat = n + 1 := by omega
    rw [this, List.map_replicate]
    have e : ∀ k, (List.replicate k [V.int 0]).flatten = List.replicate k (V.int 0) := fun k => by
      induction k with
      | zero => rfl
      | succ k ih => rw [List.replicate_succ, List.flatten_cons, ih, List.replicate_succ]; rfl
    rw [e]
  generalize upd (upd H l0 (.lst [V.int 0])) f0 (.lst (List.replicate (1 + cellZ ns first % most).toNat [V.int 0]).flatten) = H1 at *
  refine ⟨fun σ H2 => ∃ (fb : Addr) (fs : List Int), σ = [some (.ref a), some (.int (first : Int)), some (.int most), some (.int kind), some (.int ((n + 1 : Nat) : Int)), some (.ref fb), none, none, none, none, none, none, none, none] ∧ Ext H H2 ∧ H fb = none ∧ H2 fb = some (.lst (fs.map V.int)) ∧ fs.length = n + 1 ∧ ∀ f ∈ fs, -2 ≤ f ∧ f ≤ 2, ?_, ?_⟩
  · refine ⟨_, rfl, _, _, rfl, rfl, _, rfl, ite2 (fun _ => ?_) (fun _ => ?_)⟩
    · refine ⟨_, rfl, _, rfl, _, _, rfl, rfl, a, ns, first + 1, rfl, s0.seq hS, _, rfl, cellZ ns (first + 1), 5, n + 1, by rw [← ec]; rfl, by omega, by decide, by decide, fun l H2 rs s2 nl hl lrs hrs => ?_⟩
      have s02 := s0.trans s2
      refine ⟨l, rfl, ⟨_, SqL.of hl⟩, fun D hD => lc_list (xs := rs.map V.int) (fun i H3 => Ext H2 H3 ∧ H3 D = some (.lst (((rs.take i).map fun r => r - 2).map V.int))) ⟨ext_upd hD, upd_same⟩ (fun i H3 _ h => SqL.of (h.1.lst hl)) (fun i x H3 hi hP => ?_) (fun H3 hP => ?_)⟩
      · obtain ⟨s3, hz⟩ := hP
        rw [List.getElem?_map] at hi
        cases hr2 : rs[i]? with
        | none => rw [hr2] at hi; cases hi
        | some r =>
          rw [hr2] at hi
          cases hi
          refine ⟨rfl, _, rfl, _, _, rfl, rfl, _, hz, ?_, s3.own hD, ?_⟩
          · rw [List.length_map, List.length_map, List.length_take]
            exact sl_lt (by omega)
          · rw [upd_same, take_snoc hr2, List.map_append, List.map_append]
            rfl
      · obtain ⟨s3, hz⟩ := hP
        rw [List.length_map, List.take_length] at hz
        refine ⟨D, rs.map fun r => r - 2, ?_, s02.trans s3, s02.free hD, hz, by rw [List.length_map]; exact lrs, fun f m => ?_⟩
        · rw [← ec]
          rfl
        · obtain ⟨r, hr3, rfl⟩ := List.mem_map.mp m
          have := hrs r hr3
          omega
    · refine ⟨f0, List.replicate (n + 1) 0, ?_, s0, nf0, hfl, List.length_replicate, fun f m => ?_⟩
      · rw [← ec]
        rfl
      · rw [List.eq_of_mem_replicate m]
        decide
  rintro σ H2 ⟨fb, fs, rfl, s2, nfb, hfb, lfs, sfs⟩
  -- pairs
  refine ⟨by rw [sizeLine_eq]; simp, fun pl hpl => ?_⟩
  have npl : H pl = none := s2.free hpl
  refine ⟨fun σ H3 => ∃ (u : Option V) (xs : List V), σ = [some (.ref a), some (.int (first : Int)), some (.int most), some (.int kind), some (.int ((n + 1 : Nat) : Int)), some (.ref fb), none, some (.ref pl), u, none, none, none, none, none] ∧ Ext H2 H3 ∧ H3 pl = some (.lst xs) ∧ Paired (PrT H3) xs (prs (n + 1) (n + 1)), ?_, ?_⟩
  · refine ⟨_, rfl, _, rfl, by omega, by omega, for_range (n := n + 1) (fun i σ H3 => ∃ (u : Option V) (xs : List V), σ = [some (.ref a), some (.int (first : Int)), some (.int most), some (.int kind), some (.int ((n + 1 : Nat) : Int)), some (.ref fb), none, some (.ref pl), u, none, none, none, none, none] ∧ Ext H2 H3 ∧ H3 pl = some (.lst xs) ∧ Paired (PrT H3) xs (prs (n + 1) i) ∧ xs.length ≤ 7 * i)
      ⟨_, [], rfl, ext_upd hpl, upd_same, .nil, Nat.zero_le _⟩ (fun i σ H3 hi hP => ?_) (fun σ H3 hP => ?_)⟩
    · obtain ⟨u, xs, rfl, s3, hxs, hpr, lxs⟩ := hP
      have rl : (rowP (n + 1) i).length ≤ 6 := by
        unfold rowP
        rw [List.length_map, List.length_range]
        omega
      refine ⟨_, rfl, _, rfl, _, _, rfl, rfl, _, rfl, _, _, rfl, ⟨by omega, by omega, by omega, by omega⟩, fun D hD => lc_range (lo := 0 + (i : Int) + 1) (n := (((n + 1 : Nat) : Int) - (0 + (i : Int) + 1)).toNat) (fun j H4 => Ext H3 H4 ∧ ∃ ys, H4 D = some (.lst ys) ∧ Paired (PrT H4) ys ((rowP (n + 1) i).take j)) ⟨ext_upd hD, [], upd_same, .nil⟩ (fun j H4 hj hP => ?_) (fun H4 hP => ?_)⟩
      · obtain ⟨s4, ys, hys, hp4⟩ := hP
        have hj : j < n + 1 - (i + 1) := by omega
        have hg : (rowP (n + 1) i)[j]? = some (0 + (i : Int), 0 + (i : Int) + 1 + (j : Int)) := by
          unfold rowP
          rw [List.getElem?_map, List.getElem?_range hj]
          show some ((i : Int), ((i + 1 + j : Nat) : Int)) = _
          congr 1
          refine Prod.ext ?_ ?_
          · show (i : Int) = 0 + i
            omega
          · show ((i + 1 + j : Nat) : Int) = 0 + (i : Int) + 1 + j
            omega
        refine ⟨rfl, _, rfl, _, rfl, sl2, fun p hp => ?_⟩
        have hys2 := (ext_upd (o := .tup [V.int (0 + (i : Int)), .int (0 + (i : Int) + 1 + (j : Int))]) hp).lst hys
        refine ⟨ys, hys2, ?_, (s4.new hp).own hD, ys ++ [.ref p], upd_same, ?_⟩
        · have l4 := hp4.length
          rw [List.length_take] at l4
          exact sl_lt (by omega)
        · rw [take_snoc hg]
          exact prs_upd hys2 (paired_snoc ((ext_upd hp).prs hp4) ⟨p, rfl, upd_same⟩)
      · obtain ⟨s4, ys, hys, hp4⟩ := hP
        have el : (((n + 1 : Nat) : Int) - (0 + (i : Int) + 1)).toNat = (rowP (n + 1) i).length := by
          unfold rowP
          rw [List.length_map, List.length_range]
          omega
        rw [el, List.take_length] at hp4
        have hx4 := s4.lst hxs
        have npl2 : H2 pl = none := hpl
        refine ⟨pl, D, xs, ys, rfl, rfl, hx4, hys, ?_, ?_⟩
        · have := hp4.length
          exact sl_of (by omega)
        · refine ⟨_, _, rfl, (s3.trans s4).own npl2, upd_same, ?_, ?_⟩
          · exact prs_upd hx4 (paired_app (s4.prs hpr) hp4)
          · have := hp4.length
            rw [List.length_append]
            omega
    · obtain ⟨u, xs, rfl, s3, hxs, hpr, _⟩ := hP
      exact ⟨u, xs, rfl, s3, hxs, hpr⟩
  rintro σ H3 ⟨u, ps, rfl, s3, hps, hpr⟩
  -- edges, digits
  have lp := hpr.length
  have lp21 : (prs (n + 1) (n + 1)).length ≤ 21 := prs_len (n + 1) (by omega)
  have s03 := s2.trans s3
  have nfb3 : H3 fb = some (.lst (fs.map V.int)) := s3.lst hfb
  refine ⟨by rw [sizeLine_eq]; simp, fun e0 he0 => ?_⟩
  have ne0 : H e0 = none := s03.free he0
  have x4 : Ext H3 (upd H3 e0 (.lst [])) := ext_upd he0
  have he1 : upd H3 e0 (.lst []) e0 = some (.lst []) := upd_same
  generalize upd H3 e0 (.lst []) = H4 at *
  have s04 := s03.trans x4
  refine ⟨_, rfl, _, rfl, _, _, rfl, rfl, a, ns, first + 2, rfl, s04.seq hS, _, rfl, pl, _, rfl, .inl (SqL.of (x4.lst hps)), cellZ ns (first + 2), 12, ps.length, rfl, by omega, by decide, by decide, fun dl H5 rs s5 nd hd ld hrs => ?_⟩
  have s05 := s04.trans s5
  have x5 := x4.trans s5
  have n1 : fb ≠ e0 := ne_of_none nfb3 he0
  have n2 : pl ≠ e0 := ne_of_none hps he0
  have n3 : dl ≠ e0 := (ne_of_none he1 nd).symm
  refine ⟨_, rfl, pl, _, rfl, .inl (SqL.of (x5.lst hps)), _, rfl, by omega, by omega, for_range (n := ps.length) (fun k σ H6 => ∃ (w1 w2 : Option V) (xs : List V) (es : List Eg), σ = [some (.ref a), some (.int (first : Int)), some (.int most), some (.int kind), some (.int ((n + 1 : Nat) : Int)), some (.ref fb), none, some (.ref pl), u, none, some (.ref e0), some (.ref dl), w1, w2] ∧ Ext H H6 ∧
      H6 fb = some (.lst (fs.map V.int)) ∧ H6 pl = some (.lst ps) ∧ Paired (PrT H6) ps (prs (n + 1) (n + 1)) ∧ H6 dl = some (.lst (rs.map V.int)) ∧ H6 e0 = some (.lst xs) ∧ Paired (EdgeT H6) xs es ∧ (es.map fun e => (e.1, e.2.1)).Sublist ((prs (n + 1) (n + 1)).take k) ∧ ∀ e ∈ es, e.2.2 ≠ 0 ∧ -9 ≤ e.2.2 ∧ e.2.2 ≤ 9)
    ⟨_, _, [], [], rfl, s05, x5.lst nfb3, x5.lst hps, x5.prs hpr, hd, s5.lst he1, .nil, List.nil_sublist _, fun e m => by simp at m⟩ (fun k σ H6 hk hP => ?_) (fun σ H6 hP => ?_)⟩
  · obtain ⟨w1, w2, xs, es, rfl, s6, f6, p6, pr6, d6, e6, ee6, sub, good⟩ := hP
    have hkp : k < ps.length := by
      have : (k : Int) < ps.length := by omega
      omega
    obtain ⟨pk, hpk⟩ : ∃ v, ps[k]? = some v := ⟨_, List.getElem?_eq_getElem hkp⟩
    obtain ⟨⟨pu, pw⟩, hprk, pa, rfl, hpa⟩ := paired_at pr6 hpk
    obtain ⟨r, hrk⟩ : ∃ r, rs[k]? = some r := ⟨_, List.getElem?_eq_getElem (by omega)⟩
    have hr12 := hrs r (List.mem_of_getElem? hrk)
    obtain ⟨c, hc, hc3⟩ := coup_at r hr12.1 hr12.2
    have lxs : xs.length ≤ 21 := by
      have h1 := ee6.length
      have h2 := sub.length_le
      rw [List.length_map, List.length_take] at h2
      omega
    have atk : ∀ {α : Type} {zs : List α} {z : α}, zs[k]? = some z → atI zs (0 + (k : Int)) = some z := fun h => by
      rw [Int.zero_add]
      exact atI_nat h
    refine ⟨_, rfl, _, rfl, _, rfl, by rw [sizeLine_eq]; simp, fun tp htp => ?_⟩
    have y1 := ext_upd (o := .tup [V.int 1, .int (-1), .int 0, .int 2, .int 1, .int 0, .int (-2), .int 3, .int 0, .int 1, .int (-1), .int 0]) htp
    refine ⟨_, rfl, _, rfl, dl, rs.map V.int, _, .int r, rfl, rfl, SqL.of (y1.lst d6), atk (by rw [List.getElem?_map, hrk]; rfl), tp, _, r, .int c, rfl, rfl, SqT.of upd_same, hc, ?_⟩
    generalize upd H6 tp (.tup [V.int 1, .int (-1), .int 0, .int 2, .int 1, .int 0, .int (-2), .int 3, .int 0, .int 1, .int (-1), .int 0]) = H7 at *
    have subk : (es.map fun e => (e.1, e.2.1)).Sublist ((prs (n + 1) (n + 1)).take (k + 1)) := by
      rw [take_snoc hprk]
      exact sub.trans (List.sublist_append_left _ _)
    refine ⟨_, rfl, rfl, _, rfl, iteB (fun z => ?_) (fun z => ?_)⟩
    · have cz : c ≠ 0 := fun w => by
        rw [w] at z
        cases z
      refine ⟨_, rfl, .inl ⟨rfl, _, SqL.of (y1.lst e6)⟩, _, rfl, _, rfl, pl, ps, _, _, rfl, rfl, SqL.of (y1.lst p6), atk hpk, pa, _, 0, _, rfl, rfl, SqT.of (y1.at hpa), atI_nat (j := 0) rfl,
        _, rfl, _, rfl, pl, ps, _, _, rfl, rfl, SqL.of (y1.lst p6), atk hpk, pa, _, 1, _, rfl, rfl, SqT.of (y1.at hpa), atI_nat (j := 1) rfl, _, rfl, sl2, fun q1 hq1 => ?_⟩
      have y2 := y1.trans (ext_upd (o := .tup [V.int 1, .int 3]) hq1)
      refine ⟨q1, _, rfl, .inr (SqT.of upd_same), rfl, rfl, _, rfl, ?_⟩
      generalize upd H7 q1 (.tup [V.int 1, .int 3]) = H8 at *
      have key : ∀ c' : Int, c' ≠ 0 → -9 ≤ c' → c' ≤ 9 → ∀ p3, H8 p3 = none → Ext H6 (upd H8 p3 (.tup [.int pu, .int pw, .int c'])) ∧ (∀ e ∈ es ++ [(pu, pw, c')], e.2.2 ≠ 0 ∧ -9 ≤ e.2.2 ∧ e.2.2 ≤ 9) ∧ ((es ++ [(pu, pw, c')]).map fun e => (e.1, e.2.1)).Sublist ((prs (n + 1) (n + 1)).take (k + 1)) := fun c' h1 h2 h3 p3 hp3 => by
        refine ⟨y2.new hp3, fun e m => ?_, ?_⟩
        · rcases List.mem_append.mp m with m | m
          · exact good e m
          · rw [List.mem_singleton.mp m]
            exact ⟨h1, h2, h3⟩
        · rw [take_snoc hprk, List.map_append]
          exact sub.append (List.Sublist.refl _)
      refine iteB (fun _ => ?_) (fun _ => ?_)
      · refine ⟨_, rfl, c, rfl, by rw [sizeLine_eq]; simp, fun p3 hp3 => ?_⟩
        obtain ⟨y3, g3, sb3⟩ := key (if c < 0 then -c else c) (by split <;> omega) (by split <;> omega) (by split <;> omega) p3 hp3
        have ee := y3.lst e6
        refine ⟨e0, xs, .ref p3, rfl, rfl, ee, sl_lt (by omega), _, _, xs ++ [.ref p3], _, rfl, (s6.trans y3).own ne0, ?_, ?_, ?_, ?_, upd_same, edgesT_upd ee (paired_snoc (y3.edgesT ee6) ⟨p3, rfl, upd_same⟩), sb3, g3⟩
        · rw [upd_ne n1]
          exact y3.lst f6
        · rw [upd_ne n2]
          exact y3.lst p6
        · exact prs_upd ee (y3.prs pr6)
        · rw [upd_ne n3]
          exact y3.lst d6
      · refine ⟨_, rfl, by rw [sizeLine_eq]; simp, fun p3 hp3 => ?_⟩
        obtain ⟨y3, g3, sb3⟩ := key c cz (by omega) (by omega) p3 hp3
        have ee := y3.lst e6
        refine ⟨e0, xs, .ref p3, rfl, rfl, ee, sl_lt (by omega), _, _, xs ++ [.ref p3], _, rfl, (s6.trans y3).own ne0, ?_, ?_, ?_, ?_, upd_same, edgesT_upd ee (paired_snoc (y3.edgesT ee6) ⟨p3, rfl, upd_same⟩), sb3, g3⟩
        · rw [upd_ne n1]
          exact y3.lst f6
        · rw [upd_ne n2]
          exact y3.lst p6
        · exact prs_upd ee (y3.prs pr6)
        · rw [upd_ne n3]
          exact y3.lst d6
    · exact ⟨_, _, xs, es, rfl, s6.trans y1, y1.lst f6, y1.lst p6, y1.prs pr6, y1.lst d6, y1.lst e6, y1.edgesT ee6, subk, good⟩
  · obtain ⟨w1, w2, xs, es, rfl, s6, f6, p6, pr6, d6, e6, ee6, sub, good⟩ := hP
    rw [lp, List.take_length] at sub
    refine ⟨_, rfl, _, rfl, sl2, fun l hl => ?_⟩
    have y1 := ext_upd (o := .tup [V.ref fb, .ref e0]) hl
    refine q l _ fb e0 fs xs es (s6.new hl) (s6.free hl) upd_same nfb (y1.lst f6) ne0 (y1.lst e6) (y1.edgesT ee6) ⟨by omega, by rw [lfs]; exact hn7, sfs, ?_, fun e m => ?_, ?_, ?_⟩
    · have h2 := sub.length_le
      rw [List.length_map] at h2
      omega
    · have h1 := mem_prs (sub.subset (List.mem_map.mpr ⟨e, m, rfl⟩))
      obtain ⟨g1, g2, g3⟩ := good e m
      rw [lfs]
      exact ⟨h1.1, h1.2.2.1, h1.2.2.2, g1, g2, g3⟩
    · have h1 := (prs_asc (n + 1) (n + 1)).sublist sub
      rw [List.pairwise_map] at h1
      exact h1
    · have h2 := sub.length_le
      rw [List.length_map] at h2
      rw [lfs]
      exact Nat.le_trans (Nat.mul_le_mul_left 2 h2) (prs_cnt (n + 1) (by omega))
/-! ### data that may be laid -/
def Gd (n : Nat) (d : PyData) : Prop := d.canLay0 = true ∧ d.depth ≤ n
theorem gd_int (i : Int) : Gd 3 (.int i) := ⟨by simp [PyData.canLay0], by simp [PyData.depth]⟩
theorem gd_all {n : Nat} : ∀ {ds : List PyData}, (∀ x ∈ ds, Gd n x) → PyData.canLayAll0 ds = true ∧ PyData.depthAll ds ≤ n
  | [], _ => ⟨by simp [PyData.canLayAll0], by simp [PyData.depthAll]⟩
  | d :: ds, h => by
    obtain ⟨h1, h2⟩ := h d List.mem_cons_self
    obtain ⟨h3, h4⟩ := gd_all fun x m => h x (List.mem_cons_of_mem _ m)
    simp only [PyData.canLayAll0, PyData.depthAll, h1, h3, Bool.and_self, true_and]
    omega
theorem gd_tup {n : Nat} {ds : List PyData} (h : ∀ x ∈ ds, Gd n x) : Gd (n + 1) (.tuple ds) := by
  obtain ⟨h1, h2⟩ := gd_all h
  refine ⟨by simp only [PyData.canLay0, h1], ?_⟩
  simp only [PyData.depth]
  omega
theorem gd_lst {n : Nat} {ds : List PyData} (h : ∀ x ∈ ds, Gd n x) : Gd (n + 1) (.list ds) := by
  obtain ⟨h1, h2⟩ := gd_all h
  refine ⟨by simp only [PyData.canLay0, h1], ?_⟩
  simp only [PyData.depth]
  omega
theorem Gd.up {n m : Nat} {d : PyData} (h : Gd n d) (k : n ≤ m) : Gd m d := ⟨h.1, Nat.le_trans h.2 k⟩
theorem Gd.sh {n : Nat} {d : PyData} (h : Gd n d) (k : n ≤ 64 := by decide) : SeqAt.shaped d = true := by
  unfold SeqAt.shaped
  rw [h.1, Bool.true_and]
  exact decide_eq_true (Nat.le_trans h.2 k)
theorem eqv_self {n : Nat} {d : PyData} (h : Gd n d) : PyData.eqv d d = true := SeqAt.eqv_refl d h.1
/-! orders, places, what leaves: the mathematics -/
/-- a dict from the ints of a list -/
def dkv (f : Int → V) (os : List Int) : List (Key × V) := os.map fun v => ((Sum.inl v : Key), f v)
theorem dkv_len (f : Int → V) (os : List Int) : (dkv f os).length = os.length := List.length_map _
theorem dkv_get {f : Int → V} {v : Int} : ∀ {os : List Int}, v ∈ os → valV (dkv f os) (Sum.inl v) = some (f v)
  | [], h => by simp at h
  | w :: os, h => by
    by_cases e : w = v
    · subst e
      exact valV_pos rfl
    · rw [show dkv f (w :: os) = ((Sum.inl w : Key), f w) :: dkv f os from rfl, valV_neg (fun z => e (Sum.inl.inj z))]
      exact dkv_get ((List.mem_cons.mp h).resolve_left fun z => e z.symm)
theorem dkv_none {f : Int → V} {v : Int} : ∀ {os : List Int}, v ∉ os → valV (dkv f os) (Sum.inl v) = none
  | [], _ => rfl
  | w :: os, h => by
    rw [show dkv f (w :: os) = ((Sum.inl w : Key), f w) :: dkv f os from rfl, valV_neg (fun z => h (by rw [Sum.inl.inj z]; exact List.mem_cons_self))]
    exact dkv_none fun m => h (List.mem_cons_of_mem _ m)
theorem dkv_any {f : Int → V} {v : Int} {os : List Int} : ((dkv f os).any fun kv => decide (kv.1 = (Sum.inl v : Key))) = decide (v ∈ os) := by
  unfold dkv
  rw [List.any_map]
  by_cases h : v ∈ os
  · rw [decide_eq_true h]
    exact List.any_eq_true.mpr ⟨v, h, by simp⟩
  · rw [decide_eq_false h]
    refine List.any_eq_false.mpr fun w m => ?_
    simp only [Function.comp, decide_eq_true_eq]
    exact fun z => h (by rw [← Sum.inl.inj z]; exact m)
theorem dkv_put {f : Int → V} {v : Int} {y : V} {os : List Int} (h : v ∈ os) : putK (dkv f os) (Sum.inl v) y = dkv (fun w => if w = v then y else f w) os := by
  unfold putK
  rw [dkv_any, decide_eq_true h, if_pos rfl]
  unfold dkv
  rw [List.map_map]
  refine List.map_congr_left fun w _ => ?_
  show (if (Sum.inl w : Key) = Sum.inl v then ((Sum.inl w : Key), y) else ((Sum.inl w : Key), f w)) = ((Sum.inl w : Key), if w = v then y else f w)
  by_cases e : w = v
  · rw [if_pos (by rw [e]), if_pos e]
  · rw [if_neg (fun z => e (Sum.inl.inj z)), if_neg e]
theorem dkv_new {f : Int → V} {v : Int} {os : List Int} (h : v ∉ os) : putK (dkv f os) (Sum.inl v) (f v) = dkv f (os ++ [v]) := by
  unfold putK
  rw [dkv_any, decide_eq_false h, if_neg (by decide)]
  unfold dkv
  rw [List.map_append]
  rfl
theorem dkv_congr {f g : Int → V} {os : List Int} (h : ∀ v ∈ os, f v = g v) : dkv f os = dkv g os := List.map_congr_left fun v m => by rw [h v m]
theorem at_int {os : List Int} {i : Nat} {x : V} (h : (os.map V.int)[i]? = some x) : ∃ v, os[i]? = some v ∧ x = .int v := by
  rw [List.getElem?_map] at h
  cases hv : os[i]? with
  | none => rw [hv] at h; cases h
  | some v =>
    rw [hv] at h
    cases h
    exact ⟨v, rfl, rfl⟩
def mx (i j : Int) : Int := if j > i then j else i
theorem mx_le {i j k : Int} : mx i j ≤ k ↔ i ≤ k ∧ j ≤ k := by
  unfold mx
  split <;> omega
def pl (os : List Int) (v : Int) : Int := (os.idxOf v : Int)
def laterE (os : List Int) (e : Int × Int) : Int := mx (pl os e.1) (pl os e.2)
/-- one edge more -/
def lvStep (os : List Int) (f : Int → Int) (e : Int × Int) : Int → Int :=
  let g := fun w => if w = e.1 then mx (f e.1) (laterE os e) else f w
  fun w => if w = e.2 then mx (g e.2) (laterE os e) else g w
def lvF (os : List Int) (es : List (Int × Int)) : Int → Int := es.foldl (lvStep os) (pl os)
theorem lvF_snoc (os : List Int) (es : List (Int × Int)) (e : Int × Int) : lvF os (es ++ [e]) = lvStep os (lvF os es) e := by
  unfold lvF
  rw [List.foldl_append]
  rfl
theorem lvStep_le {os : List Int} {f : Int → Int} {e : Int × Int} {v k : Int} : lvStep os f e v ≤ k ↔ f v ≤ k ∧ ((e.1 = v ∨ e.2 = v) → laterE os e ≤ k) := by
  unfold lvStep
  by_cases h2 : v = e.2
  · by_cases h1 : e.2 = e.1
    · simp only [h2, h1, if_true, mx_le]
      constructor
      · exact fun h => ⟨h.1.1, fun _ => h.2⟩
      · exact fun h => ⟨⟨h.1, h.2 (.inl trivial)⟩, h.2 (.inl trivial)⟩
    · simp only [h2, if_true, if_neg h1, mx_le]
      constructor
      · exact fun h => ⟨h.1, fun _ => h.2⟩
      · exact fun h => ⟨h.1, h.2 (.inr trivial)⟩
  · by_cases h1 : v = e.1
    · simp only [if_neg h2, h1, if_true, mx_le]
      rw [if_neg (by rw [← h1]; exact h2), mx_le]
      constructor
      · exact fun h => ⟨h.1, fun _ => h.2⟩
      · exact fun h => ⟨h.1, h.2 (.inl trivial)⟩
    · simp only [if_neg h2, if_neg h1]
      exact ⟨fun h => ⟨h, fun z => absurd z (by rintro (z | z); exact h1 z.symm; exact h2 z.symm)⟩, fun h => h.1⟩
theorem lvF_le {os : List Int} {v k : Int} (es : List (Int × Int)) : lvF os es v ≤ k ↔ pl os v ≤ k ∧ ∀ e ∈ es, (e.1 = v ∨ e.2 = v) → laterE os e ≤ k := by
  have key : ∀ (es : List (Int × Int)) (f : Int → Int), es.foldl (lvStep os) f v ≤ k ↔ f v ≤ k ∧ ∀ e ∈ es, (e.1 = v ∨ e.2 = v) → laterE os e ≤ k := fun es => by
    induction es with
    | nil => exact fun f => ⟨fun h => ⟨h, fun e m => by simp at m⟩, fun h => h.1⟩
    | cons e es ih =>
      intro f
      rw [List.foldl_cons, ih, lvStep_le]
      constructor
      · rintro ⟨⟨h1, h2⟩, h3⟩
        exact ⟨h1, fun e' m => (List.mem_cons.mp m).elim (fun z => z ▸ h2) (h3 e')⟩
      · rintro ⟨h1, h2⟩
        exact ⟨⟨h1, h2 e List.mem_cons_self⟩, fun e' m => h2 e' (List.mem_cons_of_mem _ m)⟩
  exact key es _
/-- the indexes of the edges that come at a vertex -/
def backs (os : List Int) (es : List (Int × Int)) (v : Int) : List Int := ((es.zipIdx).filter fun p => decide (laterE os p.1 = pl os v)).map fun p => (p.2 : Int)
theorem backs_snoc (os : List Int) (es : List (Int × Int)) (e : Int × Int) (v : Int) : backs os (es ++ [e]) v = backs os es v ++ (if laterE os e = pl os v then [(es.length : Int)] else []) := by
  unfold backs
  rw [List.zipIdx_append, List.filter_append, List.map_append]
  congr 1
  simp only [List.zipIdx_cons, List.zipIdx_nil, Nat.zero_add, List.filter_cons, List.filter_nil]
  split
  · rename_i h
    rw [if_pos (of_decide_eq_true h)]
    rfl
  · rename_i h
    rw [if_neg (fun z => h (decide_eq_true z))]
    rfl
/-- the steps along an order -/
abbrev Stp := Int × List Int × List Int
def stepOf (os : List Int) (es : List (Int × Int)) (i : Nat) (v : Int) : Stp := (v, backs os es v, os.filter fun w => decide (lvF os es w = (i : Int)))
def stepsOf (os : List Int) (es : List (Int × Int)) : List Stp := os.mapIdx fun i v => stepOf os es i v
theorem idx_at {os : List Int} (hn : os.Nodup) {i : Nat} {v : Int} (h : os[i]? = some v) : os.idxOf v = i := by
  obtain ⟨hi, rfl⟩ := List.getElem?_eq_some_iff.mp h
  exact hn.idxOf_getElem i hi
theorem idx_lt {os : List Int} {v : Int} (h : v ∈ os) : os.idxOf v < os.length := List.idxOf_lt_length_of_mem h
theorem at_idx {os : List Int} {v : Int} (h : v ∈ os) : os[os.idxOf v]? = some v := by
  rw [List.getElem?_eq_getElem (idx_lt h)]
  congr 1
  exact List.getElem_idxOf (idx_lt h)
theorem take_new {os : List Int} (hn : os.Nodup) {i : Nat} {v : Int} (h : os[i]? = some v) : v ∉ os.take i := fun m => by
  obtain ⟨j, hj⟩ := List.mem_iff_getElem?.mp m
  rw [List.getElem?_take] at hj
  split at hj
  · have h1 := idx_at hn hj
    have h2 := idx_at hn h
    omega
  · cases hj
/-- spins at p -/
structure SpAt (T : Top K mg) (H : Hp) (p : Addr) (fs : List Int) (es : List Eg) : Prop where
  gf : goodF fs
  ge : goodE fs.length es
  ex : ∃ dx fb eb ys, H p = some (.ins T.C_Spins dx [("fields", .ref fb), ("edges", .ref eb)]) ∧ SqT K H fb (fs.map V.int) ∧ SqT K H eb ys ∧ Paired (EdgeAt K H) ys es
theorem SpAt.up {T : Top K mg} {H H' : Hp} {p : Addr} {fs : List Int} {es : List Eg} (h : SpAt T H p fs es) (s : Ext H H') : SpAt T H' p fs es := by
  obtain ⟨g1, g2, dx, fb, eb, ys, h1, h2, h3, h4⟩ := h
  exact ⟨g1, g2, dx, fb, eb, ys, s.keep p _ h1 (fun _ z => by cases z), s.tup h2, s.tup h3, s.edges h4⟩
/-- the vertices 0 .. n - 1 -/
def rng (n : Nat) : List Int := (List.range n).map Int.ofNat
theorem rng_len (n : Nat) : (rng n).length = n := by
  unfold rng
  rw [List.length_map, List.length_range]
theorem rng_nodup (n : Nat) : (rng n).Nodup := by
  unfold rng
  rw [List.Nodup, List.pairwise_map]
  exact (List.nodup_range (n := n)).imp fun h z => h (Int.ofNat.inj z)
theorem mem_rng {n : Nat} {v : Int} : v ∈ rng n ↔ 0 ≤ v ∧ v < n := by
  unfold rng
  constructor
  · intro h
    obtain ⟨k, hk, rfl⟩ := List.mem_map.mp h
    have := List.mem_range.mp hk
    exact ⟨Int.natCast_nonneg k, by show (k : Int) < n; omega⟩
  · rintro ⟨h0, h1⟩
    exact List.mem_map.mpr ⟨v.toNat, List.mem_range.mpr (by omega), by show ((v.toNat : Nat) : Int) = v; omega⟩
theorem rng_sorted (n : Nat) : (rng n).Pairwise (· ≤ ·) := by
  unfold rng
  rw [List.pairwise_map]
  exact (List.pairwise_lt_range (n := n)).imp fun h => by show ((_ : Nat) : Int) ≤ ((_ : Nat) : Int); omega
def isOrd (n : Nat) (os : List Int) : Prop := os.Perm (rng n)
theorem isOrd_iff {n : Nat} {os ss : List Int} (hp : ss.Perm os) (hs : ss.Pairwise (· ≤ ·)) : ss = rng n ↔ isOrd n os := by
  constructor
  · rintro rfl
    exact hp.symm
  · intro h
    exact List.Perm.eq_of_pairwise (fun a b _ _ h1 h2 => Int.le_antisymm h1 h2) hs (rng_sorted n) (hp.trans h)
def intsL (l : List Int) : PyData := .list (l.map PyData.int)
theorem ints_dpa {H : Hp} : ∀ fs : List Int, DpAll K H (fs.map V.int) (fs.map PyData.int)
  | [] => .nil
  | f :: fs => .cons (.int f) (ints_dpa fs)
theorem eqvAll_ints : ∀ a b : List Int, PyData.eqvAll (a.map PyData.int) (b.map PyData.int) = decide (a = b)
  | [], [] => by simp [PyData.eqvAll]
  | [], _ :: _ => by simp [PyData.eqvAll]
  | _ :: _, [] => by simp [PyData.eqvAll]
  | x :: a, y :: b => by
    simp only [List.map_cons, PyData.eqvAll, PyData.eqv, eqvAll_ints a b, List.cons.injEq]
    by_cases h : x = y
    · simp [h]
    · simp [h]
theorem eqv_ints (a b : List Int) : PyData.eqv (intsL a) (intsL b) = decide (a = b) := by
  unfold intsL
  rw [PyData.eqv, eqvAll_ints]
theorem gd_intsL (l : List Int) : Gd 4 (intsL l) := gd_lst fun x m => by
  obtain ⟨i, _, rfl⟩ := List.mem_map.mp m
  exact gd_int i
theorem rgV_rng (n : Nat) : rgV 0 (n : Int) = (rng n).map V.int := by
  unfold rgV rng
  rw [List.map_map, Int.sub_zero, Int.toNat_natCast]
  refine List.map_congr_left fun i _ => ?_
  show V.int (0 + (i : Int)) = V.int (i : Int)
  rw [Int.zero_add]
def EdgeU (K : PySem.W.Frag) (H : Hp) (v : V) (e : Int × Int) : Prop := ∃ a r, v = .ref a ∧ SqT K H a (V.int e.1 :: .int e.2 :: r)
theorem _root_.EXT.Ext.edgeU {H H' : Hp} (s : Ext H H') {xs : List V} {es : List (Int × Int)} (h : Paired (EdgeU K H) xs es) : Paired (EdgeU K H') xs es := paired_imp (fun _ _ ⟨a, r, e, h⟩ => ⟨a, r, e, s.tup h⟩) h
theorem rix_of {H : Hp} {a : Addr} {xs : List V} {i : Int} {v : V} {Q : VK} (h : Sq K H a xs) (hi : atI xs i = some v) (q : Q v H) : rIx K (.ref a) (.int i) H Q := by
  rcases h with h | h
  · exact .inl ⟨a, xs, i, v, rfl, rfl, h, hi, q⟩
  · exact .inr (.inl ⟨a, xs, i, v, rfl, rfl, h, hi, q⟩)
theorem cut2u {H : Hp} {a : Addr} {u v : V} {r : List V} {Q : VK} (h : SqT K H a (u :: v :: r)) (q : ∀ p H', Ext H H' → SqT K H' p [u, v] → Q (.ref p) H') : rSlA K (.ref a) none (some 2) H Q := by
  have e2 : HT.sIx (u :: v :: r).length (u :: v :: r).length (some 2) = 2 := by
    rw [show (some (2 : Int)) = some ((2 : Nat) : Int) from rfl, HT.sIx_nat]
    simp
  refine ⟨a, _, rfl, h, fun w => ?_, fun _ p hp => ?_⟩
  · have l := w.2
    rw [e2] at l
    have r0 : r = [] := by
      cases r with
      | nil => rfl
      | cons x r => simp at l
    subst r0
    exact q a H (Ext.refl H) h
  · refine q p _ (ext_upd hp) (SqT.of ?_)
    rw [upd_same]
    unfold cutV
    rw [e2, HT.sIx_none]
    rfl
/-- what stands behind t edges -/
def prsOf (es : List Eg) : List (Int × Int) := es.map fun e => (e.1, e.2.1)
theorem edgeU_of {H : Hp} : ∀ {xs : List V} {es : List Eg}, Paired (EdgeAt K H) xs es → Paired (EdgeU K H) xs (prsOf es)
  | _, _, .nil => .nil
  | _, _, .cons ⟨a, e, h⟩ t => .cons ⟨a, _, e, h⟩ (edgeU_of t)
/-- how many stand on the frontier behind k steps, and the greatest number so far -/
def szR (os : List Int) (us : List (Int × Int)) : Nat → Int
  | 0 => 0
  | k + 1 => szR os us k + (1 - ((os.filter fun w => decide (lvF os us w = (k : Int))).length : Int))
def wdR (os : List Int) (us : List (Int × Int)) : Nat → Int
  | 0 => 0
  | k + 1 => mx (wdR os us k) (szR os us (k + 1))
theorem isOrd_nodup {n : Nat} {os : List Int} (h : isOrd n os) : os.Nodup := h.nodup_iff.mpr (rng_nodup n)
theorem isOrd_mem {n : Nat} {os : List Int} (h : isOrd n os) {v : Int} : v ∈ os ↔ 0 ≤ v ∧ v < n := by
  rw [h.mem_iff]
  exact mem_rng
theorem isOrd_in {n : Nat} {os : List Int} {es : List Eg} (h : isOrd n os) (g : goodE n es) : ∀ e ∈ prsOf es, e.1 ∈ os ∧ e.2 ∈ os := fun e m => by
  obtain ⟨x, mx, rfl⟩ := List.mem_map.mp m
  obtain ⟨h1, h2, h3, _⟩ := g.2.1 x mx
  exact ⟨(isOrd_mem h).mpr ⟨h1, by omega⟩, (isOrd_mem h).mpr ⟨by show 0 ≤ x.2.1; omega, h3⟩⟩
/-! ### the law's width -/
theorem filt_succ {f : Int → Int} (k : Nat) : ∀ os : List Int, (os.filter fun w => decide (f w < ((k + 1 : Nat) : Int))).length = (os.filter fun w => decide (f w < (k : Int))).length + (os.filter fun w => decide (f w = (k : Int))).length
  | [] => rfl
  | w :: os => by
    have ih := filt_succ (f := f) k os
    rw [List.filter_cons, List.filter_cons, List.filter_cons]
    rcases Int.lt_trichotomy (f w) k with h | h | h
    · rw [if_pos (by simp; omega), if_pos (by simpa using h), if_neg (by simp; omega)]
      simp only [List.length_cons]
      omega
    · rw [if_pos (by simp; omega), if_neg (by simp; omega), if_pos (by simpa using h)]
      simp only [List.length_cons]
      omega
    · rw [if_neg (by simp; omega), if_neg (by simp; omega), if_neg (by simp; omega)]
      exact ih
theorem szR_eq (os : List Int) (us : List (Int × Int)) (hn : ∀ w, 0 ≤ lvF os us w) : ∀ k : Nat, szR os us k = (k : Int) - ((os.filter fun w => decide (lvF os us w < (k : Int))).length : Int)
  | 0 => by
    have : os.filter (fun w => decide (lvF os us w < ((0 : Nat) : Int))) = [] := List.filter_eq_nil_iff.mpr fun w _ => by
      have := hn w
      simp
      omega
    rw [this]
    rfl
  | k + 1 => by
    rw [szR, szR_eq os us hn k, filt_succ]
    omega
theorem lvF_ge {os : List Int} {us : List (Int × Int)} {v : Int} : pl os v ≤ lvF os us v := ((lvF_le us).mp (Int.le_refl _)).1
/-- those of the first k that have an edge to one that is not among them -/
def meetF (os : List Int) (us : List (Int × Int)) (k : Nat) : List Int := os.filter fun w => decide (pl os w < (k : Int) ∧ (k : Int) ≤ lvF os us w)
theorem filt_two {f g : Int → Int} (k : Int) (h : ∀ w, g w ≤ f w) : ∀ os : List Int, (os.filter fun w => decide (g w < k)).length = (os.filter fun w => decide (f w < k)).length + (os.filter fun w => decide (g w < k ∧ k ≤ f w)).length
  | [] => rfl
  | w :: os => by
    have ih := filt_two k h os
    have hw := h w
    rw [List.filter_cons, List.filter_cons, List.filter_cons]
    by_cases h1 : g w < k
    · by_cases h2 : f w < k
      · rw [if_pos (by simpa using h1), if_pos (by simpa using h2), if_neg (by simp; omega)]
        simp only [List.length_cons]
        omega
      · rw [if_pos (by simpa using h1), if_neg (by simpa using h2), if_pos (by simp; omega)]
        simp only [List.length_cons]
        omega
    · rw [if_neg (by simpa using h1), if_neg (by simp; omega), if_neg (by simp; omega)]
      exact ih
theorem take_mem {os : List Int} (hn : os.Nodup) {k : Nat} {w : Int} : w ∈ os.take k ↔ w ∈ os ∧ pl os w < (k : Int) := by
  constructor
  · intro m
    refine ⟨List.mem_of_mem_take m, ?_⟩
    obtain ⟨j, hj⟩ := List.mem_iff_getElem?.mp m
    rw [List.getElem?_take] at hj
    split at hj
    · have := idx_at hn hj
      show ((os.idxOf w : Nat) : Int) < k
      omega
    · cases hj
  · rintro ⟨m, h⟩
    have h : ((os.idxOf w : Nat) : Int) < k := h
    refine List.mem_iff_getElem?.mpr ⟨os.idxOf w, ?_⟩
    rw [List.getElem?_take, if_pos (by omega)]
    exact at_idx m
theorem same_len {a b : List Int} (ha : a.Nodup) (hb : b.Nodup) (h : ∀ w, w ∈ a ↔ w ∈ b) : a.length = b.length := ((List.perm_ext_iff_of_nodup ha hb).mpr h).length_eq
theorem szR_meet {os : List Int} {us : List (Int × Int)} (hn : os.Nodup) {k : Nat} (hk : k ≤ os.length) : szR os us k = ((meetF os us k).length : Int) := by
  have h0 : ∀ w, 0 ≤ lvF os us w := fun w => Int.le_trans (Int.natCast_nonneg _) lvF_ge
  rw [szR_eq os us h0]
  have h1 := filt_two (f := lvF os us) (g := pl os) (k : Int) (fun w => lvF_ge) os
  have h2 : (os.filter fun w => decide (pl os w < (k : Int))).length = (os.take k).length := same_len (hn.filter _) (hn.sublist (List.take_sublist _ _)) fun w => by
    rw [take_mem hn, List.mem_filter]
    simp
  rw [List.length_take] at h2
  unfold meetF
  omega
/-- an edge leads out of the first k -/
def crosses (ins : List Int) (e : Int × Int) : Prop := (e.1 ∈ ins ∧ e.2 ∉ ins) ∨ (e.1 ∉ ins ∧ e.2 ∈ ins)
def innerE (ins : List Int) (e : Int × Int) : Int := if e.1 ∈ ins then e.1 else e.2
theorem meet_iff {os : List Int} {us : List (Int × Int)} (hn : os.Nodup) (hin : ∀ e ∈ us, e.1 ∈ os ∧ e.2 ∈ os) {k : Nat} {w : Int} :
    w ∈ meetF os us k ↔ ∃ e ∈ us, crosses (os.take k) e ∧ innerE (os.take k) e = w := by
  unfold meetF
  rw [List.mem_filter, decide_eq_true_eq]
  constructor
  · rintro ⟨m, h1, h2⟩
    have h3 : ¬ lvF os us w ≤ (k : Int) - 1 := by omega
    rw [lvF_le] at h3
    have h4 : ∃ e ∈ us, (e.1 = w ∨ e.2 = w) ∧ ¬ laterE os e ≤ (k : Int) - 1 := by
      refine Classical.byContradiction fun c => h3 ⟨by omega, fun e me hw => Classical.byContradiction fun d => c ⟨e, me, hw, d⟩⟩
    obtain ⟨e, me, hw, hl⟩ := h4
    unfold laterE at hl
    rw [mx_le] at hl
    obtain ⟨m1, m2⟩ := hin e me
    refine ⟨e, me, ?_⟩
    rcases hw with rfl | rfl
    · have i1 : e.1 ∈ os.take k := (take_mem hn).mpr ⟨m, h1⟩
      have i2 : e.2 ∉ os.take k := fun z => hl ⟨by omega, by have := ((take_mem hn).mp z).2; omega⟩
      exact ⟨.inl ⟨i1, i2⟩, if_pos i1⟩
    · have i1 : e.2 ∈ os.take k := (take_mem hn).mpr ⟨m, h1⟩
      have i2 : e.1 ∉ os.take k := fun z => hl ⟨by have := ((take_mem hn).mp z).2; omega, by omega⟩
      exact ⟨.inr ⟨i2, i1⟩, if_neg i2⟩
  · rintro ⟨e, me, hc, rfl⟩
    obtain ⟨m1, m2⟩ := hin e me
    rcases hc with ⟨i1, i2⟩ | ⟨i1, i2⟩
    · have ei : innerE (os.take k) e = e.1 := if_pos i1
      rw [ei]
      have h1 := ((take_mem hn).mp i1).2
      refine ⟨m1, h1, ?_⟩
      have h2 : ¬ pl os e.2 < (k : Int) := fun z => i2 ((take_mem hn).mpr ⟨m2, z⟩)
      have h3 : ¬ lvF os us e.1 ≤ (k : Int) - 1 := fun z => by
        have := (((lvF_le us).mp z).2 e me (.inl rfl))
        unfold laterE at this
        rw [mx_le] at this
        omega
      omega
    · have ei : innerE (os.take k) e = e.2 := if_neg i1
      rw [ei]
      have h1 := ((take_mem hn).mp i2).2
      refine ⟨m2, h1, ?_⟩
      have h2 : ¬ pl os e.1 < (k : Int) := fun z => i1 ((take_mem hn).mpr ⟨m1, z⟩)
      have h3 : ¬ lvF os us e.2 ≤ (k : Int) - 1 := fun z => by
        have := (((lvF_le us).mp z).2 e me (.inr rfl))
        unfold laterE at this
        rw [mx_le] at this
        omega
      omega
/-- the greatest of the first k counts, as the law goes -/
def lwR (os : List Int) (us : List (Int × Int)) : Nat → Int
  | 0 => 0
  | k + 1 => mx (lwR os us k) ((meetF os us k).length : Int)
theorem lw_wd {os : List Int} {us : List (Int × Int)} (hn : os.Nodup) : ∀ k, k ≤ os.length → lwR os us (k + 1) = wdR os us k
  | 0, _ => by
    show mx 0 ((meetF os us 0).length : Int) = 0
    rw [← szR_meet hn (Nat.zero_le _)]
    rfl
  | k + 1, h => by
    rw [lwR, lw_wd hn k (by omega), ← szR_meet hn h]
    rfl
theorem seqIdx {n k : Nat} (h : k < n) : seqIndex? (k : Int) n = some k := by
  unfold seqIndex?
  have h0 : ¬ (k : Int) < 0 := by omega
  simp only [if_neg h0]
  simp [h]
/-! ### masks -/
/-- the bit of a vertex -/
def tb (m : Nat) (v : Int) : Bool := m.testBit v.toNat
/-- a mask without a vertex -/
def drp (m : Nat) (v : Int) : Nat := m ^^^ 2 ^ v.toNat
theorem drp_add {m : Nat} {v : Int} (h : tb m v = true) : drp m v + 2 ^ v.toNat = m := by
  have e := Bits.nat_xor_add_and m (2 ^ v.toNat)
  have a : m &&& 2 ^ v.toNat = 2 ^ v.toNat := by
    refine Nat.eq_of_testBit_eq fun j => ?_
    have h : m.testBit v.toNat = true := h
    rw [Nat.testBit_and, Nat.testBit_two_pow]
    by_cases e : v.toNat = j
    · rw [← e, h]
      rfl
    · rw [decide_eq_false e, Bool.and_false]
  rw [a] at e
  unfold drp
  omega
theorem drp_lt {m : Nat} {v : Int} (h : tb m v = true) : drp m v < m := by
  have e := drp_add h
  have p := Nat.two_pow_pos v.toNat
  omega
theorem drp_tb {m : Nat} {v u : Int} (h : tb m v = true) (hv : 0 ≤ v) (hu : 0 ≤ u) : tb (drp m v) u = (tb m u && decide (u ≠ v)) := by
  unfold tb drp at *
  rw [Nat.testBit_xor, Nat.testBit_two_pow]
  by_cases e : u = v
  · subst e
    simp [h]
  · have e2 : ¬ v.toNat = u.toNat := by omega
    simp [e, e2]
theorem drp_int {m : Nat} {v : Int} : Builtin.bitXor (m : Int) (2 ^ v.toNat : Int) = (drp m v : Int) := by
  have e : ((2 : Int) ^ v.toNat) = ((2 ^ v.toNat : Nat) : Int) := by rw [Int.natCast_pow]; rfl
  rw [e, Bits.bitXor_pp (Int.natCast_nonneg _) (Int.natCast_nonneg _), Int.toNat_natCast, Int.toNat_natCast]
  rfl
theorem tb_int {m : Nat} {v : Int} : Builtin.bitAnd ((m : Int) / 2 ^ v.toNat) 1 = if tb m v then 1 else 0 := by
  have e : ((2 : Int) ^ v.toNat) = ((2 ^ v.toNat : Nat) : Int) := by rw [Int.natCast_pow]; rfl
  rw [bitAnd_m1, e]
  unfold tb
  rw [Nat.testBit_eq_decide_div_mod_eq, ← Int.natCast_ediv]
  by_cases h : m / 2 ^ v.toNat % 2 = 1
  · rw [if_pos (by simpa using h)]
    omega
  · rw [if_neg (by simpa using h)]
    omega
theorem mask_ex {m n : Nat} (h0 : m ≠ 0) (h : m < 2 ^ n) : ∃ v : Nat, v < n ∧ tb m v = true := by
  obtain ⟨i, hi⟩ := Nat.exists_testBit_of_ne_zero h0
  refine ⟨i, Classical.byContradiction fun c => ?_, hi⟩
  have := Nat.testBit_lt_two_pow (Nat.lt_of_lt_of_le h (Nat.pow_le_pow_right (by decide) (Nat.le_of_not_lt c)))
  rw [hi] at this
  cases this
theorem full_tb {n : Nat} {v : Int} (h0 : 0 ≤ v) (h : v < n) : tb (2 ^ n - 1) v = true := by
  unfold tb
  rw [Nat.testBit_two_pow_sub_one]
  exact decide_eq_true (by omega)
theorem rng_mem {n : Nat} {v : Int} : v ∈ rng n ↔ 0 ≤ v ∧ v < n := by
  unfold rng
  rw [List.mem_map]
  constructor
  · rintro ⟨i, m, rfl⟩
    have := List.mem_range.mp m
    exact ⟨Int.natCast_nonneg _, by show (i : Int) < n; omega⟩
  · rintro ⟨h0, h1⟩
    exact ⟨v.toNat, List.mem_range.mpr (by omega), Int.toNat_of_nonneg h0⟩
def inR (n : Nat) (us : List (Int × Int)) : Prop := ∀ e ∈ us, 0 ≤ e.1 ∧ e.1 < n ∧ 0 ≤ e.2 ∧ e.2 < n ∧ e.1 ≠ e.2
theorem flat1 (x : V) : ∀ k : Nat, (List.replicate k [x]).flatten = List.replicate k x
  | 0 => rfl
  | k + 1 => by rw [List.replicate_succ, List.flatten_cons, flat1 x k, List.replicate_succ]; rfl
theorem rng_get {n : Nat} {v : Int} (h0 : 0 ≤ v) (h : v < n) : (rng n)[v.toNat]? = some v := by
  unfold rng
  rw [List.getElem?_map, List.getElem?_range (by omega)]
  show some ((v.toNat : Nat) : Int) = some v
  rw [Int.toNat_of_nonneg h0]
theorem set_map {n : Nat} {f : Int → V} {v : Int} {x : V} (h0 : 0 ≤ v) (h : v < n) : ((rng n).map f).set v.toNat x = (rng n).map fun w => if w = v then x else f w := by
  refine List.ext_getElem? fun i => ?_
  rw [List.getElem?_set, List.length_map, rng_len, List.getElem?_map, List.getElem?_map]
  by_cases e : v.toNat = i
  · subst e
    rw [if_pos rfl, if_pos (by omega), rng_get h0 h]
    show some x = some (if v = v then x else f v)
    rw [if_pos rfl]
  · rw [if_neg e]
    cases hi : (rng n)[i]? with
    | none => rfl
    | some w =>
      have hw : w ≠ v := fun z => by
        subst z
        unfold rng at hi
        rw [List.getElem?_map] at hi
        obtain ⟨hl, _⟩ := List.getElem?_eq_some_iff.mp (show ((List.range n).map Int.ofNat)[i]? = some w by rw [List.getElem?_map]; exact hi)
        rw [List.length_map, List.length_range] at hl
        rw [List.getElem?_range hl] at hi
        have : ((i : Nat) : Int) = w := Option.some.inj hi
        omega
      show some (f w) = some (if w = v then x else f w)
      rw [if_neg hw]
theorem ixN_at {n : Nat} {v : Int} (h0 : 0 ≤ v) (h : v < n) : ixN n v = some v.toNat := by
  unfold ixN
  simp [h0, h]
/-! ### even sets as masks over the edges -/
/-- the vertex is one end of the edge -/
def inc (e : Int × Int) (w : Int) : Bool := decide (e.1 = w) ^^ decide (e.2 = w)
def edAt (us : List (Int × Int)) (i : Nat) : Int × Int := us.getD i (0, 0)
/-- whether an odd number of a mask's first t edges end at a vertex -/
def parT (us : List (Int × Int)) (m : Nat) (w : Int) : Nat → Bool
  | 0 => false
  | t + 1 => parT us m w t ^^ (m.testBit t && inc (edAt us t) w)
theorem parT_xor (us : List (Int × Int)) (m k : Nat) (w : Int) : ∀ t, parT us (m ^^^ k) w t = (parT us m w t ^^ parT us k w t)
  | 0 => rfl
  | t + 1 => by
    rw [parT, parT, parT, parT_xor us m k w t, Nat.testBit_xor]
    cases parT us m w t <;> cases parT us k w t <;> cases m.testBit t <;> cases k.testBit t <;> cases inc (edAt us t) w <;> rfl
theorem parT_zero (us : List (Int × Int)) (w : Int) : ∀ t, parT us 0 w t = false
  | 0 => rfl
  | t + 1 => by
    rw [parT, parT_zero us w t, Nat.zero_testBit]
    rfl
theorem parT_pow (us : List (Int × Int)) (i : Nat) (w : Int) : ∀ t, parT us (2 ^ i) w t = (decide (i < t) && inc (edAt us i) w)
  | 0 => rfl
  | t + 1 => by
    rw [parT, parT_pow us i w t, Nat.testBit_two_pow]
    by_cases e : i = t
    · subst e
      rw [decide_eq_false (Nat.lt_irrefl i), decide_eq_true (rfl : i = i), decide_eq_true (Nat.lt_succ_self i)]
      cases inc (edAt us i) w <;> rfl
    · rw [decide_eq_false e]
      have : decide (i < t + 1) = decide (i < t) := decide_eq_decide.mpr ⟨fun h => by omega, fun h => by omega⟩
      rw [this]
      cases inc (edAt us i) w <;> cases decide (i < t) <;> rfl
/-- bits from t on do not count -/
theorem parT_up (us : List (Int × Int)) {m t : Nat} (w : Int) (h : m < 2 ^ t) : parT us m w (t + 1) = parT us m w t := by
  rw [parT, Nat.testBit_lt_two_pow h]
  cases parT us m w t <;> rfl
/-- an even set of the first t edges -/
def evenT (us : List (Int × Int)) (n t m : Nat) : Prop := m < 2 ^ t ∧ ∀ w : Int, 0 ≤ w → w < n → parT us m w t = false
theorem evenT_zero (us : List (Int × Int)) (n m : Nat) : evenT us n 0 m ↔ m = 0 := by
  constructor
  · rintro ⟨h, _⟩
    simpa using h
  · rintro rfl
    exact ⟨by simp, fun w _ _ => rfl⟩
theorem evenT_xor {us : List (Int × Int)} {n t m k : Nat} (h : evenT us n t m) (g : evenT us n t k) : evenT us n t (m ^^^ k) := ⟨Nat.xor_lt_two_pow h.1 g.1, fun w a b => by rw [parT_xor, h.2 w a b, g.2 w a b]; rfl⟩
theorem evenT_up {us : List (Int × Int)} {n t m : Nat} (h : evenT us n t m) : evenT us n (t + 1) m := ⟨Nat.lt_of_lt_of_le h.1 (Nat.pow_le_pow_right (by decide) (Nat.le_succ t)), fun w a b => by rw [parT_up us w h.1]; exact h.2 w a b⟩
/-- without the last edge's bit it is one of the edges before -/
theorem evenT_down {us : List (Int × Int)} {n t m : Nat} (h : evenT us n (t + 1) m) (hb : m.testBit t = false) : evenT us n t m := by
  have hlt : m < 2 ^ t := by
    refine Nat.lt_pow_two_of_testBit m fun i hi => ?_
    by_cases e : i = t
    · rw [e]
      exact hb
    · exact Nat.testBit_lt_two_pow (Nat.lt_of_lt_of_le h.1 (Nat.pow_le_pow_right (by decide) (show t + 1 ≤ i by omega)))
  refine ⟨hlt, fun w a b => ?_⟩
  rw [← parT_up us w hlt]
  exact h.2 w a b
/-! ### a class of vertices -/
/-- the sum over the vertices of a class, below n -/
def xsum (C f : Int → Bool) : Nat → Bool
  | 0 => false
  | n + 1 => xsum C f n ^^ (C (n : Int) && f (n : Int))
theorem xsum_false (C : Int → Bool) {f : Int → Bool} : ∀ {n : Nat}, (∀ w : Int, 0 ≤ w → w < n → f w = false) → xsum C f n = false
  | 0, _ => rfl
  | n + 1, h => by
    rw [xsum, xsum_false C (n := n) fun w a b => h w a (by omega), h n (by omega) (by omega)]
    cases C (n : Int) <;> rfl
theorem xsum_xor (C f g : Int → Bool) : ∀ n, xsum C (fun w => f w ^^ g w) n = (xsum C f n ^^ xsum C g n)
  | 0 => rfl
  | n + 1 => by
    rw [xsum, xsum, xsum, xsum_xor C f g n]
    cases xsum C f n <;> cases xsum C g n <;> cases C (n : Int) <;> cases f (n : Int) <;> cases g (n : Int) <;> rfl
theorem xsum_congr {C f g : Int → Bool} (h : ∀ w, f w = g w) (n : Nat) : xsum C f n = xsum C g n := by
  have : f = g := funext h
  rw [this]
theorem xsum_at (C : Int → Bool) {v : Int} (h0 : 0 ≤ v) : ∀ n : Nat, xsum C (fun w => decide (v = w)) n = (decide (v < n) && C v)
  | 0 => by
    rw [xsum, decide_eq_false (by omega)]
    rfl
  | n + 1 => by
    rw [xsum, xsum_at C h0 n]
    by_cases e : v = (n : Int)
    · rw [decide_eq_false (by omega), decide_eq_true e, decide_eq_true (by omega), e]
      cases C (n : Int) <;> rfl
    · rw [decide_eq_false e]
      have : decide (v < ((n + 1 : Nat) : Int)) = decide (v < (n : Int)) := decide_eq_decide.mpr ⟨fun h => by omega, fun h => by omega⟩
      rw [this]
      cases C v <;> cases C (n : Int) <;> cases decide (v < (n : Int)) <;> rfl
theorem xsum_inc (C : Int → Bool) {e : Int × Int} {n : Nat} (h : 0 ≤ e.1 ∧ e.1 < n ∧ 0 ≤ e.2 ∧ e.2 < n) : xsum C (inc e) n = (C e.1 ^^ C e.2) := by
  have h1 := xsum_xor C (fun w => decide (e.1 = w)) (fun w => decide (e.2 = w)) n
  rw [xsum_at C h.1, xsum_at C h.2.2.1, decide_eq_true h.2.1, decide_eq_true h.2.2.2] at h1
  exact h1
/-- the edges of a mask that lead out of a class, as a parity -/
def cutT (us : List (Int × Int)) (C : Int → Bool) (m : Nat) : Nat → Bool
  | 0 => false
  | t + 1 => cutT us C m t ^^ (m.testBit t && (C (edAt us t).1 ^^ C (edAt us t).2))
theorem cut_sum {us : List (Int × Int)} {C : Int → Bool} {n m : Nat} : ∀ t, (∀ i < t, 0 ≤ (edAt us i).1 ∧ (edAt us i).1 < n ∧ 0 ≤ (edAt us i).2 ∧ (edAt us i).2 < n) → xsum C (fun w => parT us m w t) n = cutT us C m t
  | 0, _ => xsum_false C fun _ _ _ => rfl
  | t + 1, h => by
    have ih := cut_sum (us := us) (C := C) (n := n) (m := m) t fun i hi => h i (by omega)
    rw [cutT, ← ih]
    have e : xsum C (fun w => parT us m w (t + 1)) n = xsum C (fun w => parT us m w t ^^ (m.testBit t && inc (edAt us t) w)) n := rfl
    rw [e, xsum_xor C (fun w => parT us m w t)]
    congr 1
    cases m.testBit t with
    | false => exact xsum_false C fun _ _ _ => rfl
    | true => exact xsum_inc C (h t (Nat.lt_succ_self t))
theorem cut_none {us : List (Int × Int)} {C : Int → Bool} {m : Nat} : ∀ t, (∀ i < t, C (edAt us i).1 = C (edAt us i).2) → cutT us C m t = false
  | 0, _ => rfl
  | t + 1, h => by
    rw [cutT, cut_none t fun i hi => h i (by omega), h t (Nat.lt_succ_self t)]
    cases m.testBit t <;> cases C (edAt us t).2 <;> rfl
/-! ### the forest so far -/
structure Forest (us : List (Int × Int)) (n t : Nat) (roots : Int → Int) (ways : Int → Nat) : Prop where
  lt : ∀ w : Int, 0 ≤ w → w < n → ways w < 2 ^ t
  way : ∀ w x : Int, 0 ≤ w → w < n → 0 ≤ x → x < n → parT us (ways w) x t = (decide (w = x) ^^ decide (roots w = x))
  same : ∀ i < t, roots (edAt us i).1 = roots (edAt us i).2
theorem forest_zero (us : List (Int × Int)) (n : Nat) : Forest us n 0 (fun w => w) (fun _ => 0) := ⟨fun _ _ _ => by simp, fun w x _ _ _ _ => by rw [parT]; cases decide (w = x) <;> rfl, fun i h => absurd h (by omega)⟩
/-- the edge t with the ways to its ends -/
def linkT (us : List (Int × Int)) (ways : Int → Nat) (t : Nat) : Nat := (ways (edAt us t).1 ^^^ ways (edAt us t).2) ^^^ 2 ^ t
section
variable {us : List (Int × Int)} {n t : Nat} {roots : Int → Int} {ways : Int → Nat}
theorem Forest.link_lt (F : Forest us n t roots ways) (h : 0 ≤ (edAt us t).1 ∧ (edAt us t).1 < n ∧ 0 ≤ (edAt us t).2 ∧ (edAt us t).2 < n) : linkT us ways t < 2 ^ (t + 1) := by
  have p := Nat.pow_le_pow_right (show 0 < 2 by decide) (Nat.le_succ t)
  have a := F.lt _ h.1 h.2.1
  have b := F.lt _ h.2.2.1 h.2.2.2
  exact Nat.xor_lt_two_pow (Nat.xor_lt_two_pow (by omega) (by omega)) (by rw [Nat.pow_succ]; have := Nat.two_pow_pos t; omega)
theorem Forest.link_bit (F : Forest us n t roots ways) (h : 0 ≤ (edAt us t).1 ∧ (edAt us t).1 < n ∧ 0 ≤ (edAt us t).2 ∧ (edAt us t).2 < n) : (linkT us ways t).testBit t = true := by
  unfold linkT
  rw [Nat.testBit_xor, Nat.testBit_xor, Nat.testBit_lt_two_pow (F.lt _ h.1 h.2.1), Nat.testBit_lt_two_pow (F.lt _ h.2.2.1 h.2.2.2), Nat.testBit_two_pow]
  simp
theorem Forest.link_par (F : Forest us n t roots ways) (h : 0 ≤ (edAt us t).1 ∧ (edAt us t).1 < n ∧ 0 ≤ (edAt us t).2 ∧ (edAt us t).2 < n) {x : Int} (x0 : 0 ≤ x) (x1 : x < n) : parT us (linkT us ways t) x (t + 1) = (decide (roots (edAt us t).1 = x) ^^ decide (roots (edAt us t).2 = x)) := by
  unfold linkT
  rw [parT_xor, parT_xor, parT_up us x (F.lt _ h.1 h.2.1), parT_up us x (F.lt _ h.2.2.1 h.2.2.2), parT_pow, F.way _ x h.1 h.2.1 x0 x1, F.way _ x h.2.2.1 h.2.2.2 x0 x1, decide_eq_true (Nat.lt_succ_self t)]
  unfold inc
  cases decide ((edAt us t).1 = x) <;> cases decide ((edAt us t).2 = x) <;> cases decide (roots (edAt us t).1 = x) <;> cases decide (roots (edAt us t).2 = x) <;> rfl
/-- an edge within a class closes a round -/
theorem Forest.link_even (F : Forest us n t roots ways) (h : 0 ≤ (edAt us t).1 ∧ (edAt us t).1 < n ∧ 0 ≤ (edAt us t).2 ∧ (edAt us t).2 < n) (e : roots (edAt us t).1 = roots (edAt us t).2) : evenT us n (t + 1) (linkT us ways t) := ⟨F.link_lt h, fun w a b => by
  rw [F.link_par h a b, e]
  cases decide (roots (edAt us t).2 = w) <;> rfl⟩
/-- the even sets behind an edge within a class -/
theorem Forest.even_in (F : Forest us n t roots ways) (h : 0 ≤ (edAt us t).1 ∧ (edAt us t).1 < n ∧ 0 ≤ (edAt us t).2 ∧ (edAt us t).2 < n) (e : roots (edAt us t).1 = roots (edAt us t).2) {m : Nat} : evenT us n (t + 1) m ↔ evenT us n t m ∨ ∃ k, evenT us n t k ∧ m = k ^^^ linkT us ways t := by
  have hl := F.link_even h e
  have hb := F.link_bit h
  constructor
  · intro hm
    cases c : m.testBit t with
    | false => exact .inl (evenT_down hm c)
    | true =>
      refine .inr ⟨m ^^^ linkT us ways t, evenT_down (evenT_xor hm hl) ?_, ?_⟩
      · rw [Nat.testBit_xor, c, hb]
        rfl
      · rw [Nat.xor_assoc, Nat.xor_self, Nat.xor_zero]
  · rintro (hm | ⟨k, hk, rfl⟩)
    · exact evenT_up hm
    · exact evenT_xor (evenT_up hk) hl
/-- the even sets behind an edge between two classes -/
theorem Forest.even_out (F : Forest us n t roots ways) (hin : ∀ i < t + 1, 0 ≤ (edAt us i).1 ∧ (edAt us i).1 < n ∧ 0 ≤ (edAt us i).2 ∧ (edAt us i).2 < n) (e : roots (edAt us t).1 ≠ roots (edAt us t).2) {m : Nat} : evenT us n (t + 1) m ↔ evenT us n t m := by
  constructor
  · intro hm
    refine evenT_down hm ?_
    cases c : m.testBit t with
    | false => rfl
    | true =>
      have h1 := cut_sum (us := us) (C := fun w => decide (roots w = roots (edAt us t).2)) (m := m) (n := n) (t + 1) hin
      rw [xsum_false _ hm.2, cutT, cut_none t fun i hi => by rw [F.same i hi], c, decide_eq_false e, decide_eq_true rfl] at h1
      cases h1
  · exact evenT_up
/-- the forest behind an edge within a class -/
theorem Forest.step_in (F : Forest us n t roots ways) (e : roots (edAt us t).1 = roots (edAt us t).2) : Forest us n (t + 1) roots ways := by
  have p := Nat.pow_le_pow_right (show 0 < 2 by decide) (Nat.le_succ t)
  refine ⟨fun w a b => Nat.lt_of_lt_of_le (F.lt w a b) p, fun w x a b c d => ?_, fun i hi => ?_⟩
  · rw [parT_up us x (F.lt w a b)]
    exact F.way w x a b c d
  · by_cases z : i = t
    · rw [z]
      exact e
    · exact F.same i (by omega)
/-- the forest behind an edge between two classes -/
theorem Forest.step_out (F : Forest us n t roots ways) (h : 0 ≤ (edAt us t).1 ∧ (edAt us t).1 < n ∧ 0 ≤ (edAt us t).2 ∧ (edAt us t).2 < n) :
    Forest us n (t + 1) (fun w => if roots w = roots (edAt us t).2 then roots (edAt us t).1 else roots w) (fun w => if roots w = roots (edAt us t).2 then ways w ^^^ linkT us ways t else ways w) := by
  have p := Nat.pow_le_pow_right (show 0 < 2 by decide) (Nat.le_succ t)
  refine ⟨fun w a b => ?_, fun w x a b c d => ?_, fun i hi => ?_⟩
  · have hw := F.lt w a b
    split
    · exact Nat.xor_lt_two_pow (by omega) (F.link_lt h)
    · omega
  · by_cases z : roots w = roots (edAt us t).2
    · simp only [if_pos z]
      rw [parT_xor, parT_up us x (F.lt w a b), F.way w x a b c d, F.link_par h c d, z]
      cases decide (w = x) <;> cases decide (roots (edAt us t).1 = x) <;> cases decide (roots (edAt us t).2 = x) <;> rfl
    · simp only [if_neg z]
      rw [parT_up us x (F.lt w a b)]
      exact F.way w x a b c d
  · by_cases z : i = t
    · subst z
      by_cases y : roots (edAt us i).1 = roots (edAt us i).2
      · simp only [y, if_true]
      · simp only [if_neg y, if_true]
    · simp only [F.same i (show i < t by omega)]
end
/-! ### the sums of the rounds -/
def spanL (rs : List Nat) : List Nat := rs.foldl (fun ms one => ms ++ ms.map fun m => m ^^^ one) [0]
theorem spanL_snoc (rs : List Nat) (k : Nat) : spanL (rs ++ [k]) = spanL rs ++ (spanL rs).map fun m => m ^^^ k := by
  unfold spanL
  rw [List.foldl_append]
  rfl
theorem spanL_len : ∀ (m : Nat) (rs : List Nat), rs.length = m → (spanL rs).length = 2 ^ m
  | 0, rs, h => by
    rw [List.length_eq_zero_iff.mp h]
    rfl
  | m + 1, rs, h => by
    have hne : rs ≠ [] := fun e => by rw [e] at h; cases h
    have hd := List.dropLast_concat_getLast hne
    rw [← hd, spanL_snoc, List.length_append, List.length_map, spanL_len m rs.dropLast (by rw [List.length_dropLast, h]; rfl), Nat.pow_succ]
    omega
/-- the sums of the rounds are the even sets, each once -/
structure SpanOk (us : List (Int × Int)) (n t : Nat) (rs : List Nat) : Prop where
  nd : (spanL rs).Nodup
  mem : ∀ m, m ∈ spanL rs ↔ evenT us n t m
theorem span_zero (us : List (Int × Int)) (n : Nat) : SpanOk us n 0 [] := ⟨by simp [spanL], fun m => by rw [evenT_zero]; simp [spanL]⟩
section
variable {us : List (Int × Int)} {n t : Nat} {roots : Int → Int} {ways : Int → Nat} {rs : List Nat}
theorem SpanOk.step_in (S : SpanOk us n t rs) (F : Forest us n t roots ways) (h : 0 ≤ (edAt us t).1 ∧ (edAt us t).1 < n ∧ 0 ≤ (edAt us t).2 ∧ (edAt us t).2 < n) (e : roots (edAt us t).1 = roots (edAt us t).2) : SpanOk us n (t + 1) (rs ++ [linkT us ways t]) := by
  have hb := F.link_bit h
  refine ⟨?_, fun m => ?_⟩
  · rw [spanL_snoc]
    refine List.nodup_append.mpr ⟨S.nd, List.Pairwise.map _ (fun a b (hab : a ≠ b) c => hab ?_) S.nd, fun x hx y hy z => ?_⟩
    · have := congrArg (fun q => q ^^^ linkT us ways t) c
      simpa [Nat.xor_assoc] using this
    · obtain ⟨k, hk, rfl⟩ := List.mem_map.mp hy
      have h1 := Nat.testBit_lt_two_pow ((S.mem x).mp hx).1
      have h2 := Nat.testBit_lt_two_pow ((S.mem k).mp hk).1
      rw [z, Nat.testBit_xor, h2, hb] at h1
      cases h1
  · rw [spanL_snoc, List.mem_append, List.mem_map, F.even_in h e, S.mem]
    constructor
    · rintro (h | ⟨k, hk, rfl⟩)
      · exact .inl h
      · exact .inr ⟨k, (S.mem k).mp hk, rfl⟩
    · rintro (h | ⟨k, hk, rfl⟩)
      · exact .inl h
      · exact .inr ⟨k, (S.mem k).mpr hk, rfl⟩
theorem SpanOk.step_out (S : SpanOk us n t rs) (F : Forest us n t roots ways) (hin : ∀ i < t + 1, 0 ≤ (edAt us i).1 ∧ (edAt us i).1 < n ∧ 0 ≤ (edAt us i).2 ∧ (edAt us i).2 < n) (e : roots (edAt us t).1 ≠ roots (edAt us t).2) : SpanOk us n (t + 1) rs := ⟨S.nd, fun m => by rw [S.mem, F.even_out hin e]⟩
end
/-! ### the law's even sets -/
/-- how many of a mask's first t edges end at a vertex -/
def cntT (us : List (Int × Int)) (m : Nat) (w : Int) : Nat → Nat
  | 0 => 0
  | t + 1 => cntT us m w t + if m.testBit t = true then (if (edAt us t).1 = w then 1 else 0) + (if (edAt us t).2 = w then 1 else 0) else 0
theorem cnt_par (us : List (Int × Int)) (m : Nat) (w : Int) : ∀ t, decide (cntT us m w t % 2 = 1) = parT us m w t
  | 0 => rfl
  | t + 1 => by
    have ih := cnt_par us m w t
    rw [cntT, parT, ← ih]
    unfold inc
    cases m.testBit t with
    | false => simp
    | true =>
      by_cases a : (edAt us t).1 = w <;> by_cases b : (edAt us t).2 = w <;> simp only [a, b, if_true, if_false, decide_true, decide_false, Bool.true_and, Bool.xor_false, Bool.xor_true, Bool.false_xor, Bool.true_xor, Bool.not_true, Bool.not_false, Nat.add_zero, Nat.zero_add]
      · refine decide_eq_decide.mpr ?_
        omega
      · rw [← decide_not]
        refine decide_eq_decide.mpr ?_
        omega
      · rw [← decide_not]
        refine decide_eq_decide.mpr ?_
        omega
theorem cnt_even {us : List (Int × Int)} {m : Nat} {w : Int} {t : Nat} : parT us m w t = false ↔ cntT us m w t % 2 = 0 := by
  rw [← cnt_par, decide_eq_false_iff_not]
  omega
/-- a sorted list of lists of ints is one only -/
theorem lex_eq : ∀ xs ys : List Int, HT.lexLt xs ys = false → HT.lexLt ys xs = false → xs = ys
  | [], [], _, _ => rfl
  | [], y :: ys, h, _ => by rw [HT.lexLt_nil_cons] at h; cases h
  | x :: xs, [], _, h => by rw [HT.lexLt_nil_cons] at h; cases h
  | x :: xs, y :: ys, h, k => by
    rw [HT.lexLt_cons] at h k
    by_cases e : x = y
    · subst e
      rw [if_pos rfl] at h k
      rw [lex_eq xs ys h k]
    · rw [if_neg e] at h
      rw [if_neg (Ne.symm e)] at k
      have h := of_decide_eq_false h
      have k := of_decide_eq_false k
      omega
theorem sorted_one {a b : List (List Int)} (hp : a.Perm b) (ha : a.Pairwise fun x y => HT.lexLt y x = false) (hb : b.Pairwise fun x y => HT.lexLt y x = false) : a = b :=
  List.Perm.eq_of_pairwise (fun x y _ _ h1 h2 => lex_eq x y h2 h1) ha hb hp
/-! ### the state behind t edges -/
def stR (us : List (Int × Int)) : Nat → (Int → Int) × (Int → Nat) × List Nat
  | 0 => (fun w => w, fun _ => 0, [])
  | t + 1 => if (stR us t).1 (edAt us t).1 = (stR us t).1 (edAt us t).2 then ((stR us t).1, (stR us t).2.1, (stR us t).2.2 ++ [linkT us (stR us t).2.1 t])
      else (fun w => if (stR us t).1 w = (stR us t).1 (edAt us t).2 then (stR us t).1 (edAt us t).1 else (stR us t).1 w, fun w => if (stR us t).1 w = (stR us t).1 (edAt us t).2 then (stR us t).2.1 w ^^^ linkT us (stR us t).2.1 t else (stR us t).2.1 w, (stR us t).2.2)
theorem edAt_of {us : List (Int × Int)} {i : Nat} {e : Int × Int} (h : us[i]? = some e) : edAt us i = e := by
  unfold edAt
  rw [List.getD_eq_getElem?_getD, h]
  rfl
theorem edAt_in {us : List (Int × Int)} {n i : Nat} (hin : inR n us) (h : i < us.length) : 0 ≤ (edAt us i).1 ∧ (edAt us i).1 < n ∧ 0 ≤ (edAt us i).2 ∧ (edAt us i).2 < n := by
  rw [edAt_of (List.getElem?_eq_getElem h)]
  obtain ⟨a, b, c, d, _⟩ := hin _ (List.getElem_mem h)
  exact ⟨a, b, c, d⟩
theorem stR_ok {us : List (Int × Int)} {n : Nat} (hin : inR n us) : ∀ t, t ≤ us.length → Forest us n t (stR us t).1 (stR us t).2.1 ∧ SpanOk us n t (stR us t).2.2
  | 0, _ => ⟨forest_zero us n, span_zero us n⟩
  | t + 1, h => by
    obtain ⟨F, S⟩ := stR_ok hin t (by omega)
    have hb := edAt_in hin (show t < us.length by omega)
    by_cases e : (stR us t).1 (edAt us t).1 = (stR us t).1 (edAt us t).2
    · rw [stR, if_pos e]
      exact ⟨F.step_in e, S.step_in F hb e⟩
    · rw [stR, if_neg e]
      exact ⟨F.step_out hb, S.step_out F (fun i hi => edAt_in hin (by omega)) e⟩
/-! ### the independent rounds -/
def natsL (rs : List Nat) : List V := rs.map fun (r : Nat) => V.int (r : Int)
theorem inR_of {n : Nat} {es : List Eg} (g : goodE n es) : inR n (prsOf es) := fun e m => by
  obtain ⟨x, mx, rfl⟩ := List.mem_map.mp m
  obtain ⟨h1, h2, h3, _⟩ := g.2.1 x mx
  have h1 : 0 ≤ x.1 := h1
  have h2 : x.1 < x.2.1 := h2
  have h3 : x.2.1 < n := h3
  exact ⟨h1, by show x.1 < _; omega, by show 0 ≤ x.2.1; omega, h3, by show x.1 ≠ x.2.1; omega⟩
/-- what stands behind t edges -/
structure RdSt (us : List (Int × Int)) (n : Nat) (H0 H : Hp) (rl wl dl : Addr) (roots : Int → Int) (ways : Int → Nat) (rs : List Nat) : Prop where
  ext : Ext H0 H
  rl : H rl = some (.lst ((rng n).map fun w => V.int (roots w)))
  wl : H wl = some (.lst ((rng n).map fun w => V.int (ways w : Nat)))
  dl : H dl = some (.lst (natsL rs))
theorem RdSt.up {us : List (Int × Int)} {n : Nat} {H0 H H' : Hp} {rl wl dl : Addr} {roots : Int → Int} {ways : Int → Nat} {rs : List Nat} (h : RdSt us n H0 H rl wl dl roots ways rs) (s : Ext H H') : RdSt us n H0 H' rl wl dl roots ways rs := ⟨h.ext.trans s, s.lst h.rl, s.lst h.wl, s.lst h.dl⟩
def spRounds (T : Top K mg) : Sp := fun vs H Q _ => ∃ (p : Addr) (fs : List Int) (es : List Eg), vs = [.ref p] ∧ SpAt T H p fs es ∧
  ∀ l H', Ext H H' → H l = none → H' l = some (.lst (natsL (stR (prsOf es) es.length).2.2)) → Q (.ref l) H'
theorem atI_v {α : Type} {xs : List α} {v : Int} {x : α} (h0 : 0 ≤ v) (h : xs[v.toNat]? = some x) : atI xs v = some x := by
  have := atI_nat h
  rwa [Int.toNat_of_nonneg h0] at this
theorem mapL_at {n : Nat} {f : Int → V} {v : Int} (h0 : 0 ≤ v) (h : v < n) : atI ((rng n).map f) v = some (f v) := atI_v h0 (by rw [List.getElem?_map, rng_get h0 h]; rfl)
theorem link_int {us : List (Int × Int)} {ways : Int → Nat} {t : Nat} {u v : Int} (e : edAt us t = (u, v)) : Builtin.bitXor (Builtin.bitXor (ways u : Nat) (ways v : Nat)) (1 * 2 ^ ((t : Nat) : Int).toNat) = ((linkT us ways t : Nat) : Int) := by
  unfold linkT
  rw [e, Int.one_mul, Bits.bitXor_pp (Int.natCast_nonneg _) (Int.natCast_nonneg _), Int.toNat_natCast, Int.toNat_natCast]
  have h := drp_int (m := ways u ^^^ ways v) (v := ((t : Nat) : Int))
  unfold drp at h
  rw [Int.toNat_natCast] at h
  rw [Int.toNat_natCast]
  exact h
theorem stR_len (us : List (Int × Int)) : ∀ t, (stR us t).2.2.length ≤ t
  | 0 => Nat.le_refl _
  | t + 1 => by
    have ih := stR_len us t
    rw [stR]
    split
    · show ((stR us t).2.2 ++ [_]).length ≤ t + 1
      rw [List.length_append, List.length_singleton]
      omega
    · show (stR us t).2.2.length ≤ t + 1
      omega
theorem map_step {α : Type} {n k : Nat} {c : Int → Bool} {f g : Int → α} {F : α → V} (hk : k < n) (hc : c (k : Int) = true) : (((rng n).map fun w => F (if decide (w < (k : Int)) && c w then g w else f w)).set k (F (g (k : Int)))) = (rng n).map fun w => F (if decide (w < ((k + 1 : Nat) : Int)) && c w then g w else f w) := by
  have h := set_map (n := n) (f := fun w => F (if decide (w < (k : Int)) && c w then g w else f w)) (v := (k : Int)) (x := F (g (k : Int))) (Int.natCast_nonneg k) (by omega)
  rw [Int.toNat_natCast] at h
  rw [h]
  refine List.map_congr_left fun w _ => ?_
  by_cases e : w = (k : Int)
  · rw [if_pos e, e, hc, decide_eq_true (show (k : Int) < ((k + 1 : Nat) : Int) by omega)]
    rfl
  · rw [if_neg e]
    have : decide (w < ((k + 1 : Nat) : Int)) = decide (w < (k : Int)) := decide_eq_decide.mpr ⟨fun h => by omega, fun h => by omega⟩
    rw [this]
theorem map_skip {α : Type} {n k : Nat} {c : Int → Bool} {f g : Int → α} {F : α → V} (hc : c (k : Int) = false) : ((rng n).map fun w => F (if decide (w < (k : Int)) && c w then g w else f w)) = (rng n).map fun w => F (if decide (w < ((k + 1 : Nat) : Int)) && c w then g w else f w) := by
  refine List.map_congr_left fun w _ => ?_
  by_cases e : w = (k : Int)
  · rw [e, hc, Bool.and_false, Bool.and_false]
  · have : decide (w < ((k + 1 : Nat) : Int)) = decide (w < (k : Int)) := decide_eq_decide.mpr ⟨fun h => by omega, fun h => by omega⟩
    rw [this]
theorem map_base {α : Type} {n : Nat} {c : Int → Bool} {f g : Int → α} {F : α → V} : ((rng n).map fun w => F (if decide (w < ((0 : Nat) : Int)) && c w then g w else f w)) = (rng n).map fun w => F (f w) := by
  refine List.map_congr_left fun w m => ?_
  have := (rng_mem.mp m).1
  rw [decide_eq_false (show ¬ w < ((0 : Nat) : Int) by omega), Bool.false_and]
  rfl
theorem map_full {α : Type} {n : Nat} {c : Int → Bool} {f g : Int → α} {F : α → V} : ((rng n).map fun w => F (if decide (w < (n : Int)) && c w then g w else f w)) = (rng n).map fun w => F (if c w then g w else f w) := by
  refine List.map_congr_left fun w m => ?_
  rw [decide_eq_true (rng_mem.mp m).2, Bool.true_and]
theorem ok_independent_rounds (T : Top K mg) : FnOk P w K mg base CX0 1 T.f_independent_rounds T.d_independent_rounds ["spins"] (spRounds T) := by
  refine T.F_independent_rounds.ok sc_independent_rounds (fun vs H Q E h => ?_) (fun cdv A outer s H vs Q E hr h => ?_)
  · obtain ⟨p, fs, es, rfl, _⟩ := h
    rfl
  obtain ⟨p, fs, es, rfl, hp, q⟩ := h
  refine ⟨_, (pss_cons (ps_set (i := 1) sc_independent_rounds.nd rfl (by first | exact .inl rfl | exact .inr rfl) (pe_callB call_len_seq (by rfl) T.m_len (by decide +kernel) (pa_cons (pe_fld (pv 0) rfl) pa_nil)))
      (pss_cons (ps_set (i := 2) sc_independent_rounds.nd rfl (by first | exact .inl rfl | exact .inr rfl) (pe_listRg rfl (by rfl) T.m_list (prg_1 (by rfl) T.m_range (pv 1))))
      (pss_cons (ps_set (i := 3) sc_independent_rounds.nd rfl (by first | exact .inl rfl | exact .inr rfl) (pe_op op_rep (pe_lst (pa_cons pe_int pa_nil)) (pv 1)))
      (pss_cons (ps_set (i := 4) sc_independent_rounds.nd rfl (by first | exact .inl rfl | exact .inr rfl) (pe_lst pa_nil))
      (pss_cons (ps_for PassesOwn.never rfl (pi_enumS rfl (by rfl) T.m_enumerate (pa_cons (pe_fld (pv 0) rfl) pa_nil)) (pg_tup rfl (pgs_cons (pg_name (i := 5) sc_independent_rounds.nd rfl (by first | exact .inl rfl | exact .inr rfl)) (pgs_cons (pg_tup rfl (pgs_cons (pg_name (i := 6) sc_independent_rounds.nd rfl (by first | exact .inl rfl | exact .inr rfl)) (pgs_cons (pg_name (i := 7) sc_independent_rounds.nd rfl (by first | exact .inl rfl | exact .inr rfl)) (pgs_cons (pg_name (i := 8) sc_independent_rounds.nd rfl (by first | exact .inl rfl | exact .inr rfl)) pgs_nil)))) pgs_nil))) (pss_cons (ps_set (i := 9) sc_independent_rounds.nd rfl (by first | exact .inl rfl | exact .inr rfl) (pe_op op_xor (pe_op op_xor (pe_ix ix_list (pv 3) (pv 6) (fun _ _ => rfl)) (pe_ix ix_list (pv 3) (pv 7) (fun _ _ => rfl))) (pe_op op_shl pe_int (pv 5))))
      (pss_cons (ps_if (pt_cmpR op_eq (pe_ix ix_list (pv 2) (pv 6) (fun _ _ => rfl)) (pe_ix ix_list (pv 2) (pv 7) (fun _ _ => rfl)) (nomark _)) (pss_cons (ps_expr (pe_bm PySem.F.plainAttrs_list PySem.F.slot_list_append PySem.F.type_list_append mt_append (pv 4) (pa_cons (pv 9) pa_nil)))
      (pss_one ps_continue)) pss_nil)
      (pss_cons (ps_set (i := 10) sc_independent_rounds.nd rfl (by first | exact .inl rfl | exact .inr rfl) (pe_ix ix_list (pv 2) (pv 7) (fun _ _ => rfl)))
      (pss_one (ps_for PassesOwn.never rfl (pi_range1 (by rfl) T.m_range (pa_cons (pv 1) pa_nil)) (pg_name (i := 11) sc_independent_rounds.nd rfl (by first | exact .inl rfl | exact .inr rfl)) (pss_one (ps_if (pt_cmpR op_eq (pe_ix ix_list (pv 2) (pv 11) (fun _ _ => rfl)) (pv 10) (nomark _)) (pss_cons (ps_asg (pe_ix ix_list (pv 2) (pv 6) (fun _ _ => rfl)) (pg_sub (pv 2) (pv 11) set_list))
      (pss_one (ps_augS (pv 3) (pv 11) get_list (pv 9) iop_xor set_list))) pss_nil))))))))
      (pss_one (ps_ret (pv 4)))))))), ?_⟩
  have hp0 := hp
  obtain ⟨gf, ge, dx, fb, eb, ys, h1, h2, h3, h4⟩ := hp
  have hl4 := h4.length
  have le := ge.1
  have hin := inR_of ge
  have g1 := gf.1
  have g2 := gf.2.1
  have lz : (prsOf es).length = es.length := List.length_map _
  have en : (fs.map V.int).length = fs.length := List.length_map _
  refine ⟨_, rfl, p, T.C_Spins, dx, _, .ref fb, rfl, h1, T.cl_Spins, T.na_Spins_fields, rfl, fb, _, rfl, .inr h2, ?_⟩
  rw [en]
  generalize hn : fs.length = n at *
  refine ⟨_, rfl, _, rfl, ⟨by decide, by decide, by omega, by omega, by omega⟩, fun rl hrl => ?_⟩
  have x1 := ext_upd (o := .lst (rgV 0 (n : Int))) hrl
  have r1 : upd H rl (.lst (rgV 0 (n : Int))) rl = some (.lst ((rng n).map fun w => V.int w)) := by rw [upd_same, rgV_rng]
  generalize upd H rl (.lst (rgV 0 (n : Int))) = H1 at *
  refine ⟨by rw [sizeLine_eq]; simp, fun l0 hl0 => ⟨_, rfl, l0, _, _, rfl, rfl, upd_same, by omega, by omega, by rw [Int.toNat_natCast, sizeLine_eq]; show 1 * n ≤ 16777216; omega, fun wl hwl => ?_⟩⟩
  have x2 : Ext H1 (upd (upd H1 l0 (.lst [V.int 0])) wl (.lst (List.replicate (n : Int).toNat [V.int 0]).flatten)) := (ext_upd hl0).new hwl
  have w2 : upd (upd H1 l0 (.lst [V.int 0])) wl (.lst (List.replicate (n : Int).toNat [V.int 0]).flatten) wl = some (.lst ((rng n).map fun _ => V.int 0)) := by
    rw [upd_same, flat1, List.map_const', rng_len]
    rfl
  have nrw : rl ≠ wl := ne_of_none ((ext_upd hl0).lst r1) hwl
  have rl0 : H rl = none := hrl
  have wl0 : H wl = none := x1.free ((ext_upd hl0).free hwl)
  generalize upd (upd H1 l0 (.lst [V.int 0])) wl (.lst (List.replicate (n : Int).toNat [V.int 0]).flatten) = H2 at *
  refine ⟨by rw [sizeLine_eq]; simp, fun dl hdl => ?_⟩
  have r2 := x2.lst r1
  have nrd : rl ≠ dl := ne_of_none r2 hdl
  have nwd : wl ≠ dl := ne_of_none w2 hdl
  have dl0 : H dl = none := (x1.trans x2).free hdl
  have x3 := ext_upd (o := .lst []) hdl
  have M : RdSt (prsOf es) n H (upd H2 dl (.lst [])) rl wl dl (stR (prsOf es) 0).1 (stR (prsOf es) 0).2.1 (stR (prsOf es) 0).2.2 := ⟨(x1.trans x2).trans x3, x3.lst r2, x3.lst w2, upd_same⟩
  generalize upd H2 dl (.lst []) = H3 at *
  have h1' := M.ext.keep p _ h1 (fun _ z => by cases z)
  refine ⟨_, rfl, p, T.C_Spins, dx, _, .ref eb, rfl, h1', T.cl_Spins, T.na_Spins_edges, rfl, eb, _, H, rfl, M.ext, .inr h3, fun J4 w4 => for_enum w4 (fun t σ H4 => (∃ y5 y6 y7 y8 y9 y10 y11, σ = [some (.ref p), some (.int (n : Int)), some (.ref rl), some (.ref wl), some (.ref dl), y5, y6, y7, y8, y9, y10, y11]) ∧ RdSt (prsOf es) n H H4 rl wl dl (stR (prsOf es) t).1 (stR (prsOf es) t).2.1 (stR (prsOf es) t).2.2)
    ⟨⟨none, none, none, none, none, none, none, rfl⟩, M⟩ (fun t σ H4 _ h => h.2.ext) (fun t x tt σ H4 hi hPv ht => ?_) (fun σ H4 hPv => ?_)⟩
  · obtain ⟨⟨y5, y6, y7, y8, y9, y10, y11, rfl⟩, S⟩ := hPv
    obtain ⟨⟨u, v, j⟩, het, ae, rfl, hae⟩ := paired_at h4 hi
    have htl := (List.getElem?_eq_some_iff.mp het).1
    have hed : edAt (prsOf es) t = (u, v) := edAt_of (by unfold prsOf; rw [List.getElem?_map, het]; rfl)
    have hb := edAt_in hin (show t < (prsOf es).length by omega)
    rw [hed] at hb
    obtain ⟨u0, u1, v0, v1⟩ := hb
    have u0 : 0 ≤ u := u0
    have u1 : u < n := u1
    have v0 : 0 ≤ v := v0
    have v1 : v < n := v1
    have S := S.up (ext_upd (o := .tup [V.int (t : Int), .ref ae]) ht)
    refine ⟨tt, _, rfl, SqT.of upd_same, rfl, _, _, rfl, _, _, rfl, ae, _, rfl, S.ext.tup hae, rfl, _, _, rfl, _, _, rfl, _, _, rfl, rfl, rfl, ?_⟩
    generalize upd H4 tt (.tup [V.int (t : Int), .ref ae]) = H5 at *
    have hu := mapL_at (f := fun w => V.int ((stR (prsOf es) t).2.1 w : Nat)) u0 u1
    have hv := mapL_at (f := fun w => V.int ((stR (prsOf es) t).2.1 w : Nat)) v0 v1
    have ru := mapL_at (f := fun w => V.int ((stR (prsOf es) t).1 w)) u0 u1
    have rv := mapL_at (f := fun w => V.int ((stR (prsOf es) t).1 w)) v0 v1
    have ln := stR_len (prsOf es) t
    refine ⟨_, rfl, _, rfl, wl, _, u, _, rfl, rfl, SqL.of S.wl, hu, _, rfl, _, rfl, wl, _, v, _, rfl, rfl, SqL.of S.wl, hv, _, _, rfl, rfl, _, rfl, 1, (t : Int), rfl, rfl, ⟨by omega, by omega, by decide⟩, _, _, rfl, rfl, ?_⟩
    dsimp only [gName]
    rw [link_int hed]
    generalize hlk : linkT (prsOf es) (stR (prsOf es) t).2.1 t = lk at *
    refine ⟨_, rfl, _, rfl, rl, _, u, _, rfl, rfl, SqL.of S.rl, ru, _, rfl, _, rfl, rl, _, v, _, rfl, rfl, SqL.of S.rl, rv, rfl, _, rfl, iteB (fun z => ?_) (fun z => ?_)⟩
    · have e : (stR (prsOf es) t).1 u = (stR (prsOf es) t).1 v := V.int.inj (of_decide_eq_true z)
      have es1 : stR (prsOf es) (t + 1) = ((stR (prsOf es) t).1, (stR (prsOf es) t).2.1, (stR (prsOf es) t).2.2 ++ [lk]) := by rw [stR, if_pos (by rw [hed]; exact e), hlk]
      refine ⟨_, rfl, .inl ⟨rfl, _, SqL.of S.dl⟩, _, rfl, dl, _, _, rfl, rfl, S.dl, sl_lt (by unfold natsL; rw [List.length_map]; omega), ⟨_, _, _, _, _, _, _, rfl⟩, ?_⟩
      rw [es1]
      refine ⟨S.ext.own dl0, ?_, ?_, ?_⟩
      · rw [upd_ne nrd]
        exact S.rl
      · rw [upd_ne nwd]
        exact S.wl
      · rw [upd_same]
        unfold natsL
        rw [List.map_append]
        rfl
    · have e : (stR (prsOf es) t).1 u ≠ (stR (prsOf es) t).1 v := fun c => by
        rw [decide_eq_true (congrArg V.int c)] at z
        cases z
      have es1 : stR (prsOf es) (t + 1) = (fun w => if (stR (prsOf es) t).1 w = (stR (prsOf es) t).1 v then (stR (prsOf es) t).1 u else (stR (prsOf es) t).1 w, fun w => if (stR (prsOf es) t).1 w = (stR (prsOf es) t).1 v then (stR (prsOf es) t).2.1 w ^^^ lk else (stR (prsOf es) t).2.1 w, (stR (prsOf es) t).2.2) := by rw [stR, if_neg (by rw [hed]; exact e), hlk, hed]
      rw [es1]
      generalize (stR (prsOf es) t).1 = roots at *
      generalize (stR (prsOf es) t).2.1 = ways at *
      generalize (stR (prsOf es) t).2.2 = rs at *
      refine ⟨_, rfl, _, rfl, rl, _, v, _, rfl, rfl, SqL.of S.rl, rv, ?_⟩
      refine ⟨_, rfl, _, rfl, by omega, by omega, for_range (n := n) (fun k σ H6 => (∃ z11, σ = [some (.ref p), some (.int (n : Int)), some (.ref rl), some (.ref wl), some (.ref dl), some (.int (t : Int)), some (.int u), some (.int v), some (.int j), some (.int (lk : Nat)), some (.int (roots v)), z11]) ∧ RdSt (prsOf es) n H H6 rl wl dl (fun w => if decide (w < (k : Int)) && decide (roots w = roots v) then roots u else roots w) (fun w => if decide (w < (k : Int)) && decide (roots w = roots v) then ways w ^^^ lk else ways w) rs)
        ⟨⟨_, rfl⟩, S.ext, ?_, ?_, S.dl⟩ (fun k σ H6 hk hPv => ?_) (fun σ H6 hPv => ?_)⟩
      · rw [S.rl]
        exact congrArg (fun l => some (HO.lst l)) (map_base (F := V.int) (c := fun w => decide (roots w = roots v)) (g := fun _ => roots u)).symm
      · rw [S.wl]
        exact congrArg (fun l => some (HO.lst l)) (map_base (F := fun m : Nat => V.int (m : Int)) (c := fun w => decide (roots w = roots v)) (g := fun w => ways w ^^^ lk)).symm
      · obtain ⟨⟨z11, rfl⟩, S6⟩ := hPv
        rw [Int.zero_add]
        have k0 : (0 : Int) ≤ (k : Int) := Int.natCast_nonneg k
        have k1 : (k : Int) < n := by omega
        have rk : atI ((rng n).map fun w => V.int (if decide (w < (k : Int)) && decide (roots w = roots v) then roots u else roots w)) (k : Int) = some (V.int (roots (k : Int))) := by
          rw [mapL_at k0 k1]
          simp
        have ru6 : atI ((rng n).map fun w => V.int (if decide (w < (k : Int)) && decide (roots w = roots v) then roots u else roots w)) u = some (V.int (roots u)) := by
          rw [mapL_at u0 u1]
          simp
        have wk : ((rng n).map fun w => V.int ((if decide (w < (k : Int)) && decide (roots w = roots v) then ways w ^^^ lk else ways w : Nat) : Int))[((k : Nat) : Int).toNat]? = some (V.int (ways (k : Int) : Nat)) := by
          rw [List.getElem?_map, rng_get k0 k1]
          simp
        have lr : ((rng n).map fun w => V.int (if decide (w < (k : Int)) && decide (roots w = roots v) then roots u else roots w)).length = n := by rw [List.length_map, rng_len]
        have lw : ((rng n).map fun w => V.int ((if decide (w < (k : Int)) && decide (roots w = roots v) then ways w ^^^ lk else ways w : Nat) : Int)).length = n := by rw [List.length_map, rng_len]
        refine ⟨_, rfl, _, rfl, rl, _, (k : Int), _, rfl, rfl, SqL.of S6.rl, rk, _, rfl, rfl, _, rfl, iteB (fun z2 => ?_) (fun z2 => ?_)⟩
        · have hc : decide (roots (k : Int) = roots v) = true := decide_eq_true (V.int.inj (of_decide_eq_true z2))
          refine ⟨_, rfl, _, rfl, rl, _, u, _, rfl, rfl, SqL.of S6.rl, ru6, _, rfl, _, rfl, rl, _, (k : Int), k, rfl, rfl, S6.rl, (show ixN _ (k : Int) = some k from ixN_at k0 (by rw [lr]; exact k1)), ?_⟩
          rw [map_step (F := V.int) (c := fun w => decide (roots w = roots v)) (f := roots) (g := fun _ => roots u) hk hc]
          have hw7 : upd H6 rl (.lst ((rng n).map fun w => V.int (if decide (w < ((k + 1 : Nat) : Int)) && decide (roots w = roots v) then roots u else roots w))) wl = some (.lst ((rng n).map fun w => V.int ((if decide (w < (k : Int)) && decide (roots w = roots v) then ways w ^^^ lk else ways w : Nat) : Int))) := by
            rw [upd_ne nrw.symm]
            exact S6.wl
          have eb7 : Builtin.bitXor (ways (k : Int) : Nat) (lk : Nat) = ((ways (k : Int) ^^^ lk : Nat) : Int) := by rw [Bits.bitXor_pp (Int.natCast_nonneg _) (Int.natCast_nonneg _), Int.toNat_natCast, Int.toNat_natCast]
          refine ⟨_, rfl, _, rfl, ⟨wl, _, (k : Int), _, rfl, rfl, k0, SqL.of hw7, wk, _, rfl, _, _, rfl, rfl, wl, _, (k : Int), k, rfl, rfl, hw7, (show ixN _ (k : Int) = some k from ixN_at k0 (by rw [lw]; exact k1)), ?_⟩⟩
          refine ⟨⟨_, rfl⟩, (S6.ext.own rl0).own wl0, ?_, ?_, ?_⟩
          · rw [upd_ne nrw, upd_same]
          · rw [upd_same]
            show some (HO.lst (List.set _ k (V.int (Builtin.bitXor (ways (k : Int) : Nat) (lk : Nat))))) = _
            rw [eb7, map_step (F := fun m : Nat => V.int (m : Int)) (c := fun w => decide (roots w = roots v)) (f := ways) (g := fun w => ways w ^^^ lk) hk hc]
          · rw [upd_ne nwd.symm, upd_ne nrd.symm]
            exact S6.dl
        · have hc : decide (roots (k : Int) = roots v) = false := decide_eq_false fun c => by
            rw [decide_eq_true (congrArg V.int c)] at z2
            cases z2
          refine ⟨⟨_, rfl⟩, S6.ext, ?_, ?_, S6.dl⟩
          · rw [S6.rl]
            exact congrArg (fun l => some (HO.lst l)) (map_skip (F := V.int) (c := fun w => decide (roots w = roots v)) (g := fun _ => roots u) hc)
          · rw [S6.wl]
            exact congrArg (fun l => some (HO.lst l)) (map_skip (F := fun m : Nat => V.int (m : Int)) (c := fun w => decide (roots w = roots v)) (g := fun w => ways w ^^^ lk) hc)
      · obtain ⟨⟨z11, rfl⟩, S6⟩ := hPv
        refine ⟨⟨_, _, _, _, _, _, _, rfl⟩, S6.ext, ?_, ?_, S6.dl⟩
        · rw [S6.rl, map_full (F := V.int) (c := fun w => decide (roots w = roots v)) (g := fun _ => roots u)]
          simp only [decide_eq_true_eq]
        · rw [S6.wl, map_full (F := fun m : Nat => V.int (m : Int)) (c := fun w => decide (roots w = roots v)) (g := fun w => ways w ^^^ lk)]
          simp only [decide_eq_true_eq]
  · obtain ⟨⟨y5, y6, y7, y8, y9, y10, y11, rfl⟩, S⟩ := hPv
    rw [hl4] at S
    exact ⟨_, rfl, q dl H4 S.ext dl0 S.dl⟩
/-! ### the members of a mask -/
def insT (t m : Nat) : List Int := (rng t).filter fun v => tb m v
theorem insT_succ {t m : Nat} : insT (t + 1) m = insT t m ++ (if tb m (t : Int) = true then [(t : Int)] else []) := by
  unfold insT
  have e : rng (t + 1) = rng t ++ [(t : Int)] := by
    unfold rng
    rw [List.range_succ, List.map_append]
    rfl
  rw [e, List.filter_append]
  by_cases h : tb m (t : Int) = true
  · rw [if_pos h, List.filter_cons_of_pos h, List.filter_nil]
  · rw [if_neg h, List.filter_cons_of_neg h, List.filter_nil]
theorem insT_len (t m : Nat) : (insT t m).length ≤ t := by
  have := List.length_filter_le (fun v => tb m v) (rng t)
  rw [rng_len] at this
  exact this
theorem tb_ne {m : Nat} {v : Int} : (Builtin.bitAnd ((m : Int) / 2 ^ v.toNat) 1 != 0) = tb m v := by
  rw [tb_int]
  cases tb m v <;> rfl
def spMembers (T : Top K mg) : Sp := fun vs H Q _ => ∃ m t : Nat, vs = [.int (m : Int), .int (t : Int)] ∧ t ≤ 24 ∧ Tg T H ∧ ∀ p H', Ext H H' → H p = none → H' p = some (.tup ((insT t m).map V.int)) → Q (.ref p) H'
theorem ok_members (T : Top K mg) (B : Tb T base) : FnOk P w K mg base CX0 2 T.f_members T.d_members ["mask", "count"] (spMembers T) := by
  refine T.F_members.ok sc_members (fun vs H Q E h => ?_) (fun A outer s H vs Q E hr h => ?_)
  · obtain ⟨m, t, rfl, _⟩ := h
    rfl
  obtain ⟨m, t, rfl, ht, G, q⟩ := h
  refine ⟨_, (pss_one (ps_ret (GXP.pe_tupleGx (own := [("index", 2)]) (g := gName 2) (k := 0) (c := T.c_members) (P := T.P_members) (by rfl) T.m_tuple ⟨hr.mono (by decide), rfl, B.t_members, rfl, rfl, blkOk_by (own := [("index", 2)]) (N := n_members) (sc := defScope s_members) (by decide +kernel), sc_members.nd, by decide +kernel, rfl, (pi_range1 (by rfl) T.m_range (pa_cons (pv 1) pa_nil)), fun A s H C cl code bi fp hrA => (pg_name (i := 2) sc_members.nd rfl (by first | exact .inl rfl | exact .inr rfl)), fun A s H C cl code bi fp hrA => (pts_one (pt_truthI (pe_op op_and (pe_op op_shr (pv 0) (pv 2)) pe_int) (by intro _; rfl))), fun A s H C cl code bi fp hrA => (pv 2), fun _ => rfl⟩))), ?_⟩
  refine ⟨_, rfl, _, rfl, by omega, by omega, G.t_members, fun H2 t2 => ?_⟩
  have x2 : Ext H H2 := ext_tabbed G.t_members t2
  refine gx_range (lo := 0) (n := t) (fun i zs H3 => Ext H2 H3 ∧ zs = (insT i m).map V.int) ⟨Ext.refl _, rfl⟩ (fun i zs H3 hi hP => ?_) (fun zs H3 hP => ?_)
  · obtain ⟨s3, rfl⟩ := hP
    have li := insT_len i m
    refine ⟨rfl, _, rfl, _, rfl, _, _, rfl, rfl, by omega, _, _, rfl, rfl, _, rfl, iteB (fun z => ?_) (fun z => ?_)⟩
    · have zt : tb m (0 + (i : Int)) = true := by rw [← tb_ne]; exact z
      rw [Int.zero_add] at zt
      refine ⟨_, rfl, by rw [List.length_map]; exact sl_lt (by omega), s3, ?_⟩
      rw [insT_succ, if_pos zt, List.map_append, Int.zero_add]
      rfl
    · have zt : tb m (0 + (i : Int)) = false := by rw [← tb_ne]; exact z
      rw [Int.zero_add] at zt
      refine ⟨s3, ?_⟩
      rw [insT_succ, if_neg (by rw [zt]; decide), List.append_nil]
  · obtain ⟨s3, rfl⟩ := hP
    exact fun p hp => q p _ (x2.trans (s3.new hp)) ((x2.trans s3).free hp) upd_same
/-- a field, its frame named (for comprehensions) -/
theorem pe_fldK {X : Cx} {K : PySem.W.Frag} {e : Expr} {ta : TE} {f : Str} {pos : Pos} (hK : X.K = K) (he : PE X e ta) (hb : attributeBase e f X.env (eval e X.env) = eval e X.env) : PE X (.Attribute e f pos) (tFld K ta f) := hK ▸ pe_fld he hb
def rLenS (K : PySem.W.Frag) : List V → Hp → VK → Prop := fun xs H Q => ∃ p ys, xs = [V.ref p] ∧ (SqL K H p ys ∨ SqT K H p ys) ∧ Q (.int (ys.length : Int)) H
/-- a tuple of these ints -/
def TupAt (H : Hp) (v : V) (ks : List Int) : Prop := ∃ a, v = .ref a ∧ H a = some (.tup (ks.map V.int))
def unI : V → Int
  | .int i => i
  | _ => 0
/-- the ints of the tuple at a value -/
def kOf (H : Hp) (v : V) : List Int := match v with
  | .ref a => (match H a with
    | some (.tup l) => l.map unI
    | _ => [])
  | _ => []
theorem kOf_at {H : Hp} {v : V} {ks : List Int} (h : TupAt H v ks) : kOf H v = ks := by
  obtain ⟨a, rfl, h⟩ := h
  show (match H a with
    | some (HO.tup l) => l.map unI
    | _ => []) = ks
  rw [h]
  show (ks.map V.int).map unI = ks
  rw [List.map_map]
  exact (List.map_congr_left fun _ _ => rfl).trans (List.map_id ks)
theorem kOf_map {H : Hp} : ∀ {ys : List V} {kss : List (List Int)}, Paired (TupAt H) ys kss → ys.map (kOf H) = kss
  | _, _, .nil => rfl
  | _, _, .cons h t => by rw [List.map_cons, kOf_at h, kOf_map t]
theorem kOf_paired {H : Hp} : ∀ {ys : List V}, (∀ y ∈ ys, TupAt H y (kOf H y)) → Paired (TupAt H) ys (ys.map (kOf H))
  | [], _ => .nil
  | y :: ys, h => .cons (h y (List.mem_cons_self ..)) (kOf_paired fun z m => h z (List.mem_cons_of_mem _ m))
theorem tups_up {H H' : Hp} (s : Ext H H') {ys : List V} {kss : List (List Int)} (h : Paired (TupAt H) ys kss) : Paired (TupAt H') ys kss := paired_imp (fun _ _ ⟨a, e, g⟩ => ⟨a, e, s.at g⟩) h
theorem tups_upd {H : Hp} {D : Addr} {o : HO} {acc ys : List V} {kss : List (List Int)} (hD : H D = some (.lst acc)) (h : Paired (TupAt H) ys kss) : Paired (TupAt (upd H D o)) ys kss := paired_imp (fun _ _ ⟨a, e, g⟩ => ⟨a, e, by rw [upd_ne (fun z => by rw [z, hD] at g; cases g)]; exact g⟩) h
theorem pwN (n : Nat) : (1 : Int) * 2 ^ (n : Int).toNat = ((2 ^ n : Nat) : Int) := by
  rw [Int.one_mul, Int.toNat_natCast, Int.natCast_pow]
  rfl
theorem spanL_head (rs : List Nat) : ∃ ms, spanL rs = 0 :: ms := by
  unfold spanL
  suffices h : ∀ (rs l : List Nat), (∃ ms, l = 0 :: ms) → ∃ ms, rs.foldl (fun ms one => ms ++ ms.map fun m => m ^^^ one) l = 0 :: ms from h rs [0] ⟨[], rfl⟩
  intro rs
  induction rs with
  | nil => exact fun l h => h
  | cons r rs ih =>
    rintro l ⟨ms, rfl⟩
    exact ih _ ⟨_, rfl⟩
theorem insT_zero (t : Nat) : insT t 0 = [] := by
  unfold insT
  refine List.filter_eq_nil_iff.mpr fun w _ => ?_
  unfold tb
  simp
theorem spanL_take {rs : List Nat} {i : Nat} (h : 2 ^ rs.length ≤ 8192) : (spanL (rs.take i)).length ≤ 8192 := by
  rw [spanL_len _ _ rfl]
  refine Nat.le_trans (Nat.pow_le_pow_right (by decide) ?_) h
  rw [List.length_take]
  omega
def spEven (T : Top K mg) : Sp := fun vs H Q E => ∃ (p : Addr) (fs : List Int) (es : List Eg), vs = [.ref p] ∧ SpAt T H p fs es ∧ Tg T H ∧
  (2 ^ (stR (prsOf es) es.length).2.2.length ≤ 8192 → ∀ l H' ys kss, Ext H H' → H l = none → H' l = some (.lst ys) → Paired (TupAt H') ys kss → kss.Perm ((spanL (stR (prsOf es) es.length).2.2).map (insT es.length)) → kss.Pairwise (fun x y => HT.lexLt y x = false) → Q (.ref l) H') ∧
  (¬ 2 ^ (stR (prsOf es) es.length).2.2.length ≤ 8192 → ∀ H', Ext H H' → E (.ref T.f_TooLarge) none H')
theorem ok_even_sets (T : Top K mg) (B : Tb T base) : FnOk P w K mg base (L2.CX P w) 4 T.f_even_sets T.d_even_sets ["spins"] (spEven T) := by
  refine T.F_even_sets.okX sc_even_sets (fun vs H Q E h => ?_) (fun cdv A outer s H vs Q E hr h => ?_)
  · obtain ⟨p, fs, es, rfl, _⟩ := h
    rfl
  obtain ⟨p, fs, es, rfl, hp, G, q1, q2⟩ := h
  refine ⟨_, (pss_cons (ps_set (i := 1) sc_even_sets.nd rfl (by first | exact .inl rfl | exact .inr rfl) (pe_call (ok_independent_rounds T) (hr.mono (by decide)) (by rfl) T.g_independent_rounds T.F_independent_rounds.kp T.b_independent_rounds .nil pass0 (pa_cons (pv 0) pa_nil)))
      (pss_cons (ps_if (pt_cmpR op_gt (pe_op op_shl pe_int (pe_callB call_len_seq (by rfl) T.m_len (by decide +kernel) (pa_cons (pv 1) pa_nil))) (pe_glob (v := .int 8192) (by rfl) T.g_MOST_SETS ⟨_, rfl⟩) (nomark _)) (pss_one (ps_raise rfl (takes_of rfl rfl rfl rfl) (pmk_own PySem.F.excBase_ValueError T.q_TooLarge T.g_TooLarge T.k_TooLarge (raises_own T.b_TooLarge T.y_TooLarge) (by rfl)))) pss_nil)
      (pss_cons (ps_set (i := 2) sc_even_sets.nd rfl (by first | exact .inl rfl | exact .inr rfl) (pe_lst (pa_cons pe_int pa_nil)))
      (pss_cons (ps_for (passes_of rfl) rfl (pi_list (pv 1)) (pg_name (i := 3) sc_even_sets.nd rfl (by first | exact .inl rfl | exact .inr rfl)) (pss_one (ps_set (i := 2) sc_even_sets.nd rfl (by first | exact .inl rfl | exact .inr rfl) (pe_op op_cat (pv 2) (pe_lc (own := [("mask", 4)]) (g := gName 4) (tt := tYes) rfl sc_even_sets.nd (pi_list (pv 2)) (blkOk_by (own := [("mask", 4)]) (N := n_even_sets) (sc := defScope s_even_sets) (by decide +kernel)) (fun _ _ _ _ _ => (pg_name (i := 4) sc_even_sets.nd rfl (by first | exact .inl rfl | exact .inr rfl))) (fun _ _ _ _ _ => pts_nil) (fun _ _ _ _ _ => (pe_op op_xor (pv 4) (pv 3))))))))
      (pss_one (ps_ret (pe_callB (STU.cr_sortedV (Nat.lt_of_le_of_lt (Nat.add_le_add_left (by decide) _) hr.units)) (by rfl) T.m_sorted (by decide +kernel) (pa_cons (pe_lc (own := [("mask", 4)]) (g := gName 4) (tt := tYes) rfl sc_even_sets.nd (pi_list (pv 2)) (blkOk_by (own := [("mask", 4)]) (N := n_even_sets) (sc := defScope s_even_sets) (by decide +kernel)) (fun _ _ _ _ _ => (pg_name (i := 4) sc_even_sets.nd rfl (by first | exact .inl rfl | exact .inr rfl))) (fun _ _ _ _ _ => pts_nil) (fun _ _ _ _ _ => (pe_call (ok_members T B) (hr.mono (by decide)) (by rfl) T.g_members T.F_members.kp T.b_members .nil pass0 (pa_cons (pv 4) (pa_cons (pe_callB (r := rLenS K) call_len_seq (by rfl) T.m_len (by decide +kernel) (pa_cons (pe_fldK (K := K) rfl (pv 0) rfl) pa_nil)) pa_nil))))) pa_nil)))))))), ?_⟩
  have ge := hp.ge
  have le := ge.1
  have ln := stR_len (prsOf es) es.length
  have hsp := hp
  generalize hrs : (stR (prsOf es) es.length).2.2 = rs at *
  refine ⟨_, rfl, p, fs, es, rfl, hp, fun dl H1 s1 dl0 hdl => ?_⟩
  rw [hrs] at hdl
  have lnat : (natsL rs).length = rs.length := List.length_map _
  refine ⟨_, rfl, dl, _, rfl, .inl (SqL.of hdl), 1, ((natsL rs).length : Int), rfl, rfl, ⟨by omega, by omega, by decide⟩, _, _, rfl, rfl, _, rfl, iteB (fun z => ?_) (fun z => ?_)⟩
  · have z1 : (8192 : Int) < 1 * 2 ^ ((natsL rs).length : Int).toNat := of_decide_eq_true z
    rw [pwN, lnat] at z1
    exact q2 (by omega) H1 s1
  · have z1 : ¬ (8192 : Int) < 1 * 2 ^ ((natsL rs).length : Int).toNat := of_decide_eq_false z
    rw [pwN, lnat] at z1
    have hsz : 2 ^ rs.length ≤ 8192 := by omega
    have q1 := q1 hsz
    refine ⟨by rw [sizeLine_eq]; simp, fun m0 hm0 => ?_⟩
    refine ⟨_, rfl, dl, rfl, ⟨_, SqL.of ((ext_upd hm0).lst hdl)⟩, for_list (xs := natsL rs) (fun i σ H3 => ∃ (ml : Addr) (y3 : Option V), σ = [some (.ref p), some (.ref dl), some (.ref ml), y3, none] ∧ Ext H1 H3 ∧ H3 ml = some (.lst (natsL (spanL (rs.take i)))))
      ⟨m0, none, rfl, ext_upd hm0, upd_same⟩ (fun i σ H3 _ h => by obtain ⟨_, _, _, s, _⟩ := h; exact SqL.of (s.lst hdl)) (fun i x σ H3 hi hPv => ?_) (fun σ H3 hPv => ?_)⟩
    · obtain ⟨ml, y3, rfl, s3, hm3⟩ := hPv
      obtain ⟨one, hone, rfl⟩ : ∃ one, rs[i]? = some one ∧ x = V.int ((one : Nat) : Int) := by
        unfold natsL at hi
        rw [List.getElem?_map] at hi
        obtain ⟨o, h1, h2⟩ := Option.map_eq_some_iff.mp hi
        exact ⟨o, h1, h2.symm⟩
      have lsp := spanL_take (i := i) hsz
      refine ⟨_, rfl, _, rfl, ml, rfl, ⟨_, SqL.of hm3⟩, fun D hD => lc_list (xs := natsL (spanL (rs.take i))) (fun j H4 => Ext H3 H4 ∧ H4 D = some (.lst (natsL (((spanL (rs.take i)).take j).map fun m => m ^^^ one)))) ⟨ext_upd hD, upd_same⟩ (fun j H4 _ h => SqL.of (h.1.lst hm3)) (fun j x H4 hj hP => ?_) (fun H4 hP => ?_)⟩
      · obtain ⟨s4, hD4⟩ := hP
        obtain ⟨m, hm, rfl⟩ : ∃ m, (spanL (rs.take i))[j]? = some m ∧ x = V.int ((m : Nat) : Int) := by
          unfold natsL at hj
          rw [List.getElem?_map] at hj
          obtain ⟨o, h1, h2⟩ := Option.map_eq_some_iff.mp hj
          exact ⟨o, h1, h2.symm⟩
        have hjl := (List.getElem?_eq_some_iff.mp hm).1
        refine ⟨rfl, _, rfl, _, rfl, _, _, rfl, rfl, _, hD4, sl_lt (by unfold natsL; rw [List.length_map, List.length_map, List.length_take]; omega), s4.own hD, ?_⟩
        rw [upd_same]
        show some (HO.lst (_ ++ [V.int (Builtin.bitXor ((m : Nat) : Int) ((one : Nat) : Int))])) = _
        rw [Bits.bitXor_pp (Int.natCast_nonneg _) (Int.natCast_nonneg _), Int.toNat_natCast, Int.toNat_natCast, take_snoc hm, List.map_append]
        unfold natsL
        rw [List.map_append]
        rfl
      · obtain ⟨s4, hD4⟩ := hP
        unfold natsL at hD4
        rw [List.length_map, List.take_length] at hD4
        refine ⟨ml, D, _, _, rfl, rfl, s4.lst hm3, hD4, sl_of (by unfold natsL; rw [List.length_map, List.length_map, List.length_map]; omega), fun r hr2 => ⟨r, _, rfl, (s3.trans s4).new hr2, ?_⟩⟩
        rw [upd_same, take_snoc hone, spanL_snoc]
        unfold natsL
        rw [List.map_append]
    · obtain ⟨ml, y3, rfl, s3, hm3⟩ := hPv
      rw [lnat, List.take_length] at hm3
      have s03 := s1.trans s3
      have lsp : (spanL rs).length ≤ 8192 := by rw [spanL_len _ _ rfl]; exact hsz
      obtain ⟨gf, _, dx, fb, eb, ys0, h1, h2, h3, h4⟩ := hp.up s03
      have hl4 := h4.length
      refine ⟨_, rfl, ml, rfl, ⟨_, SqL.of hm3⟩, fun D hD => lc_list (xs := natsL (spanL rs)) (fun j H4 => Ext H3 H4 ∧ ∃ ys, H4 D = some (.lst ys) ∧ Paired (TupAt H4) ys (((spanL rs).take j).map (insT es.length))) ⟨ext_upd hD, [], upd_same, .nil⟩ (fun j H4 _ h => SqL.of (h.1.lst hm3)) (fun j x H4 hj hP => ?_) (fun H4 hP => ?_)⟩
      · obtain ⟨s4, ys, hys, hp4⟩ := hP
        obtain ⟨m, hm, rfl⟩ : ∃ m, (spanL rs)[j]? = some m ∧ x = V.int ((m : Nat) : Int) := by
          unfold natsL at hj
          rw [List.getElem?_map] at hj
          obtain ⟨o, h1, h2⟩ := Option.map_eq_some_iff.mp hj
          exact ⟨o, h1, h2.symm⟩
        have hjl := (List.getElem?_eq_some_iff.mp hm).1
        have ly := hp4.length
        rw [List.length_map, List.length_take] at ly
        refine ⟨rfl, _, rfl, _, rfl, p, T.C_Spins, dx, _, .ref eb, rfl, s4.keep p _ h1 (fun _ z => by cases z), T.cl_Spins, T.na_Spins_edges, rfl, eb, _, rfl, .inr (s4.tup h3), m, es.length, by rw [hl4]; rfl, le, G.ext (s03.trans s4), fun r H5 s5 r0 hr5 => ?_⟩
        refine ⟨ys, s5.lst hys, sl_lt (by omega), (s4.trans s5).own hD, ys ++ [.ref r], upd_same, ?_⟩
        rw [take_snoc hm, List.map_append]
        exact tups_upd (s5.lst hys) (paired_snoc (tups_up s5 hp4) ⟨r, rfl, hr5⟩)
      · obtain ⟨s4, ys, hys, hp4⟩ := hP
        have lx : (natsL (spanL rs)).length = (spanL rs).length := List.length_map _
        rw [lx, List.take_length] at hp4
        obtain ⟨ms, hms⟩ := spanL_head rs
        have hk := kOf_map hp4
        cases ys with
        | nil => rw [hms] at hp4; cases hp4
        | cons y ys =>
          have h0 : kOf H4 y = [] := by
            rw [hms, List.map_cons, List.map_cons, insT_zero] at hk
            exact (List.cons.inj hk).1
          have hall : ∀ z ∈ y :: ys, TupAt H4 z (kOf H4 z) := fun z mz => by
            obtain ⟨i, hi⟩ := List.mem_iff_getElem?.mp mz
            obtain ⟨b, _, hb⟩ := paired_at hp4 hi
            rw [kOf_at hb]
            exact hb
          refine ⟨D, y, ys, kOf H4, rfl, SqL.of hys, fun z mz => ?_, h0, fun zs l hperm hpw hl => ?_⟩
          · obtain ⟨a, e, g⟩ := hall z mz
            exact ⟨a, e, SqT.of g⟩
          · have x5 := ext_upd (o := .lst zs) hl
            refine q1 l _ zs (zs.map (kOf H4)) (s03.trans (s4.trans x5)) ((s03.trans s4).free hl) upd_same (tups_up x5 (kOf_paired fun z mz => hall z (hperm.mem_iff.mp mz))) ?_ (List.pairwise_map.mpr hpw)
            rw [← hk]
            exact hperm.map _
/-! ### the law's even sets -/
def cntL (us : List (Int × Int)) (ks : List Int) (w : Int) : Nat := (ks.map fun k => (if (edAt us k.toNat).1 = w then 1 else 0) + (if (edAt us k.toNat).2 = w then 1 else 0)).sum
theorem cntL_snoc (us : List (Int × Int)) (ks : List Int) (k w : Int) : cntL us (ks ++ [k]) w = cntL us ks w + ((if (edAt us k.toNat).1 = w then 1 else 0) + (if (edAt us k.toNat).2 = w then 1 else 0)) := by
  unfold cntL
  rw [List.map_append, List.sum_append, List.map_cons, List.map_nil, List.sum_cons, List.sum_nil, Nat.add_zero]
theorem cntL_ins (us : List (Int × Int)) (m : Nat) (w : Int) : ∀ t, cntL us (insT t m) w = cntT us m w t
  | 0 => rfl
  | t + 1 => by
    have ih := cntL_ins us m w t
    rw [insT_succ, cntT, ← ih]
    have e : tb m ((t : Nat) : Int) = m.testBit t := by
      unfold tb
      rw [Int.toNat_natCast]
    rw [e]
    by_cases h : m.testBit t = true
    · rw [if_pos h, if_pos h, cntL_snoc, Int.toNat_natCast]
    · rw [if_neg h, if_neg h, List.append_nil, Nat.add_zero]
def evB (us : List (Int × Int)) (n t m : Nat) : Bool := (rng n).all fun w => decide (cntT us m w t % 2 = 0)
theorem evB_iff {us : List (Int × Int)} {n t m : Nat} (h : m < 2 ^ t) : evB us n t m = true ↔ evenT us n t m := by
  unfold evB
  rw [List.all_eq_true]
  constructor
  · intro g
    exact ⟨h, fun w a b => cnt_even.mpr (of_decide_eq_true (g w (rng_mem.mpr ⟨a, b⟩)))⟩
  · rintro ⟨_, g⟩ w mw
    obtain ⟨a, b⟩ := rng_mem.mp mw
    exact decide_eq_true (cnt_even.mp (g w a b))
/-- the law's masks are the program's -/
theorem ev_perm {us : List (Int × Int)} {n : Nat} (hin : inR n us) : (spanL (stR us us.length).2.2).Perm ((List.range (2 ^ us.length)).filter (evB us n us.length)) := by
  obtain ⟨_, S⟩ := stR_ok hin us.length (Nat.le_refl _)
  refine (List.perm_ext_iff_of_nodup S.nd (List.nodup_range.filter _)).mpr fun m => ?_
  rw [S.mem, List.mem_filter, List.mem_range]
  constructor
  · intro h
    exact ⟨h.1, (evB_iff h.1).mpr h⟩
  · rintro ⟨h1, h2⟩
    exact (evB_iff h1).mp h2
def spLEven (K : PySem.W.Frag) : Sp := fun vs H Q _ => ∃ (pa : Addr) (n : Nat) (xs : List V) (us : List (Int × Int)), vs = [.int (n : Int), .ref pa] ∧ SqL K H pa xs ∧ Paired (EdgeU K H) xs us ∧ inR n us ∧ n ≤ 12 ∧ us.length ≤ 9 ∧
  ∀ l H' ys kss, Ext H H' → H l = none → H' l = some (.lst ys) → Paired (TupAt H') ys kss → kss.Perm (((List.range (2 ^ us.length)).filter (evB us n us.length)).map (insT us.length)) → kss.Pairwise (fun x y => HT.lexLt y x = false) → Q (.ref l) H'
theorem ok_law_even_sets (T : Top K mg) : FnOk P w K mg base CX0 1 T.f_law_even_sets T.d_law_even_sets ["count", "pairs"] (spLEven K) := by
  refine T.F_law_even_sets.ok sc_law_even_sets (fun vs H Q E h => ?_) (fun cdv A outer s H vs Q E hr h => ?_)
  · obtain ⟨pa, n, xs, us, rfl, _⟩ := h
    rfl
  obtain ⟨pa, n, xs, us, rfl, he, hes, hin, hn, hl9, q⟩ := h
  refine ⟨_, (pss_cons (ps_set (i := 2) sc_law_even_sets.nd rfl (by first | exact .inl rfl | exact .inr rfl) (pe_lst pa_nil))
      (pss_cons (ps_for PassesOwn.never rfl (pi_range1 (by rfl) T.m_range (pa_cons (pe_op op_shl pe_int (pe_callB call_len_seq (by rfl) T.m_len (by decide +kernel) (pa_cons (pv 1) pa_nil))) pa_nil)) (pg_name (i := 3) sc_law_even_sets.nd rfl (by first | exact .inl rfl | exact .inr rfl)) (pss_cons (ps_setLc (i := 4) (own := [("k", 5)]) (g := gName 5) rfl sc_law_even_sets.nd rfl rfl (sw_true rfl rfl rfl (by decide +kernel)) (pi_range1 (by rfl) T.m_range (pa_cons (pe_callB call_len_seq (by rfl) T.m_len (by decide +kernel) (pa_cons (pv 1) pa_nil)) pa_nil)) (blkOk_by (own := [("k", 5)]) (N := n_law_even_sets) (sc := defScope s_law_even_sets) (by decide +kernel)) (fun _ _ _ _ _ => (pg_name (i := 5) sc_law_even_sets.nd rfl (by first | exact .inl rfl | exact .inr rfl))) (fun _ _ _ _ _ => pts_one (pt_truthI (pe_op op_and (pe_op op_shr (pv 3) (pv 5)) pe_int) (by intro _; rfl))) (fun _ _ _ _ _ => (pv 5)))
      (pss_cons (ps_set (i := 6) sc_law_even_sets.nd rfl (by first | exact .inl rfl | exact .inr rfl) (pe_op op_rep (pe_lst (pa_cons pe_int pa_nil)) (pv 0)))
      (pss_cons (ps_for PassesOwn.never rfl (pi_list (pv 4)) (pg_name (i := 5) sc_law_even_sets.nd rfl (by first | exact .inl rfl | exact .inr rfl)) (pss_cons (ps_augS (pv 6) (pe_ix ix_tup (pe_ix ix_list (pv 1) (pv 5) (fun _ _ => rfl)) pe_int (fun _ _ => rfl)) get_list pe_int iop_add set_list)
      (pss_one (ps_augS (pv 6) (pe_ix ix_tup (pe_ix ix_list (pv 1) (pv 5) (fun _ _ => rfl)) pe_int (fun _ _ => rfl)) get_list pe_int iop_add set_list))))
      (pss_one (ps_if (pt_val (pe_callB (cr_all rfl) (by rfl) T.m_all (by decide +kernel) (pa_cons (pe_lc (own := [("number", 7)]) (g := gName 7) (tt := tYes) rfl sc_law_even_sets.nd (pi_list (pv 6)) (blkOk_by (own := [("number", 7)]) (N := n_law_even_sets) (sc := defScope s_law_even_sets) (by decide +kernel)) (fun _ _ _ _ _ => (pg_name (i := 7) sc_law_even_sets.nd rfl (by first | exact .inl rfl | exact .inr rfl))) (fun _ _ _ _ _ => pts_nil) (fun _ _ _ _ _ => (pe_cmpR op_eq (pe_op op_mod (pv 7) pe_int) pe_int (nomark _)))) pa_nil))) (pss_one (ps_expr (pe_bm PySem.F.plainAttrs_list PySem.F.slot_list_append PySem.F.type_list_append mt_append (pv 2) (pa_cons (pe_callTy call_tuple_of (by rfl) T.m_tuple (by decide +kernel) (pa_cons (pv 4) pa_nil)) pa_nil)))) pss_nil))))))
      (pss_one (ps_ret (pe_callB (STU.cr_sortedV (Nat.lt_of_le_of_lt (Nat.add_le_add_left (by decide) _) hr.units)) (by rfl) T.m_sorted (by decide +kernel) (pa_cons (pv 2) pa_nil)))))), ?_⟩
  have hl4 := hes.length
  have p9 : 2 ^ us.length ≤ 512 := by
    have := Nat.pow_le_pow_right (show 0 < 2 by decide) hl9
    simpa using this
  have p1 := Nat.two_pow_pos us.length
  refine ⟨by rw [sizeLine_eq]; simp, fun fl hfl => ?_⟩
  have x1 := ext_upd (o := .lst []) hfl
  refine ⟨_, rfl, pa, _, rfl, .inl (x1.seq he), 1, (xs.length : Int), rfl, rfl, ⟨by omega, by omega, by decide⟩, _, rfl, by rw [pwN, hl4]; omega, by rw [pwN, hl4]; omega, ?_⟩
  rw [pwN, hl4]
  refine for_range (lo := 0) (n := (((2 ^ us.length : Nat) : Int)).toNat) (fun i σ H3 => ∃ (y3 y4 y5 y6 : Option V) (ys : List V), σ = [some (.int (n : Int)), some (.ref pa), some (.ref fl), y3, y4, y5, y6, none] ∧ Ext H H3 ∧ H3 fl = some (.lst ys) ∧ Paired (TupAt H3) ys (((List.range i).filter (evB us n us.length)).map (insT us.length)))
    ⟨none, none, none, none, [], rfl, x1, upd_same, .nil⟩ (fun m σ H3 hi hPv => ?_) (fun σ H3 hPv => ?_)
  · obtain ⟨y3, y4, y5, y6, ys, rfl, s3, hf3, hp3⟩ := hPv
    rw [Int.zero_add]
    refine ⟨_, rfl, pa, _, rfl, .inl (s3.seq he), _, rfl, by omega, by omega, fun D hD => lc_range (lo := 0) (n := (xs.length : Int).toNat) (fun j H4 => Ext H3 H4 ∧ H4 D = some (.lst ((insT j m).map V.int))) ⟨ext_upd hD, upd_same⟩ (fun j H4 hj hP => ?_) (fun H4 hP => ?_)⟩
    · obtain ⟨s4, hD4⟩ := hP
      have li := insT_len j m
      refine ⟨rfl, _, rfl, _, rfl, _, _, rfl, rfl, by omega, _, _, rfl, rfl, _, rfl, iteB (fun z => ?_) (fun z => ?_)⟩
      · have zt : tb m (0 + (j : Int)) = true := by rw [← tb_ne]; exact z
        rw [Int.zero_add] at zt
        refine ⟨_, rfl, _, hD4, sl_lt (by rw [List.length_map]; omega), s4.own hD, ?_⟩
        rw [upd_same, insT_succ, if_pos zt, List.map_append, Int.zero_add]
        rfl
      · have zt : tb m (0 + (j : Int)) = false := by rw [← tb_ne]; exact z
        rw [Int.zero_add] at zt
        refine ⟨s4, ?_⟩
        rw [hD4, insT_succ, if_neg (by rw [zt]; decide), List.append_nil]
    · obtain ⟨s4, hD4⟩ := hP
      rw [Int.toNat_natCast, hl4] at hD4
      have s04 := s3.trans s4
      have fl0 : H fl = none := hfl
      refine ⟨by rw [sizeLine_eq]; simp, fun l0 hl0 => ⟨_, rfl, l0, _, _, rfl, rfl, upd_same, by omega, by omega, by rw [Int.toNat_natCast, sizeLine_eq]; show 1 * n ≤ 16777216; omega, fun pl hpl => ?_⟩⟩
      have x5 : Ext H4 (upd (upd H4 l0 (.lst [V.int 0])) pl (.lst (List.replicate (n : Int).toNat [V.int 0]).flatten)) := (ext_upd hl0).new hpl
      have w5 : upd (upd H4 l0 (.lst [V.int 0])) pl (.lst (List.replicate (n : Int).toNat [V.int 0]).flatten) pl = some (.lst ((rng n).map fun w => V.int (cntL us ((insT us.length m).take 0) w : Nat))) := by
        rw [upd_same, flat1]
        have : (fun w => V.int ((cntL us ((insT us.length m).take 0) w : Nat) : Int)) = fun _ : Int => V.int 0 := rfl
        rw [this, List.map_const', rng_len]
        rfl
      have pl4 : H4 pl = none := (ext_upd hl0).free hpl
      generalize upd (upd H4 l0 (.lst [V.int 0])) pl (.lst (List.replicate (n : Int).toNat [V.int 0]).flatten) = H5 at *
      refine ⟨_, rfl, D, rfl, ⟨_, SqL.of (x5.lst hD4)⟩, for_list (xs := (insT us.length m).map V.int) (fun j σ H6 => ∃ y5, σ = [some (.int (n : Int)), some (.ref pa), some (.ref fl), some (.int (m : Int)), some (.ref D), y5, some (.ref pl), none] ∧ Ext H4 H6 ∧ H6 pl = some (.lst ((rng n).map fun w => V.int (cntL us ((insT us.length m).take j) w : Nat))))
        ⟨y5, rfl, x5, w5⟩ (fun j σ H6 _ h => by obtain ⟨_, _, s, _⟩ := h; exact SqL.of (s.lst hD4)) (fun j x σ H6 hj hP => ?_) (fun σ H6 hP => ?_)⟩
      · obtain ⟨y5, rfl, s6, hp6⟩ := hP
        obtain ⟨k, hk, rfl⟩ := at_int hj
        obtain ⟨mk, _⟩ := List.mem_filter.mp (List.mem_of_getElem? hk)
        obtain ⟨k0, k1⟩ := rng_mem.mp mk
        have hkl : k.toNat < xs.length := by omega
        obtain ⟨xk, hxk⟩ : ∃ xk, xs[k.toNat]? = some xk := ⟨_, List.getElem?_eq_getElem hkl⟩
        obtain ⟨⟨u, v⟩, het, ae, r, rfl, hae⟩ := paired_at hes hxk
        have hed : edAt us k.toNat = (u, v) := edAt_of het
        obtain ⟨u0, u1, v0, v1, huv⟩ := hin _ (List.mem_of_getElem? het)
        have u0 : 0 ≤ u := u0
        have u1 : u < n := u1
        have v0 : 0 ≤ v := v0
        have v1 : v < n := v1
        have huv : u ≠ v := huv
        have s06 := s04.trans s6
        have hpl : H pl = none := s04.free pl4
        generalize hc : cntL us ((insT us.length m).take j) = c at *
        refine ⟨_, rfl, _, rfl, _, rfl, pa, _, k, _, rfl, rfl, s06.seq he, atI_v k0 hxk, ae, _, 0, .int u, rfl, rfl, s06.tup hae, atI_nat (j := 0) rfl, ⟨pl, _, u, _, rfl, rfl, u0, SqL.of hp6, by rw [List.getElem?_map, rng_get u0 u1]; rfl, ?_⟩⟩
        refine ⟨_, _, rfl, rfl, pl, _, u, u.toNat, rfl, rfl, hp6, ixN_at u0 (by rw [List.length_map, rng_len]; exact u1), ?_⟩
        have e1 : ((rng n).map fun w => V.int (c w : Nat)).set u.toNat (V.int (((c u : Nat) : Int) + 1)) = (rng n).map fun w => if w = u then V.int (((c u : Nat) : Int) + 1) else V.int (c w : Nat) := set_map u0 u1
        rw [e1]
        have x7 := s6.own (o := .lst ((rng n).map fun w => if w = u then V.int (((c u : Nat) : Int) + 1) else V.int (c w : Nat))) pl4
        have hp7 : upd H6 pl (.lst ((rng n).map fun w => if w = u then V.int (((c u : Nat) : Int) + 1) else V.int (c w : Nat))) pl = some (.lst ((rng n).map fun w => if w = u then V.int (((c u : Nat) : Int) + 1) else V.int (c w : Nat))) := upd_same
        generalize upd H6 pl (.lst ((rng n).map fun w => if w = u then V.int (((c u : Nat) : Int) + 1) else V.int (c w : Nat))) = H7 at *
        have s07 := s04.trans x7
        have gv : ((rng n).map fun w => if w = u then V.int (((c u : Nat) : Int) + 1) else V.int (c w : Nat))[v.toNat]? = some (V.int (c v : Nat)) := by
          rw [List.getElem?_map, rng_get v0 v1]
          show some (if v = u then _ else _) = _
          rw [if_neg (Ne.symm huv)]
        refine ⟨_, rfl, _, rfl, _, rfl, pa, _, k, _, rfl, rfl, s07.seq he, atI_v k0 hxk, ae, _, 1, .int v, rfl, rfl, s07.tup hae, atI_nat (j := 1) rfl, ⟨pl, _, v, _, rfl, rfl, v0, SqL.of hp7, gv, ?_⟩⟩
        refine ⟨_, _, rfl, rfl, pl, _, v, v.toNat, rfl, rfl, hp7, ixN_at v0 (by rw [List.length_map, rng_len]; exact v1), ?_⟩
        refine ⟨_, rfl, x7.own pl4, ?_⟩
        rw [upd_same, take_snoc hk]
        show some (HO.lst (List.set _ v.toNat (V.int (((c v : Nat) : Int) + 1)))) = _
        rw [set_map v0 v1]
        refine congrArg (fun l => some (HO.lst l)) (List.map_congr_left fun w _ => ?_)
        rw [cntL_snoc, hc, hed]
        by_cases a1 : w = v
        · subst a1
          rw [if_pos rfl]
          simp only [if_neg huv, if_true]
          congr 1
        · rw [if_neg a1]
          by_cases a2 : w = u
          · subst a2
            rw [if_pos rfl]
            simp only [if_neg (Ne.symm huv), if_true]
            congr 1
          · rw [if_neg a2]
            simp only [if_neg (Ne.symm a1), if_neg (Ne.symm a2), Nat.add_zero]
      · obtain ⟨y5, rfl, s6, hp6⟩ := hP
        rw [List.length_map, List.take_length] at hp6
        have hcn : (fun w => V.int ((cntL us (insT us.length m) w : Nat) : Int)) = fun w => V.int ((cntT us m w us.length : Nat) : Int) := funext fun w => by rw [cntL_ins]
        rw [hcn] at hp6
        have s06 := s04.trans s6
        refine ⟨_, rfl, pl, rfl, ⟨_, SqL.of hp6⟩, fun D3 hD3 => lc_list (xs := (rng n).map fun w => V.int (cntT us m w us.length : Nat)) (fun j H7 => Ext H6 H7 ∧ H7 D3 = some (.lst ((((rng n).take j).map fun w => decide (cntT us m w us.length % 2 = 0)).map V.bl))) ⟨ext_upd hD3, upd_same⟩ (fun j H7 _ h => SqL.of (h.1.lst hp6)) (fun j x H7 hj hP => ?_) (fun H7 hP => ?_)⟩
        · obtain ⟨s7, hD7⟩ := hP
          obtain ⟨w, hw, rfl⟩ : ∃ w, (rng n)[j]? = some w ∧ x = V.int (cntT us m w us.length : Nat) := by
            rw [List.getElem?_map] at hj
            obtain ⟨o, h1, h2⟩ := Option.map_eq_some_iff.mp hj
            exact ⟨o, h1, h2.symm⟩
          have hjl := (List.getElem?_eq_some_iff.mp hw).1
          rw [rng_len] at hjl
          refine ⟨rfl, _, rfl, _, _, rfl, rfl, (by decide : (0 : Int) < 2), rfl, _, hD7, sl_lt (by rw [List.length_map, List.length_map, List.length_take, rng_len]; omega), s7.own hD3, ?_⟩
          rw [upd_same, take_snoc hw, List.map_append, List.map_append]
          have ed : decide (V.int (((cntT us m w us.length : Nat) : Int) % 2) = V.int 0) = decide (cntT us m w us.length % 2 = 0) := decide_eq_decide.mpr ⟨fun h => by have := V.int.inj h; omega, fun h => congrArg V.int (by omega)⟩
          show some (HO.lst (_ ++ [V.bl (decide (V.int (((cntT us m w us.length : Nat) : Int) % 2) = V.int 0))])) = _
          rw [ed]
          rfl
        · obtain ⟨s7, hD7⟩ := hP
          rw [List.length_map, List.take_length] at hD7
          have s37 := (s4.trans s6).trans s7
          have hf7 := s37.lst hf3
          have hp7 := tups_up s37 hp3
          have hc7 := (s6.trans s7).lst hD4
          have ev : ((rng n).map fun w => decide (cntT us m w us.length % 2 = 0)).all id = evB us n us.length m := by
            rw [List.all_map]
            rfl
          have ly := hp3.length
          have lf := List.length_filter_le (evB us n us.length) (List.range m)
          rw [List.length_range] at lf
          rw [List.length_map] at ly
          have hm : m < 2 ^ us.length := by omega
          refine ⟨D3, _, rfl, SqL.of hD7, _, rfl, ?_⟩
          rw [ev]
          refine iteB (fun z => ?_) (fun z => ?_)
          · refine ⟨_, rfl, .inl ⟨rfl, _, SqL.of hf7⟩, _, rfl, D, _, rfl, .inl ⟨SqL.of hc7, fun r hr2 => ?_⟩⟩
            have x8 := ext_upd (o := .tup ((insT us.length m).map V.int)) hr2
            have hf8 := x8.lst hf7
            refine ⟨fl, _, _, rfl, rfl, hf8, sl_lt (by omega), _, _, _, _, ys ++ [.ref r], rfl, ((s3.trans s37).trans x8).own fl0, upd_same, ?_⟩
            rw [List.range_succ, List.filter_append, List.filter_cons_of_pos z, List.filter_nil, List.map_append]
            exact tups_upd hf8 (paired_snoc (tups_up x8 hp7) ⟨r, rfl, upd_same⟩)
          · refine ⟨_, _, _, _, ys, rfl, s3.trans s37, hf7, ?_⟩
            rw [List.range_succ, List.filter_append, List.filter_cons_of_neg (by rw [z]; decide), List.filter_nil, List.append_nil]
            exact hp7
  · obtain ⟨y3, y4, y5, y6, ys, rfl, s3, hf3, hp3⟩ := hPv
    rw [Int.toNat_natCast] at hp3
    have e0 : evB us n us.length 0 = true := (evB_iff p1).mpr ⟨p1, fun w _ _ => parT_zero us w _⟩
    obtain ⟨ms, hms⟩ : ∃ ms, (List.range (2 ^ us.length)).filter (evB us n us.length) = 0 :: ms := by
      obtain ⟨k, hk⟩ : ∃ k, 2 ^ us.length = k + 1 := ⟨2 ^ us.length - 1, by omega⟩
      rw [hk, List.range_succ_eq_map, List.filter_cons_of_pos e0]
      exact ⟨_, rfl⟩
    have hk := kOf_map hp3
    cases ys with
    | nil => rw [hms] at hp3; cases hp3
    | cons y ys =>
      have h0 : kOf H3 y = [] := by
        rw [hms, List.map_cons, List.map_cons, insT_zero] at hk
        exact (List.cons.inj hk).1
      have hall : ∀ z ∈ y :: ys, TupAt H3 z (kOf H3 z) := fun z mz => by
        obtain ⟨i, hi⟩ := List.mem_iff_getElem?.mp mz
        obtain ⟨b, _, hb⟩ := paired_at hp3 hi
        rw [kOf_at hb]
        exact hb
      refine ⟨_, rfl, fl, y, ys, kOf H3, rfl, SqL.of hf3, fun z mz => ?_, h0, fun zs l hperm hpw hl => ?_⟩
      · obtain ⟨a, e, g⟩ := hall z mz
        exact ⟨a, e, SqT.of g⟩
      · have x5 := ext_upd (o := .lst zs) hl
        refine q l _ zs (zs.map (kOf H3)) (s3.trans x5) (s3.free hl) upd_same (tups_up x5 (kOf_paired fun z mz => hall z (hperm.mem_iff.mp mz))) ?_ (List.pairwise_map.mpr hpw)
        rw [← hk]
        exact hperm.map _
def oneE (p : Int × Int) : Eg := (p.1, p.2, 1)
theorem paired_perm {α β : Type} {R : α → β → Prop} {ys xs : List α} (h : ys.Perm xs) : ∀ {ks : List β}, Paired R xs ks → ∃ ls, Paired R ys ls ∧ ls.Perm ks := by
  induction h with
  | nil =>
    intro ks p
    cases p
    exact ⟨[], .nil, .nil⟩
  | cons x _ ih =>
    intro ks p
    cases p with
    | cons a t =>
      obtain ⟨ls, h1, h2⟩ := ih t
      exact ⟨_ :: ls, .cons a h1, h2.cons _⟩
  | swap x y l =>
    intro ks p
    cases p with
    | cons a t =>
      cases t with
      | cons b u => exact ⟨_ :: _ :: _, .cons b (.cons a u), .swap _ _ _⟩
  | trans _ _ ih1 ih2 =>
    intro ks p
    obtain ⟨ls, h1, h2⟩ := ih2 p
    obtain ⟨ms, h3, h4⟩ := ih1 h1
    exact ⟨ms, h3, h4.trans h2⟩
theorem paired_pw {α β : Type} {R : α → β → Prop} {S : α → α → Prop} {C : β → β → Prop} (hSC : ∀ x y e f, R x e → R y f → S x y → C e f) : ∀ {ys : List α} {es : List β}, Paired R ys es → ys.Pairwise S → es.Pairwise C
  | _, _, .nil, _ => .nil
  | _ :: ys, _ :: es, .cons a t, h => by
    obtain ⟨h1, h2⟩ := List.pairwise_cons.mp h
    refine List.pairwise_cons.mpr ⟨fun f m => ?_, paired_pw hSC t h2⟩
    obtain ⟨i, hi⟩ := List.mem_iff_getElem?.mp m
    have hl := t.length
    have hil := (List.getElem?_eq_some_iff.mp hi).1
    obtain ⟨y, hy⟩ : ∃ y, ys[i]? = some y := ⟨_, List.getElem?_eq_getElem (show i < ys.length by rw [hl]; exact hil)⟩
    obtain ⟨k, hk, hr⟩ := paired_at t hy
    rw [hi] at hk
    cases hk
    exact hSC _ _ _ _ a hr (h1 _ (List.mem_of_getElem? hy))
def pathU (k : Nat) : List (Int × Int) := (List.range k).map fun (j : Nat) => ((j : Int), (j : Int) + 1)
theorem pathU_succ (k : Nat) : pathU (k + 1) = pathU k ++ [((k : Int), (k : Int) + 1)] := by
  unfold pathU
  rw [List.range_succ, List.map_append]
  rfl
theorem pathU_mem {k : Nat} {p : Int × Int} : p ∈ pathU k ↔ 0 ≤ p.1 ∧ p.1 < k ∧ p.2 = p.1 + 1 := by
  unfold pathU
  rw [List.mem_map]
  constructor
  · rintro ⟨j, m, rfl⟩
    have := List.mem_range.mp m
    exact ⟨Int.natCast_nonneg _, by show (j : Int) < k; omega, rfl⟩
  · rintro ⟨h0, h1, h2⟩
    refine ⟨p.1.toNat, List.mem_range.mpr (by omega), ?_⟩
    refine Prod.ext (Int.toNat_of_nonneg h0) ?_
    show ((p.1.toNat : Nat) : Int) + 1 = p.2
    omega
theorem pathU_len (k : Nat) : (pathU k).length = k := by
  unfold pathU
  rw [List.length_map, List.length_range]
theorem pathU_nodup (k : Nat) : (pathU k).Nodup := by
  unfold pathU
  refine List.Pairwise.map _ (fun a b (h : a ≠ b) e => h ?_) List.nodup_range
  have := congrArg Prod.fst e
  have : (a : Int) = b := this
  omega
/-! ### the law's many edges -/
def mIn (t : Nat) (l : List (Int × Int)) : Nat → List (Int × Int)
  | 0 => l
  | k + 1 => if (mIn t l k).length < 24 then mIn t l k ++ [((k : Int), (k : Int) + t)] else mIn t l k
def mOut (n : Nat) : Nat → List (Int × Int)
  | 0 => pathU (n - 1)
  | j + 1 => mIn (2 + j) (mOut n j) (n - (2 + j))
def manyU (n : Nat) : List (Int × Int) := mOut n (n - 2)
theorem mIn_len {t : Nat} {l : List (Int × Int)} (h : l.length ≤ 24) : ∀ k, (mIn t l k).length ≤ 24
  | 0 => h
  | k + 1 => by
    have ih := mIn_len h (t := t) k
    rw [mIn]
    split
    · rw [List.length_append, List.length_singleton]
      omega
    · exact ih
theorem mOut_len {n : Nat} (h : n ≤ 12) : ∀ j, (mOut n j).length ≤ 24
  | 0 => by
    show (pathU (n - 1)).length ≤ 24
    rw [pathU_len]
    omega
  | j + 1 => mIn_len (mOut_len h j) _
/-- the edges in order -/
def srtU (n : Nat) : List (Int × Int) := ((rng n).flatMap fun u => (rng n).map fun v => (u, v)).filter fun p => (manyU n).contains p
structure OkM (n : Nat) (us : List (Int × Int)) : Prop where
  nd : us.Nodup
  ok : ∀ p ∈ us, 0 ≤ p.1 ∧ p.1 < p.2 ∧ p.2 < n
  len : us.length = 24
theorem many_ok {n : Nat} (h8 : 8 ≤ n) (h12 : n ≤ 12) : OkM n (manyU n) := by
  have : n = 8 ∨ n = 9 ∨ n = 10 ∨ n = 11 ∨ n = 12 := by omega
  rcases this with rfl | rfl | rfl | rfl | rfl <;> exact ⟨by decide +kernel, by decide +kernel, by decide +kernel⟩
theorem srt_perm {n : Nat} (h8 : 8 ≤ n) (h12 : n ≤ 12) : (srtU n).Perm (manyU n) := by
  have : n = 8 ∨ n = 9 ∨ n = 10 ∨ n = 11 ∨ n = 12 := by omega
  rcases this with rfl | rfl | rfl | rfl | rfl <;> exact List.isPerm_iff.mp (by decide +kernel)
def codeE (e : Eg) : Int := TS.code 14 [e.1, e.2.1, e.2.2]
def leU (p q : Int × Int) : Prop := codeE (oneE p) ≤ codeE (oneE q)
instance : DecidableRel leU := fun p q => inferInstanceAs (Decidable (codeE (oneE p) ≤ codeE (oneE q)))
theorem srt_pw {n : Nat} (h8 : 8 ≤ n) (h12 : n ≤ 12) : (srtU n).Pairwise leU := by
  have : n = 8 ∨ n = 9 ∨ n = 10 ∨ n = 11 ∨ n = 12 := by omega
  rcases this with rfl | rfl | rfl | rfl | rfl <;> decide +kernel
/-- roots as a list, and the number of the rounds -/
def stepL (s : List Int × Nat) (e : Int × Int) : List Int × Nat := if s.1.getD e.1.toNat 0 = s.1.getD e.2.toNat 0 then (s.1, s.2 + 1) else (s.1.map fun r => if r = s.1.getD e.2.toNat 0 then s.1.getD e.1.toNat 0 else r, s.2)
def stL (us : List (Int × Int)) (n : Nat) : Nat → List Int × Nat
  | 0 => (rng n, 0)
  | t + 1 => stepL (stL us n t) (edAt us t)
theorem stL_ok {us : List (Int × Int)} {n : Nat} (hin : inR n us) : ∀ t, t ≤ us.length → (stL us n t).1 = (rng n).map (stR us t).1 ∧ (stL us n t).2 = (stR us t).2.2.length
  | 0, _ => ⟨(List.map_id _).symm, rfl⟩
  | t + 1, h => by
    obtain ⟨h1, h2⟩ := stL_ok hin t (by omega)
    obtain ⟨a, b, c, d⟩ := edAt_in hin (show t < us.length by omega)
    have g : ∀ w : Int, 0 ≤ w → w < n → (stL us n t).1.getD w.toNat 0 = (stR us t).1 w := fun w w0 w1 => by
      rw [h1, List.getD_eq_getElem?_getD, List.getElem?_map, rng_get w0 w1]
      rfl
    have gu := g _ a b
    have gv := g _ c d
    rw [stL, stepL, gu, gv, stR]
    by_cases e : (stR us t).1 (edAt us t).1 = (stR us t).1 (edAt us t).2
    · rw [if_pos e, if_pos e]
      refine ⟨h1, ?_⟩
      rw [List.length_append, List.length_singleton, h2]
    · rw [if_neg e, if_neg e]
      refine ⟨?_, h2⟩
      show List.map _ (stL us n t).1 = _
      rw [h1, List.map_map]
      rfl
theorem many_len {n : Nat} (h8 : 8 ≤ n) (h12 : n ≤ 12) : (stL (srtU n) n 24).2 = 25 - n := by
  have : n = 8 ∨ n = 9 ∨ n = 10 ∨ n = 11 ∨ n = 12 := by omega
  rcases this with rfl | rfl | rfl | rfl | rfl <;> decide +kernel
theorem many_good {n : Nat} {es : List Eg} (h8 : 8 ≤ n) (h12 : n ≤ 12) (hp : es.Perm ((manyU n).map oneE)) (hs : es.Pairwise fun e f => codeE e ≤ codeE f) : es = (srtU n).map oneE ∧ goodE n es := by
  have O := many_ok h8 h12
  have hm : ∀ e ∈ es, 0 ≤ e.1 ∧ e.1 < e.2.1 ∧ e.2.1 < n ∧ e.2.2 = 1 := fun e m => by
    obtain ⟨p, mp, rfl⟩ := List.mem_map.mp (hp.mem_iff.mp m)
    obtain ⟨a, b, c⟩ := O.ok p mp
    exact ⟨a, b, c, rfl⟩
  have hq : es.Perm ((srtU n).map oneE) := hp.trans ((srt_perm h8 h12).map _).symm
  have e1 : es = (srtU n).map oneE := by
    refine List.Perm.eq_of_pairwise (le := fun e f => codeE e ≤ codeE f) (fun x y mx my h1 h2 => ?_) hs (List.pairwise_map.mpr (srt_pw h8 h12)) hq
    obtain ⟨a1, b1, c1, d1⟩ := hm x mx
    obtain ⟨a2, b2, c2, d2⟩ := hm y (hq.mem_iff.mpr my)
    simp only [codeE, TS.code, List.length_cons, List.length_nil] at h1 h2
    have z : x.1 = y.1 ∧ x.2.1 = y.2.1 := by omega
    exact Prod.ext z.1 (Prod.ext z.2 (d1.trans d2.symm))
  refine ⟨e1, ?_⟩
  have hl := hp.length_eq
  rw [List.length_map, O.len] at hl
  have hnd : es.Nodup := hp.nodup_iff.mpr (List.Pairwise.map oneE (fun a b (hab : a ≠ b) e => hab (by cases a; cases b; simp only [oneE, Prod.mk.injEq] at e; exact Prod.ext e.1 e.2.1)) O.nd)
  refine ⟨by omega, fun e m => ?_, fun i x y hx hy => ?_⟩
  · obtain ⟨a, b, c, d⟩ := hm e m
    exact ⟨a, b, c, by omega, by omega, by omega⟩
  · obtain ⟨a1, b1, c1, d1⟩ := hm x (List.mem_of_getElem? hx)
    obtain ⟨a2, b2, c2, d2⟩ := hm y (List.mem_of_getElem? hy)
    obtain ⟨h1, rfl⟩ := List.getElem?_eq_some_iff.mp hx
    obtain ⟨h2, rfl⟩ := List.getElem?_eq_some_iff.mp hy
    have hc := List.pairwise_iff_getElem.mp hs i (i + 1) h1 h2 (Nat.lt_succ_self i)
    have hne : es[i] ≠ es[i + 1] := List.pairwise_iff_getElem.mp hnd i (i + 1) h1 h2 (Nat.lt_succ_self i)
    simp only [codeE, TS.code, List.length_cons, List.length_nil] at hc
    unfold ltEg
    by_cases z1 : es[i].1 = es[i + 1].1
    · refine .inr ⟨z1, ?_⟩
      by_cases z2 : es[i].2.1 = es[i + 1].2.1
      · exact absurd (Prod.ext z1 (Prod.ext z2 (d1.trans d2.symm))) hne
      · omega
    · omega
theorem many_rounds {n : Nat} {es : List Eg} (h8 : 8 ≤ n) (h12 : n ≤ 12) (he : es = (srtU n).map oneE) (g : goodE n es) : (stR (prsOf es) es.length).2.2.length = 25 - n := by
  have hpe : prsOf es = srtU n := by
    rw [he]
    unfold prsOf
    rw [List.map_map]
    exact (List.map_congr_left fun _ _ => rfl).trans (List.map_id _)
  have hl : es.length = 24 := by rw [he, List.length_map, (srt_perm h8 h12).length_eq, (many_ok h8 h12).len]
  have hin := inR_of g
  rw [hpe] at hin ⊢
  rw [hl, ← (stL_ok hin 24 (by rw [(srt_perm h8 h12).length_eq, (many_ok h8 h12).len]; exact Nat.le_refl _)).2]
  exact many_len h8 h12
def spMany (K : PySem.W.Frag) : Sp := fun vs H Q _ => ∃ n : Nat, vs = [.int (n : Int)] ∧ 8 ≤ n ∧ n ≤ 12 ∧ ∀ l H' ys es, Ext H H' → H l = none → H' l = some (.lst ys) → Paired (EdgeT H') ys es → es.Perm ((manyU n).map oneE) → es.Pairwise (fun e f => codeE e ≤ codeE f) → Q (.ref l) H'
theorem ok_law_many (T : Top K mg) : FnOk P w K mg base CX0 1 T.f_law_many T.d_law_many ["count"] (spMany K) := by
  refine T.F_law_many.ok sc_law_many (fun vs H Q E h => ?_) (fun cdv A outer s H vs Q E hr h => ?_)
  · obtain ⟨n, rfl, _⟩ := h
    rfl
  obtain ⟨n, rfl, h8, h12, q⟩ := h
  refine ⟨_, (pss_cons (ps_setLc (i := 1) (own := [("k", 2)]) (g := gName 2) (tt := tYes) rfl sc_law_many.nd rfl rfl (sw_true rfl rfl rfl (by decide +kernel)) (pi_range1 (by rfl) T.m_range (pa_cons (pe_op op_sub (pv 0) pe_int) pa_nil)) (blkOk_by (own := [("k", 2)]) (N := n_law_many) (sc := defScope s_law_many) (by decide +kernel)) (fun _ _ _ _ _ => (pg_name (i := 2) sc_law_many.nd rfl (by first | exact .inl rfl | exact .inr rfl))) (fun _ _ _ _ _ => pts_nil) (fun _ _ _ _ _ => (pe_tup (pa_cons (pv 2) (pa_cons (pe_op op_add (pv 2) pe_int) (pa_cons pe_int pa_nil))))))
      (pss_cons (ps_for PassesOwn.never rfl (pi_range2 (by rfl) T.m_range (pa_cons pe_int (pa_cons (pv 0) pa_nil))) (pg_name (i := 3) sc_law_many.nd rfl (by first | exact .inl rfl | exact .inr rfl)) (pss_one (ps_for PassesOwn.never rfl (pi_range1 (by rfl) T.m_range (pa_cons (pe_op op_sub (pv 0) (pv 3)) pa_nil)) (pg_name (i := 4) sc_law_many.nd rfl (by first | exact .inl rfl | exact .inr rfl)) (pss_one (ps_if (pt_cmpR op_lt (pe_callB call_len_seq (by rfl) T.m_len (by decide +kernel) (pa_cons (pv 1) pa_nil)) pe_int (nomark _)) (pss_one (ps_expr (pe_bm PySem.F.plainAttrs_list PySem.F.slot_list_append PySem.F.type_list_append mt_append (pv 1) (pa_cons (pe_tup (pa_cons (pv 4) (pa_cons (pe_op op_add (pv 4) (pv 3)) (pa_cons pe_int pa_nil)))) pa_nil)))) pss_nil)))))
      (pss_one (ps_ret (pe_callB (cr_sortT (d := 3) (B := 14) (by decide)) (by rfl) T.m_sorted (by decide +kernel) (pa_cons (pv 1) pa_nil)))))), ?_⟩
  have sl3 : ∀ {m : Nat}, m ≤ 1000000 → m ≤ sizeLine := sl_of
  refine ⟨_, rfl, _, _, rfl, rfl, _, rfl, by omega, by omega, fun D hD => lc_range (lo := 0) (n := ((n : Int) - 1).toNat) (fun j H4 => Ext H H4 ∧ ∃ ys, H4 D = some (.lst ys) ∧ Paired (EdgeT H4) ys ((pathU j).map oneE)) ⟨ext_upd hD, [], upd_same, .nil⟩ (fun j H4 hj hP => ?_) (fun H4 hP => ?_)⟩
  · obtain ⟨s4, ys, hys, hp4⟩ := hP
    rw [Int.zero_add]
    refine ⟨rfl, _, rfl, _, rfl, _, _, rfl, rfl, sl3 (by simp), fun p hp => ?_⟩
    have hys2 := (ext_upd (o := .tup [V.int (j : Int), .int ((j : Int) + 1), .int 1]) hp).lst hys
    have ly := hp4.length
    rw [List.length_map, pathU_len] at ly
    refine ⟨ys, hys2, sl_lt (by omega), (s4.new hp).own hD, ys ++ [.ref p], upd_same, ?_⟩
    rw [pathU_succ, List.map_append]
    exact edgesT_upd hys2 (paired_snoc ((ext_upd hp).edgesT hp4) ⟨p, rfl, upd_same⟩)
  obtain ⟨s4, ys, hys, hp4⟩ := hP
  have et : ((n : Int) - 1).toNat = n - 1 := by omega
  rw [et] at hp4
  refine ⟨_, rfl, _, _, rfl, by omega, for_range (lo := 2) (n := ((n : Int) - 2).toNat) (fun i σ H3 => ∃ (y3 y4 : Option V) (ys : List V), σ = [some (.int (n : Int)), some (.ref D), none, y3, y4] ∧ Ext H H3 ∧ H3 D = some (.lst ys) ∧ Paired (EdgeT H3) ys ((mOut n i).map oneE))
    ⟨none, none, ys, rfl, s4, hys, hp4⟩ (fun i σ H3 hi hPv => ?_) (fun σ H3 hPv => ?_)⟩
  · obtain ⟨y3, y4, ys, rfl, s3, hys, hp3⟩ := hPv
    have en : ((n : Int) - (2 + (i : Int))).toNat = n - (2 + i) := by omega
    refine ⟨_, rfl, _, rfl, _, _, rfl, rfl, _, rfl, by omega, by omega, for_range (lo := 0) (n := ((n : Int) - (2 + (i : Int))).toNat) (fun k σ H5 => ∃ (z4 : Option V) (ys : List V), σ = [some (.int (n : Int)), some (.ref D), none, some (.int (2 + (i : Int))), z4] ∧ Ext H H5 ∧ H5 D = some (.lst ys) ∧ Paired (EdgeT H5) ys ((mIn (2 + i) (mOut n i) k).map oneE))
      ⟨y4, ys, rfl, s3, hys, hp3⟩ (fun k σ H5 hk hPw => ?_) (fun σ H5 hPw => ?_)⟩
    · obtain ⟨z4, ys, rfl, s5, hys, hp5⟩ := hPw
      rw [Int.zero_add]
      have ly := hp5.length
      rw [List.length_map] at ly
      have lm := mIn_len (t := 2 + i) (mOut_len h12 i) k
      refine ⟨_, rfl, D, _, rfl, .inl (SqL.of hys), _, _, rfl, rfl, _, rfl, iteB (fun z => ?_) (fun z => ?_)⟩
      · have z1 : (ys.length : Int) < 24 := of_decide_eq_true z
        refine ⟨_, rfl, .inl ⟨rfl, _, SqL.of hys⟩, _, rfl, _, rfl, _, rfl, _, _, rfl, rfl, sl3 (by simp), fun p hp => ?_⟩
        have x6 := ext_upd (o := .tup [V.int (k : Int), .int ((k : Int) + (2 + (i : Int))), .int 1]) hp
        refine ⟨D, _, _, rfl, rfl, x6.lst hys, sl_lt (by omega), _, _, rfl, (s5.trans x6).own hD, upd_same, ?_⟩
        rw [mIn, if_pos (by omega), List.map_append]
        exact edgesT_upd (x6.lst hys) (paired_snoc (x6.edgesT hp5) ⟨p, rfl, upd_same⟩)
      · have z1 : ¬ (ys.length : Int) < 24 := of_decide_eq_false z
        refine ⟨_, _, rfl, s5, hys, ?_⟩
        rw [mIn, if_neg (by omega)]
        exact hp5
    · obtain ⟨z4, ys, rfl, s5, hys, hp5⟩ := hPw
      rw [en] at hp5
      exact ⟨_, _, ys, rfl, s5, hys, hp5⟩
  · obtain ⟨y3, y4, ys, rfl, s3, hys, hp3⟩ := hPv
    have e2 : ((n : Int) - 2).toNat = n - 2 := by omega
    rw [e2] at hp3
    have hp3 : Paired (EdgeT H3) ys ((manyU n).map oneE) := hp3
    have O := many_ok h8 h12
    have ly := hp3.length
    rw [List.length_map, O.len] at ly
    have tup : ∀ {x : V} {e : Eg}, EdgeT H3 x e → TupI K H3 x [e.1, e.2.1, e.2.2] := fun ⟨a, h, g⟩ => ⟨a, h, SqT.of g⟩
    refine ⟨_, rfl, D, ys, rfl, SqL.of hys, by omega, fun x m => ?_, fun zs l hperm hpw hl => ?_⟩
    · obtain ⟨i, hi⟩ := List.mem_iff_getElem?.mp m
      obtain ⟨e, hei, hx⟩ := paired_at hp3 hi
      obtain ⟨p, mp, rfl⟩ := List.mem_map.mp (List.mem_of_getElem? hei)
      obtain ⟨b0, b1, b2⟩ := O.ok p mp
      refine ⟨_, tup hx, rfl, fun k mk => ?_⟩
      have mk : k = p.1 ∨ k = p.2 ∨ k = 1 := by simpa [oneE] using mk
      omega
    · obtain ⟨es', hq1, hq2⟩ := paired_perm hperm hp3
      have hs := paired_pw (C := fun e f : Eg => codeE e ≤ codeE f) (fun x y e f he hf h => h _ _ (tup he) (tup hf)) hq1 hpw
      have x10 := ext_upd (o := .lst zs) hl
      exact q l _ zs es' (s3.trans x10) (s3.free hl) upd_same (x10.edgesT hq1) hq2 hs
theorem sqt_lst {H : Hp} {p a : Addr} {acc xs : List V} {o : HO} (hp : H p = some (.lst acc)) (h : SqT K H a xs) : SqT K (upd H p o) a xs := by
  rcases h with (h | ⟨o', h⟩) | h
  · exact .inl (.inl (by rw [upd_ne (fun z => by rw [z, hp] at h; cases h)]; exact h))
  · exact .inl (.inr ⟨o', by rw [upd_ne (fun z => by rw [z, hp] at h; cases h)]; exact h⟩)
  · exact .inr h
def wWhen (p : Prop) (t : TS) : TS := fun D σ H => p ∧ t D σ H
theorem pss_when {X : Cx} {p : Prop} {b : List Stmt} {t : TS} (h : p → PSs X b t) : PSs X b (wWhen p t) := ⟨fun pins s σ H D I q => (h q.1).run pins s σ H D I q.2⟩
theorem room65 {k : Nat} {A : Around} (r : Room k A) : A.units + 65 < cLine := by have := r.un; omega
def spLaw (T : Top K mg) : Sp := fun vs H Q _ => ∃ (a : Addr) (ns : List Int), vs = [.ref a] ∧ SqL K H a (ns.map V.int) ∧ Tg T H ∧ ∀ H', Q (.bl true) H'
theorem law_in (T : Top K mg) (H : Hp) (a : Addr) (ns : List Int) (hl : ns.length ≤ 63) (hb : ∀ z ∈ ns, Builtin.Int.intBits z ≤ 1048576) (G : Tg T H) (hS : SqL K H a (ns.map V.int)) : spLaw T [.ref a] H (fun v _ => v = .bl true) fun _ _ _ => False := ⟨a, ns, rfl, hS, G, fun _ => rfl⟩
theorem Drawn.goodE {most : Int} {fs : List Int} {es : List Eg} (h : Drawn most fs es) (l : es.length ≤ 24) : goodE fs.length es := ⟨l, h.ok, fun i x y hx hy => by
  obtain ⟨h1, rfl⟩ := List.getElem?_eq_some_iff.mp hx
  obtain ⟨h2, rfl⟩ := List.getElem?_eq_some_iff.mp hy
  exact List.pairwise_iff_getElem.mp h.asc i (i + 1) h1 h2 (Nat.lt_succ_self i)⟩
theorem Drawn.goodF {most : Int} {fs : List Int} {es : List Eg} (h : Drawn most fs es) (l : most ≤ 12) : goodF fs := ⟨h.one, by have := h.most; omega, fun f m => by have := h.small f m; omega⟩
theorem init_at (T : Top K mg) {H : Hp} {R : VK} {E : XK} {fa ea : Addr} {fs : List Int} {xs : List V} {es : List Eg} (hf : Sq K H fa (fs.map V.int)) (he : Sq K H ea xs) (hes : Paired (EdgeAt K H) xs es) (le : es.length < 1000000) (lf : fs.length < 1000000) (G : Tg T H) (gf : goodF fs) (ge : goodE fs.length es)
    {x dx : Addr} (hx : H x = none) (hdx : H dx = none) (q : ∀ H', Ext H H' → SpAt T H' x fs es → R .non H') : spInit T [.ref x, .ref fa, .ref ea] (upd (upd H dx (.own x)) x (.ins T.C_Spins dx [])) R E := by
  have x5 : Ext H (upd (upd H dx (.own x)) x (.ins T.C_Spins dx [])) := (ext_upd hdx).own hx
  exact ⟨x, dx, fa, ea, fs, xs, es, H, rfl, upd_same, hx, x5, hf, he, hes, le, lf, G, fun gf ge H' fc ec ys s h1 h2 h3 h4 => q H' s ⟨gf, ge, dx, fc, ec, ys, h1, h2, h3, h4⟩, fun bad => absurd ⟨gf, ge⟩ bad⟩
theorem take_good {n : Int} {es : List Eg} (g : goodE n es) (k : Nat) : goodE n (es.take k) := by
  refine ⟨?_, fun e m => g.2.1 e (List.mem_of_mem_take m), fun i x y hx hy => ?_⟩
  · have := List.length_take_le k es
    have := g.1
    rw [List.length_take]
    omega
  · rw [List.getElem?_take] at hx hy
    split at hx
    · split at hy
      · exact g.2.2 i x y hx hy
      · cases hy
    · cases hx
theorem cut9 (xs : List V) : cutV xs none (some 9) = xs.take 9 := by
  unfold cutV
  rw [HT.sIx_none, show (some (9 : Int)) = some (((9 : Nat) : Int)) from rfl, HT.sIx_nat, List.drop_zero, Nat.sub_zero]
  rw [List.take_eq_take_iff]
  omega
theorem paired_take {α β : Type} {R : α → β → Prop} : ∀ {as : List α} {bs : List β}, Paired R as bs → ∀ k, Paired R (as.take k) (bs.take k)
  | _, _, .nil, k => by rw [List.take_nil, List.take_nil]; exact .nil
  | _, _, .cons x t, 0 => .nil
  | _, _, .cons x t, k + 1 => .cons x (paired_take t k)
def ksD (ks : List Int) : PyData := .tuple (ks.map PyData.int)
theorem ks_dp {H : Hp} {ys : List V} {kss : List (List Int)} (h : Paired (TupAt H) ys kss) : DpAll K H ys (kss.map ksD) := dpAll_of (fun v ks ⟨a, e, g⟩ => e ▸ .tup (SqT.of g) (ints_dpa ks)) h
theorem gd_ks {kss : List (List Int)} : Gd 5 (.list (kss.map ksD)) := gd_lst fun x m => by
  obtain ⟨ks, _, rfl⟩ := List.mem_map.mp m
  exact gd_tup fun y n => by
    obtain ⟨i, _, rfl⟩ := List.mem_map.mp n
    exact gd_int i
theorem edgesU_upd {H : Hp} {D : Addr} {o : HO} {acc ys : List V} {us : List (Int × Int)} (hD : H D = some (.lst acc)) (h : Paired (EdgeU K H) ys us) : Paired (EdgeU K (upd H D o)) ys us := paired_imp (fun _ _ ⟨a, r, e, g⟩ => ⟨a, r, e, sqt_lst hD g⟩) h
theorem ok_law {f : Addr} {d : FuncData} (F : Fun K "law" "law" s_law f d) (T : Top K mg) (B : Tb T base) : FnOk P w K mg base CX0 8 f d ["script"] (spLaw T) := by
  refine F.ok sc_law (fun vs H Q E h => ?_) (fun cdv A outer s H vs Q E hr h => ?_)
  · obtain ⟨a, ns, rfl, _⟩ := h
    rfl
  obtain ⟨a, ns, rfl, hS, G, q⟩ := h
  refine ⟨_, (pss_cons (ps_if (pt_cmpR op_eq (pe_op op_mod (pe_call (ok_law_cell T) (hr.mono (by decide)) (by rfl) T.g_law_cell T.F_law_cell.kp T.b_law_cell .nil pass0 (pa_cons (pv 0) (pa_cons pe_int pa_nil))) pe_int) pe_int (nomark _)) (pss_cons (ps_set (i := 1) sc_law.nd rfl (by first | exact .inl rfl | exact .inr rfl) (pe_op op_add pe_int (pe_op op_mod (pe_op op_fdivZ (pe_call (ok_law_cell T) (hr.mono (by decide)) (by rfl) T.g_law_cell T.F_law_cell.kp T.b_law_cell .nil pass0 (pa_cons (pv 0) (pa_cons pe_int pa_nil))) pe_int) pe_int)))
      (pss_cons (ps_set (i := 2) sc_law.nd rfl (by first | exact .inl rfl | exact .inr rfl) (pe_call (ok_law_many T) (hr.mono (by decide)) (by rfl) T.g_law_many T.F_law_many.kp T.b_law_many .nil pass0 (pa_cons (pv 1) pa_nil)))
      (pss_cons (ps_set (i := 3) sc_law.nd rfl (by first | exact .inl rfl | exact .inr rfl) (pe_op op_shl pe_int (pe_op op_add (pe_op op_sub (pe_callB call_len_seq (by rfl) T.m_len (by decide +kernel) (pa_cons (pv 2) pa_nil)) (pv 1)) pe_int)))
      (pss_one (ps_try_as (i := 4) (tb := fun W => tRet (tAndV (tOp _ (tCB (rLenS K) (tCons (tCallS (spEven T) (WE W) (tCons (tMakeS T.C_Spins (spInit T) (WE W) _) _)) _)) _) _)) (ts := fun a cls d => wWhen (cls = .ref T.f_TooLarge ∧ d = none) _) (Wout := fun _ _ _ _ => False) rfl rfl sc_law.nd rfl rfl ⟨rfl, by decide, Or.inl T.g_FieldError⟩ takes0 (fun W pn xe tk _ => pss_one (ps_ret (pe_and (pe_cmpR op_eq (pe_callB (r := rLenS K) call_len_seq (by rfl) T.m_len (by decide +kernel) (pa_cons (pe_callS (ok_even_sets T B) (hr.mono (by decide)) (by rfl) T.g_even_sets T.F_even_sets.kp T.b_even_sets (fun σ => passAt tk σ) (pa_cons (pe_makeS T.mk_Spins (ok_Spins_init T B) (hr.mono (by decide)) (by rfl) T.g_Spins T.b_Spins_init (fun σ => passAt tk σ) (pa_cons (pe_op (r := rRep) op_rep (pe_lst (pa_cons pe_int pa_nil)) (pv 1)) (pa_cons (pv 2) pa_nil))) pa_nil)) pa_nil)) (pv 3) (nomark _)) (pe_one (pe_cmpR op_le (pv 3) pe_int (nomark _)))))) (fun a oe cls d pn hz hf => pss_when fun hq => pss_one (ps_ret (pe_and (pe_callB (r := rIsE K T.f_TooLarge a) (call_isE T.ec (hq.1 ▸ hq.2 ▸ hz) hf) (by rfl) T.m_isinstance (by decide +kernel) (pa_cons (pv 4) (pa_cons (pe_glob (v := .ref T.f_TooLarge) (by rfl) T.g_TooLarge rfl) pa_nil))) (pe_one (pe_cmpR op_gt (pv 3) pe_int (nomark _))))))))))) pss_nil)
      (pss_cons (ps_asg (pe_call (ok_law_spins T) (hr.mono (by decide)) (by rfl) T.g_law_spins T.F_law_spins.kp T.b_law_spins .nil pass0 (pa_cons (pv 0) (pa_cons pe_int (pa_cons pe_int (pa_cons pe_int pa_nil))))) (pg_tup rfl (pgs_cons (pg_name (i := 5) sc_law.nd rfl (by first | exact .inl rfl | exact .inr rfl)) (pgs_cons (pg_name (i := 2) sc_law.nd rfl (by first | exact .inl rfl | exact .inr rfl)) pgs_nil))))
      (pss_cons (ps_set (i := 2) sc_law.nd rfl (by first | exact .inl rfl | exact .inr rfl) (pe_slice sl_list (pv 2) po_none (po_some pe_int)))
      (pss_cons (ps_set (i := 6) sc_law.nd rfl (by first | exact .inl rfl | exact .inr rfl) (pe_call (ok_even_sets T B) (hr.mono (by decide)) (by rfl) T.g_even_sets T.F_even_sets.kp T.b_even_sets .nil passes_no (pa_cons (pe_make T.mk_Spins (ok_Spins_init T B) (hr.mono (by decide)) (by rfl) T.g_Spins T.b_Spins_init .nil passes_no (pa_cons (pv 5) (pa_cons (pv 2) pa_nil))) pa_nil)))
      (pss_cons (ps_if (PW.pt (pw_or (pt_not (pt_val (pe_callB call_isi (by rfl) T.m_isinstance (by decide +kernel) (pa_cons (pv 6) (pa_cons (pe_bltn (v := .ty "list") (by rfl) T.m_list boot_list rfl) pa_nil))))) (pw_or1 (pt_not (pt_val (pe_callB (cr_all rfl) (by rfl) T.m_all (by decide +kernel) (pa_cons (pe_lc (own := [("chosen", 7)]) (g := gName 7) (tt := tYes) rfl sc_law.nd (pi_list (pv 6)) (blkOk_by (own := [("chosen", 7)]) (N := n_law) (sc := defScope s_law) (by decide +kernel)) (fun _ _ _ _ _ => (pg_name (i := 7) sc_law.nd rfl (by first | exact .inl rfl | exact .inr rfl))) (fun _ _ _ _ _ => pts_nil) (fun _ _ _ _ _ => (pe_call (ok_law_tuples T 4) (hr.mono (by decide)) (by rfl) T.g_law_tuples T.F_law_tuples.kp T.b_law_tuples .nil pass0 (pa_cons (pv 7) pa_nil)))) pa_nil))))))) (pss_one (ps_ret pe_bl)) pss_nil)
      (pss_one (ps_ret (pe_cmpR (op_eqD hr.units) (pv 6) (pe_call (ok_law_even_sets T) (hr.mono (by decide)) (by rfl) T.g_law_even_sets T.F_law_even_sets.kp T.b_law_even_sets .nil pass0 (pa_cons (pe_callB call_len_seq (by rfl) T.m_len (by decide +kernel) (pa_cons (pv 5) pa_nil)) (pa_cons (pe_lc (own := [("edge", 8)]) (g := gName 8) (tt := tYes) rfl sc_law.nd (pi_list (pv 2)) (blkOk_by (own := [("edge", 8)]) (N := n_law) (sc := defScope s_law) (by decide +kernel)) (fun _ _ _ _ _ => (pg_name (i := 8) sc_law.nd rfl (by first | exact .inl rfl | exact .inr rfl))) (fun _ _ _ _ _ => pts_nil) (fun _ _ _ _ _ => (pe_slice (r := rSlA K) sl_tupA (pv 8) po_none (po_some pe_int)))) pa_nil))) (nomark _))))))))), ?_⟩
  refine ⟨_, rfl, a, ns, 3, rfl, hS, _, _, rfl, rfl, (by decide : (0 : Int) < 40), rfl, _, rfl, iteB (fun z => ?_) (fun z => ?_)⟩
  · refine ⟨_, rfl, a, ns, 3, rfl, hS, _, _, rfl, rfl, ⟨by decide, by decide⟩, _, _, rfl, rfl, (by decide : (0 : Int) < 5), _, _, rfl, rfl, ?_⟩
    obtain ⟨n, hn, h8, h12⟩ : ∃ n : Nat, (8 + (cellZ ns 3).fdiv 40 % 5 : Int) = n ∧ 8 ≤ n ∧ n ≤ 12 := ⟨(8 + (cellZ ns 3).fdiv 40 % 5 : Int).toNat, by omega, by omega, by omega⟩
    dsimp only [gName]
    rw [hn]
    refine ⟨_, rfl, n, rfl, h8, h12, fun l H1 ys es s1 nl hl hes hperm hpw => ?_⟩
    have ly := hes.length
    have le := hperm.length_eq
    rw [List.length_map, (many_ok h8 h12).len] at le
    obtain ⟨hes1, ge⟩ := many_good h8 h12 hperm hpw
    have hrl := many_rounds h8 h12 hes1 ge
    refine ⟨_, rfl, l, ys, rfl, .inl (SqL.of hl), _, rfl, _, _, rfl, rfl, _, _, rfl, rfl, ?_⟩
    have en : (2 : Nat) ^ (25 - n) = 2 ^ (25 - n) := rfl
    refine ⟨1, (ys.length : Int) - (n : Int) + 1, rfl, rfl, ⟨by omega, by omega, by decide⟩, ?_⟩
    have e1 : ((ys.length : Int) - (n : Int) + 1).toNat = 25 - n := by omega
    have e2 : (1 : Int) * 2 ^ ((ys.length : Int) - (n : Int) + 1).toNat = ((2 ^ (25 - n) : Nat) : Int) := by rw [e1, Int.one_mul, Int.natCast_pow]; rfl
    dsimp only [gName]
    rw [e2]
    refine ⟨by rw [sizeLine_eq]; simp, fun l0 hl0 => ⟨_, rfl, l0, _, _, rfl, rfl, upd_same, by omega, by omega, by rw [Int.toNat_natCast, sizeLine_eq]; show 1 * n ≤ 16777216; omega, fun pl hpl => ?_⟩⟩
    have x2 : Ext H1 (upd (upd H1 l0 (.lst [V.int 0])) pl (.lst (List.replicate (n : Int).toNat [V.int 0]).flatten)) := (ext_upd hl0).new hpl
    have w2 : upd (upd H1 l0 (.lst [V.int 0])) pl (.lst (List.replicate (n : Int).toNat [V.int 0]).flatten) pl = some (.lst ((List.replicate n (0 : Int)).map V.int)) := by
      rw [upd_same, flat1, List.map_replicate]
      rfl
    have l2 := x2.lst hl
    have hes2 := x2.edgesT hes
    generalize upd (upd H1 l0 (.lst [V.int 0])) pl (.lst (List.replicate (n : Int).toNat [V.int 0]).flatten) = H2 at *
    have lr : (List.replicate n (0 : Int)).length = n := List.length_replicate
    refine ⟨_, rfl, fun sp dx hx hdx hne => init_at T (fs := List.replicate n 0) (es := es) (.inl (SqL.of w2)) (.inl (SqL.of l2)) (edges_at hes2) (by omega) (by omega) (G.ext (s1.trans x2)) ⟨by omega, by omega, fun f m => by rw [List.eq_of_mem_replicate m]; decide⟩ (by rw [lr]; exact ge) hx hdx (fun H4 s4 hsp => ⟨rfl, ?_⟩)⟩
    have s04 := (s1.trans x2).trans s4
    refine ⟨sp, _, es, rfl, hsp, G.ext s04, fun small l5 H5 zs kss s5 _ hl5 hz hpk _ => ?_, fun big H5 s5 => ?_⟩
    · rw [hrl] at small
      have lz := hz.length
      have lk := hpk.length_eq
      rw [List.length_map, spanL_len _ _ hrl] at lk
      refine ⟨l5, zs, rfl, .inl (SqL.of hl5), ?_⟩
      have e3 : decide (V.int ((zs.length : Nat) : Int) = V.int ((2 ^ (25 - n) : Nat) : Int)) = true := decide_eq_true (congrArg V.int (by rw [lz, lk]))
      refine ⟨_, rfl, rfl, _, rfl, ?_⟩
      rw [e3]
      refine iteT ⟨_, rfl, _, _, rfl, rfl, ?_⟩
      show Q (V.bl (decide (((2 ^ (25 - n) : Nat) : Int) ≤ 8192))) _
      rw [decide_eq_true (show ((2 ^ (25 - n) : Nat) : Int) ≤ 8192 by omega)]
      exact q _
    · rw [hrl] at big
      refine ⟨true, T.xm, fun _ a0 ha0 => ⟨⟨rfl, rfl⟩, ?_⟩, fun z => Bool.noConfusion z⟩
      refine ⟨_, rfl, _, .ref T.f_TooLarge, true, rfl, fun u r => r, T.ki, _, rfl, iteT ?_⟩
      refine ⟨_, rfl, _, _, rfl, rfl, ?_⟩
      show Q (V.bl (decide ((8192 : Int) < ((2 ^ (25 - n) : Nat) : Int)))) _
      rw [decide_eq_true (show (8192 : Int) < ((2 ^ (25 - n) : Nat) : Int) by omega)]
      exact q _
  · refine ⟨_, rfl, a, ns, 0, 6, 0, rfl, hS, by decide, by decide, fun l1 H1 fb eb fs xs es s1 n1 hl1 nf hf ne he hes dr => ⟨l1, _, rfl, SqT.of hl1, rfl, _, _, rfl, _, _, rfl, rfl, ?_⟩⟩
    have f6 : fs.length ≤ 6 := by have := dr.most; omega
    have f1 := dr.one
    have e21 := dr.len
    have gf := dr.goodF (by decide)
    have ge := take_good (dr.goodE (by omega)) 9
    refine ⟨_, rfl, _, rfl, eb, _, rfl, SqL.of he, fun e9 he9 => ?_⟩
    have x9 := ext_upd (o := .lst (cutV xs none (some 9))) he9
    have h9 : upd H1 e9 (.lst (cutV xs none (some 9))) e9 = some (.lst (xs.take 9)) := by rw [upd_same, cut9]
    have hes9 := paired_take (x9.edgesT hes) 9
    have hf9 := x9.lst hf
    have s9 := s1.trans x9
    have l9 : (es.take 9).length ≤ 9 := List.length_take_le 9 es
    have lx9 := hes9.length
    dsimp only [gName]
    generalize upd H1 e9 (.lst (cutV xs none (some 9))) = H2 at *
    generalize xs.take 9 = xs9 at *
    generalize es.take 9 = es9 at *
    refine ⟨_, rfl, _, rfl, fun sp dx hx hdx hne => init_at T (fs := fs) (es := es9) (.inl (SqL.of hf9)) (.inl (SqL.of h9)) (edges_at hes9) (by omega) (by omega) (G.ext s9) gf ge hx hdx (fun H4 s4 hsp => ⟨rfl, ?_⟩)⟩
    have lst := stR_len (prsOf es9) es9.length
    have sm : 2 ^ (stR (prsOf es9) es9.length).2.2.length ≤ 512 := Nat.le_trans (Nat.pow_le_pow_right (by decide) (show _ ≤ 9 by omega)) (by decide)
    refine ⟨sp, fs, es9, rfl, hsp, G.ext (s9.trans s4), fun small l5 H5 zs kss s5 _ hl5 hz hpk hpw => ?_, fun big => absurd (by omega) big⟩
    have lz := hz.length
    have lk := hpk.length_eq
    rw [List.length_map, spanL_len _ _ rfl] at lk
    have s05 := (s9.trans s4).trans s5
    have hf5 := (s4.trans s5).lst hf9
    have h95 := (s4.trans s5).lst h9
    have hes5 := (s4.trans s5).edgesT hes9
    refine ⟨_, rfl, _, _, _, _, _, rfl, .ty _, sql_ty (SqL.of hl5), kit_ty (r := true) (by decide +kernel), _, rfl, iteF ?_⟩
    refine ⟨_, rfl, l5, rfl, ⟨_, SqL.of hl5⟩, fun D hD => lc_list (xs := zs) (fun i H' => Ext H5 H' ∧ H' D = some (.lst ((List.replicate i true).map V.bl)) ∧ i ≤ zs.length) ⟨ext_upd hD, upd_same, Nat.zero_le _⟩ (fun i H' _ h => SqL.of (h.1.lst hl5)) (fun i x H' hi hP => ?_) (fun H' hP => ?_)⟩
    · obtain ⟨s6, hD6, hil⟩ := hP
      have hil2 := (List.getElem?_eq_some_iff.mp hi).1
      obtain ⟨ks, hk, ax, rfl, hax⟩ := paired_at hz hi
      have mk := hpk.mem_iff.mp (List.mem_of_getElem? hk)
      obtain ⟨m, _, rfl⟩ := List.mem_map.mp mk
      have lm := insT_len es9.length m
      refine ⟨rfl, _, rfl, _, ksD (insT es9.length m), rfl, .tup (SqT.of (s6.at hax)) (ints_dpa _), ?_, fun H7 s7 => ⟨_, s7.ext.lst hD6, ?_, (s6.trans s7.ext).own hD, ?_, hil2⟩⟩
      · refine ⟨by rw [List.length_map]; omega, fun y my => ?_⟩
        obtain ⟨j, _, rfl⟩ := List.mem_map.mp my
        trivial
      · rw [List.length_map, List.length_replicate]
        exact sl_lt (by omega)
      · rw [upd_same, List.replicate_succ', List.map_append]
        rfl
    obtain ⟨s6, hD6, _⟩ := hP
    have ea : (List.replicate zs.length true).all id = true := by
      rw [List.all_eq_true]
      intro x hx
      rw [List.eq_of_mem_replicate hx]
      rfl
    refine ⟨D, _, rfl, SqL.of hD6, ?_⟩
    rw [ea]
    refine ⟨_, rfl, iteF ?_⟩
    refine ⟨_, rfl, _, rfl, fb, _, rfl, .inl (SqL.of (s6.lst hf5)), _, rfl, e9, rfl, ⟨_, SqL.of (s6.lst h95)⟩, fun D2 hD2 => lc_list (xs := xs9) (fun i H7 => Ext H' H7 ∧ ∃ ys, H7 D2 = some (.lst ys) ∧ Paired (EdgeU K H7) ys ((prsOf es9).take i)) ⟨ext_upd hD2, [], upd_same, .nil⟩ (fun i H7 _ h => SqL.of (h.1.lst (s6.lst h95))) (fun i x H7 hi hP => ?_) (fun H7 hP => ?_)⟩
    · obtain ⟨s7, ys, hys, hp7⟩ := hP
      obtain ⟨e, het, ae, rfl, hae⟩ := paired_at (s6.edgesT hes5) hi
      have ly := hp7.length
      have hl2 := (List.getElem?_eq_some_iff.mp het).1
      rw [List.length_take] at ly
      refine ⟨rfl, _, rfl, _, rfl, cut2u (r := [V.int e.2.2]) (SqT.of (s7.at hae)) fun p H8 s8 hp8 => ?_⟩
      refine ⟨ys, s8.lst hys, sl_lt (by omega), (s7.trans s8).own hD2, ys ++ [.ref p], upd_same, ?_⟩
      have hw : (prsOf es9)[i]? = some (e.1, e.2.1) := by
        unfold prsOf
        rw [List.getElem?_map, het]
        rfl
      rw [take_snoc hw]
      exact edgesU_upd (s8.lst hys) (paired_snoc (s8.edgeU hp7) ⟨p, [], rfl, hp8⟩)
    · obtain ⟨s7, ys, hys, hp7⟩ := hP
      have lp : (prsOf es9).length = es9.length := List.length_map _
      rw [lx9, ← lp, List.take_length] at hp7
      have hin := inR_of ge
      refine ⟨D2, fs.length, ys, prsOf es9, by rw [List.length_map]; rfl, SqL.of hys, hp7, hin, by omega, by omega, fun l6 H8 zs2 kss2 s8 _ hl6 hz6 hpk6 hpw6 => ?_⟩
      have e7 : kss = kss2 := by
        refine sorted_one (hpk.trans (List.Perm.trans ?_ hpk6.symm)) hpw hpw6
        have := (ev_perm hin).map (insT (prsOf es9).length)
        rw [lp] at this ⊢
        exact this
      subst e7
      have s58 := (s6.trans s7).trans s8
      refine ⟨.list (kss.map ksD), .list (kss.map ksD), .lst (SqL.of (s58.lst hl5)) (ks_dp (tups_up s58 hz)), .lst (SqL.of hl6) (ks_dp hz6), gd_ks.sh, gd_ks.sh, ?_⟩
      rw [eqv_self gd_ks]
      exact q _
theorem tabG0 {H : Hp} {p : Addr} (h : H p = some (.tbl #[])) : GxR.TabG H p := ⟨#[], h, by simp [TriplesOk]⟩
end
theorem all_mk {l : PySem.W.OpenLaw} {q : Program} {w : World} {K : PySem.W.Frag} {h : Heap} {mg : Str → Option Value} {fa : Addr} (X : K.In h) (G : h.Ns mainGlobals mg) (hfa : mg "law" = some (.ref fa)) (AT : LamX.AllTab q K h)
    {f0 f1 c1 P1 f2 f3 C_Spins c3 P3 f4 c4 P4 f5 f6 f7 f8 f9 f10 f11 f12 f13 X_FieldError X_InvalidSpins X_TooLarge : Addr}
    {oc0 kV0 dc0 pm0 ct0 cd0 oc1 kV1 dc1 pm1 ct1 ge1 oc2 kV2 dc2 pm2 ct2 cd2 oc3 kV3 dc3 pm3 ct3 ge3 oc4 kV4 dc4 pm4 ct4 ge4 oc5 kV5 dc5 pm5 ct5 cd5 oc6 kV6 dc6 pm6 ct6 cd6 oc7 kV7 dc7 pm7 ct7 cd7 oc8 kV8 dc8 pm8 ct8 cd8 oc9 kV9 dc9 pm9 ct9 cd9 oc10 kV10 dc10 pm10 ct10 cd10 oc11 kV11 dc11 pm11 ct11 cd11 oc12 kV12 dc12 pm12 ct12 cd12 oc13 kV13 dc13 pm13 ct13 cd13 : Value}
    {od0 an0 od1 an1 gd1 od2 an2 od3 an3 gd3 od4 an4 gd4 od5 an5 od6 an6 od7 an7 od8 an8 od9 an9 od10 an10 od11 an11 od12 an12 od13 an13 : Option Addr}
    {sl0 sl1 gs1 sl2 sl3 gs3 sl4 gs4 sl5 sl6 sl7 sl8 sl9 sl10 sl11 sl12 sl13 : Array (Option Value)}
    {gv1 gv3 gv4 : Array Value}
    {tk_MOST_SETS tk_MOST_VERTICES tk_MOST_EDGES tk_MOST_SIZE : Tok}
    (a0 : PySem.W.nsIn K mainGlobals "even_sets" = some (some (.ref f0)))
    (l0 : K.lookup f0 = some ⟨oc0, od0, .func (PySem.W.fnOf "even_sets" "even_sets" (defArgs s_even_sets) (defBody s_even_sets) (defScope s_even_sets) .none kV0 dc0 pm0 an0 cd0 ct0), sl0⟩)
    (x0 : PySem.W.codeIn K cd0 "even_sets" = true)
    (k0 : PySem.W.keepIn K (.ref f0) = true)
    (a1 : PySem.W.nsIn K mainGlobals "_members" = some (some (.ref f1)))
    (l1 : K.lookup f1 = some ⟨oc1, od1, .func (PySem.W.fnOf "_members" "_members" (defArgs s_members) (defBody s_members) (defScope s_members) .none kV1 dc1 pm1 an1 (.ref c1) ct1), sl1⟩)
    (x1 : PySem.W.codeIn K (.ref c1) "_members" = true)
    (k1 : PySem.W.keepIn K (.ref f1) = true)
    (h1 : K.lookup c1 = some ⟨ge1, gd1, .fields gv1, gs1⟩)
    (v1 : gv1[11]? = some (.ref P1))
    (n1 : K.lookup P1 = none)
    (e1 : PySem.W.codeHdIn K c1 P1 = true)
    (r1 : ((recsOf q).any fun r => r.name == ("_members" : Str)) = true)
    (a2 : PySem.W.nsIn K mainGlobals "_independent_rounds" = some (some (.ref f2)))
    (l2 : K.lookup f2 = some ⟨oc2, od2, .func (PySem.W.fnOf "_independent_rounds" "_independent_rounds" (defArgs s_independent_rounds) (defBody s_independent_rounds) (defScope s_independent_rounds) .none kV2 dc2 pm2 an2 cd2 ct2), sl2⟩)
    (x2 : PySem.W.codeIn K cd2 "_independent_rounds" = true)
    (k2 : PySem.W.keepIn K (.ref f2) = true)
    (ac_Spins : PySem.W.nsIn K mainGlobals "Spins" = some (some (.ref C_Spins)))
    (a3 : PySem.W.findIn K (.ref C_Spins) "__init__" = some (some (.ref f3)))
    (i3 : PySem.W.isFn K (.ref f3) = true)
    (l3 : K.lookup f3 = some ⟨oc3, od3, .func (PySem.W.fnOf "__init__" "Spins.__init__" (defArgs s_Spins_init) (defBody s_Spins_init) (defScope s_Spins_init) .none kV3 dc3 pm3 an3 (.ref c3) ct3), sl3⟩)
    (x3 : PySem.W.codeIn K (.ref c3) "Spins.__init__" = true)
    (k3 : PySem.W.keepIn K (.ref f3) = true)
    (h3 : K.lookup c3 = some ⟨ge3, gd3, .fields gv3, gs3⟩)
    (v3 : gv3[11]? = some (.ref P3))
    (n3 : K.lookup P3 = none)
    (e3 : PySem.W.codeHdIn K c3 P3 = true)
    (t3 : h.get? P3 = some { cls := .none, data := .fields #[] })
    (a4 : PySem.W.nsIn K mainGlobals "_check_fields" = some (some (.ref f4)))
    (l4 : K.lookup f4 = some ⟨oc4, od4, .func (PySem.W.fnOf "_check_fields" "_check_fields" (defArgs s_check_fields) (defBody s_check_fields) (defScope s_check_fields) .none kV4 dc4 pm4 an4 (.ref c4) ct4), sl4⟩)
    (x4 : PySem.W.codeIn K (.ref c4) "_check_fields" = true)
    (k4 : PySem.W.keepIn K (.ref f4) = true)
    (h4 : K.lookup c4 = some ⟨ge4, gd4, .fields gv4, gs4⟩)
    (v4 : gv4[11]? = some (.ref P4))
    (n4 : K.lookup P4 = none)
    (e4 : PySem.W.codeHdIn K c4 P4 = true)
    (r4 : ((recsOf q).any fun r => r.name == ("_check_fields" : Str)) = true)
    (a5 : PySem.W.nsIn K mainGlobals "_check_edges" = some (some (.ref f5)))
    (l5 : K.lookup f5 = some ⟨oc5, od5, .func (PySem.W.fnOf "_check_edges" "_check_edges" (defArgs s_check_edges) (defBody s_check_edges) (defScope s_check_edges) .none kV5 dc5 pm5 an5 cd5 ct5), sl5⟩)
    (x5 : PySem.W.codeIn K cd5 "_check_edges" = true)
    (k5 : PySem.W.keepIn K (.ref f5) = true)
    (a6 : PySem.W.nsIn K mainGlobals "_law_cell" = some (some (.ref f6)))
    (l6 : K.lookup f6 = some ⟨oc6, od6, .func (PySem.W.fnOf "_law_cell" "_law_cell" (defArgs s_law_cell) (defBody s_law_cell) (defScope s_law_cell) .none kV6 dc6 pm6 an6 cd6 ct6), sl6⟩)
    (x6 : PySem.W.codeIn K cd6 "_law_cell" = true)
    (k6 : PySem.W.keepIn K (.ref f6) = true)
    (a7 : PySem.W.nsIn K mainGlobals "_law_mix" = some (some (.ref f7)))
    (l7 : K.lookup f7 = some ⟨oc7, od7, .func (PySem.W.fnOf "_law_mix" "_law_mix" (defArgs s_law_mix) (defBody s_law_mix) (defScope s_law_mix) .none kV7 dc7 pm7 an7 cd7 ct7), sl7⟩)
    (x7 : PySem.W.codeIn K cd7 "_law_mix" = true)
    (k7 : PySem.W.keepIn K (.ref f7) = true)
    (a8 : PySem.W.nsIn K mainGlobals "_law_row" = some (some (.ref f8)))
    (l8 : K.lookup f8 = some ⟨oc8, od8, .func (PySem.W.fnOf "_law_row" "_law_row" (defArgs s_law_row) (defBody s_law_row) (defScope s_law_row) .none kV8 dc8 pm8 an8 cd8 ct8), sl8⟩)
    (x8 : PySem.W.codeIn K cd8 "_law_row" = true)
    (k8 : PySem.W.keepIn K (.ref f8) = true)
    (a9 : PySem.W.nsIn K mainGlobals "_law_tuples" = some (some (.ref f9)))
    (l9 : K.lookup f9 = some ⟨oc9, od9, .func (PySem.W.fnOf "_law_tuples" "_law_tuples" (defArgs s_law_tuples) (defBody s_law_tuples) (defScope s_law_tuples) .none kV9 dc9 pm9 an9 cd9 ct9), sl9⟩)
    (x9 : PySem.W.codeIn K cd9 "_law_tuples" = true)
    (k9 : PySem.W.keepIn K (.ref f9) = true)
    (a10 : PySem.W.nsIn K mainGlobals "_law_spins" = some (some (.ref f10)))
    (l10 : K.lookup f10 = some ⟨oc10, od10, .func (PySem.W.fnOf "_law_spins" "_law_spins" (defArgs s_law_spins) (defBody s_law_spins) (defScope s_law_spins) .none kV10 dc10 pm10 an10 cd10 ct10), sl10⟩)
    (x10 : PySem.W.codeIn K cd10 "_law_spins" = true)
    (k10 : PySem.W.keepIn K (.ref f10) = true)
    (a11 : PySem.W.nsIn K mainGlobals "_law_even_sets" = some (some (.ref f11)))
    (l11 : K.lookup f11 = some ⟨oc11, od11, .func (PySem.W.fnOf "_law_even_sets" "_law_even_sets" (defArgs s_law_even_sets) (defBody s_law_even_sets) (defScope s_law_even_sets) .none kV11 dc11 pm11 an11 cd11 ct11), sl11⟩)
    (x11 : PySem.W.codeIn K cd11 "_law_even_sets" = true)
    (k11 : PySem.W.keepIn K (.ref f11) = true)
    (a12 : PySem.W.nsIn K mainGlobals "_law_many" = some (some (.ref f12)))
    (l12 : K.lookup f12 = some ⟨oc12, od12, .func (PySem.W.fnOf "_law_many" "_law_many" (defArgs s_law_many) (defBody s_law_many) (defScope s_law_many) .none kV12 dc12 pm12 an12 cd12 ct12), sl12⟩)
    (x12 : PySem.W.codeIn K cd12 "_law_many" = true)
    (k12 : PySem.W.keepIn K (.ref f12) = true)
    (a13 : PySem.W.nsIn K mainGlobals "law" = some (some (.ref f13)))
    (l13 : K.lookup f13 = some ⟨oc13, od13, .func (PySem.W.fnOf "law" "law" (defArgs s_law) (defBody s_law) (defScope s_law) .none kV13 dc13 pm13 an13 cd13 ct13), sl13⟩)
    (x13 : PySem.W.codeIn K cd13 "law" = true)
    (k13 : PySem.W.keepIn K (.ref f13) = true)
    (n_MOST_SETS : PySem.W.nsIn K mainGlobals "MOST_SETS" = some (some (.int 8192 tk_MOST_SETS)))
    (n_MOST_VERTICES : PySem.W.nsIn K mainGlobals "MOST_VERTICES" = some (some (.int 12 tk_MOST_VERTICES)))
    (n_MOST_EDGES : PySem.W.nsIn K mainGlobals "MOST_EDGES" = some (some (.int 24 tk_MOST_EDGES)))
    (n_MOST_SIZE : PySem.W.nsIn K mainGlobals "MOST_SIZE" = some (some (.int 9 tk_MOST_SIZE)))
    (ax_FieldError : PySem.W.nsIn K mainGlobals "FieldError" = some (some (.ref X_FieldError)))
    (q_FieldError : PySem.W.excIn K X_FieldError veB "ValueError.__new__" = true)
    (kx_FieldError : PySem.W.keepIn K (.ref X_FieldError) = true)
    (bx_FieldError : PySem.W.subIn K (.ref X_FieldError) (.type "BaseException") = some true)
    (yx_FieldError : PySem.W.typeIn K (.ref X_FieldError) = some (.type "type"))
    (ax_InvalidSpins : PySem.W.nsIn K mainGlobals "InvalidSpins" = some (some (.ref X_InvalidSpins)))
    (q_InvalidSpins : PySem.W.excIn K X_InvalidSpins veB "ValueError.__new__" = true)
    (kx_InvalidSpins : PySem.W.keepIn K (.ref X_InvalidSpins) = true)
    (bx_InvalidSpins : PySem.W.subIn K (.ref X_InvalidSpins) (.type "BaseException") = some true)
    (yx_InvalidSpins : PySem.W.typeIn K (.ref X_InvalidSpins) = some (.type "type"))
    (ax_TooLarge : PySem.W.nsIn K mainGlobals "TooLarge" = some (some (.ref X_TooLarge)))
    (q_TooLarge : PySem.W.excIn K X_TooLarge veB "ValueError.__new__" = true)
    (kx_TooLarge : PySem.W.keepIn K (.ref X_TooLarge) = true)
    (bx_TooLarge : PySem.W.subIn K (.ref X_TooLarge) (.type "BaseException") = some true)
    (yx_TooLarge : PySem.W.typeIn K (.ref X_TooLarge) = some (.type "type"))
    (pg_Spins : PySem.W.plainGet K C_Spins Str.empty = true)
    (hd_Spins : PySem.W.hasDictIn K C_Spins = true)
    (po_Spins : PySem.W.plainOver K C_Spins = true)
    (sa_Spins : PySem.W.findIn K (.ref C_Spins) "__setattr__" = some (some (.builtin "object.__setattr__")))
    (mk_Spins : PySem.W.makesIn K C_Spins = true)
    (kc_Spins : PySem.W.keepIn K (.ref C_Spins) = true)
    (na_Spins_fields : PySem.W.findIn K (.ref C_Spins) "fields" = some none)
    (na_Spins_edges : PySem.W.findIn K (.ref C_Spins) "edges" = some none)
    (z_abs : PySem.W.nsIn K mainGlobals "abs" = some none)
    (z_all : PySem.W.nsIn K mainGlobals "all" = some none)
    (z_bool : PySem.W.nsIn K mainGlobals "bool" = some none)
    (z_enumerate : PySem.W.nsIn K mainGlobals "enumerate" = some none)
    (z_int : PySem.W.nsIn K mainGlobals "int" = some none)
    (z_isinstance : PySem.W.nsIn K mainGlobals "isinstance" = some none)
    (z_len : PySem.W.nsIn K mainGlobals "len" = some none)
    (z_list : PySem.W.nsIn K mainGlobals "list" = some none)
    (z_range : PySem.W.nsIn K mainGlobals "range" = some none)
    (z_sorted : PySem.W.nsIn K mainGlobals "sorted" = some none)
    (z_tuple : PySem.W.nsIn K mainGlobals "tuple" = some none)
    (z_zip : PySem.W.nsIn K mainGlobals "zip" = some none)
    (xm : PySem.W.exmOne K (.ref X_TooLarge) (.ref X_FieldError) = some true)
    (ki : PySem.W.kitOne K (.ref X_TooLarge) (.ref X_TooLarge) = some true)
    (ehg : PySem.W.findIn K (.ref X_TooLarge) "__getattribute__" = some (some (.builtin "BaseException.__getattribute__")))
    (ehk : PySem.W.findIn K (.ref X_TooLarge) "__getattr__" = some none)
    (ehd : PySem.W.hasDictIn K X_TooLarge = true)
    (eha : PySem.W.findIn K (.ref X_TooLarge) "__class__" = some (some (.builtin "object.__class__")))
    (ehn : PySem.W.specialIn K (.builtin "object.__class__") "__get__" = some (some (.builtin "getset_descriptor.__get__")))
    (eht : PySem.W.takesIn K (.builtin "object.__class__") = some true)
    (ehm : PySem.W.mroIn K X_TooLarge (.type "object") = some true) :
    LamX.LawAtS l w K CX0 8 63 "script" mg fa h := by
  have e := hfa.symm.trans (PySem.W.mg_of X G a13)
  cases e
  have F0 := fun_mk (st := s_even_sets) l0 x0 k0
  have b0 := F0.binds (ps := ["spins"]) fun _ _ _ _ _ _ us hl => match us, hl with | [_], _ => rfl
  have F1 := funC_mk (st := s_members) l1 x1 k1
  have b1 := F1.binds (ps := ["mask", "count"]) fun _ _ _ _ _ _ us hl => match us, hl with | [_, _], _ => rfl
  have F2 := fun_mk (st := s_independent_rounds) l2 x2 k2
  have b2 := F2.binds (ps := ["spins"]) fun _ _ _ _ _ _ us hl => match us, hl with | [_], _ => rfl
  have F3 := funC_mk (st := s_Spins_init) l3 x3 k3
  have b3 := F3.binds (ps := ["self", "fields", "edges"]) fun _ _ _ _ _ _ us hl => match us, hl with | [_, _, _], _ => rfl
  have F4 := funC_mk (st := s_check_fields) l4 x4 k4
  have b4 := F4.binds (ps := ["fields"]) fun _ _ _ _ _ _ us hl => match us, hl with | [_], _ => rfl
  have F5 := fun_mk (st := s_check_edges) l5 x5 k5
  have b5 := F5.binds (ps := ["edges", "count"]) fun _ _ _ _ _ _ us hl => match us, hl with | [_, _], _ => rfl
  have F6 := fun_mk (st := s_law_cell) l6 x6 k6
  have b6 := F6.binds (ps := ["script", "k"]) fun _ _ _ _ _ _ us hl => match us, hl with | [_, _], _ => rfl
  have F7 := fun_mk (st := s_law_mix) l7 x7 k7
  have b7 := F7.binds (ps := ["cell", "k"]) fun _ _ _ _ _ _ us hl => match us, hl with | [_, _], _ => rfl
  have F8 := fun_mk (st := s_law_row) l8 x8 k8
  have b8 := F8.binds (ps := ["cell", "count", "bound"]) fun _ _ _ _ _ _ us hl => match us, hl with | [_, _, _], _ => rfl
  have F9 := fun_mk (st := s_law_tuples) l9 x9 k9
  have b9 := F9.binds (ps := ["thing"]) fun _ _ _ _ _ _ us hl => match us, hl with | [_], _ => rfl
  have F10 := fun_mk (st := s_law_spins) l10 x10 k10
  have b10 := F10.binds (ps := ["script", "first", "most", "kind"]) fun _ _ _ _ _ _ us hl => match us, hl with | [_, _, _, _], _ => rfl
  have F11 := fun_mk (st := s_law_even_sets) l11 x11 k11
  have b11 := F11.binds (ps := ["count", "pairs"]) fun _ _ _ _ _ _ us hl => match us, hl with | [_, _], _ => rfl
  have F12 := fun_mk (st := s_law_many) l12 x12 k12
  have b12 := F12.binds (ps := ["count"]) fun _ _ _ _ _ _ us hl => match us, hl with | [_], _ => rfl
  have F13 := fun_mk (st := s_law) l13 x13 k13
  let T : Top K mg := ⟨f0, _, F0, b0, PySem.W.mg_of X G a0, f1, _, c1, P1, F1, b1, PySem.W.mg_of X G a1, f2, _, F2, b2, PySem.W.mg_of X G a2, f4, _, c4, P4, F4, b4, PySem.W.mg_of X G a4, f5, _, F5, b5, PySem.W.mg_of X G a5, f6, _, F6, b6, PySem.W.mg_of X G a6, f7, _, F7, b7, PySem.W.mg_of X G a7, f8, _, F8, b8, PySem.W.mg_of X G a8, f9, _, F9, b9, PySem.W.mg_of X G a9, f10, _, F10, b10, PySem.W.mg_of X G a10, f11, _, F11, b11, PySem.W.mg_of X G a11, f12, _, F12, b12, PySem.W.mg_of X G a12, tk_MOST_SETS, PySem.W.mg_of X G n_MOST_SETS, tk_MOST_VERTICES, PySem.W.mg_of X G n_MOST_VERTICES, tk_MOST_EDGES, PySem.W.mg_of X G n_MOST_EDGES, tk_MOST_SIZE, PySem.W.mg_of X G n_MOST_SIZE, X_FieldError, PySem.W.mg_of X G ax_FieldError, q_FieldError, kx_FieldError, bx_FieldError, yx_FieldError, X_InvalidSpins, PySem.W.mg_of X G ax_InvalidSpins, q_InvalidSpins, kx_InvalidSpins, bx_InvalidSpins, yx_InvalidSpins, X_TooLarge, PySem.W.mg_of X G ax_TooLarge, q_TooLarge, kx_TooLarge, bx_TooLarge, yx_TooLarge, C_Spins, PySem.W.mg_of X G ac_Spins, ⟨pg_Spins, hd_Spins, po_Spins, sa_Spins⟩, f3, _, c3, P3, F3, b3, ⟨mk_Spins, a3, i3, kc_Spins⟩, na_Spins_fields, na_Spins_edges, PySem.W.mg_none_of X G z_abs, PySem.W.mg_none_of X G z_all, PySem.W.mg_none_of X G z_bool, PySem.W.mg_none_of X G z_enumerate, PySem.W.mg_none_of X G z_int, PySem.W.mg_none_of X G z_isinstance, PySem.W.mg_none_of X G z_len, PySem.W.mg_none_of X G z_list, PySem.W.mg_none_of X G z_range, PySem.W.mg_none_of X G z_sorted, PySem.W.mg_none_of X G z_tuple, PySem.W.mg_none_of X G z_zip, xm, ki, ⟨ehg, ehk, bx_TooLarge, ehd, eha, ehn, eht, ehm⟩⟩
  refine ⟨_, [(c1, P1), (c3, P3), (c4, P4)], spLaw T, ?_, ?_, ?_, fun s u => .of_eq rfl, fun H a ns hl hb ht hS => law_in T H a ns hl hb ⟨tabG0 (ht (c1, P1) (by simp)), tabG0 (ht (c3, P3) (by simp)), tabG0 (ht (c4, P4) (by simp))⟩ hS, fun base _ _ tb => ok_law F13 T ⟨tb (c1, P1) (by simp), tb (c3, P3) (by simp), tb (c4, P4) (by simp)⟩⟩
  · intro p hp
    simp only [List.mem_cons, List.not_mem_nil, or_false] at hp
    rcases hp with rfl | rfl | rfl
    · exact AT "_members" f1 c1 P1 _ _ _ _ _ _ r1 a1 l1 rfl rfl h1 v1
    · exact t3
    · exact AT "_check_fields" f4 c4 P4 _ _ _ _ _ _ r4 a4 l4 rfl rfl h4 v4
  · intro p hp
    simp only [List.mem_cons, List.not_mem_nil, or_false] at hp
    rcases hp with rfl | rfl | rfl
    · exact n1
    · exact n3
    · exact n4
  · intro p hp
    simp only [List.mem_cons, List.not_mem_nil, or_false] at hp
    rcases hp with rfl | rfl | rfl
    · exact PySem.W.codeHd_of_K X e1
    · exact PySem.W.codeHd_of_K X e3
    · exact PySem.W.codeHd_of_K X e4
end KP
open PySem PySem.W PyProof.Rows
local macro_rules | `(tactic| o_head ($f:ident $k $a $e)) => `(tactic| o_head (kmHook $k $a $e [79]))
set_option maxHeartbeats 0 in
theorem PySem.Challenge.cw_spinfield_k13_even_sets_holds : PySem.Challenge.rw_spinfield_k13_even_sets.Holds := by
  w_on; o_law; k_head; (case hw => w_witness2)
  k_fill
  refine LamX.walk_ofAll (l := PySem.Challenge.rw_spinfield_k13_even_sets) (n := 63) (k := 8) (x := "script") (CX := fun _ => L2.CX0) rfl (by decide) rfl ⟨rfl, by decide, by decide⟩ (fun w h Y => PySem.W.km_in_of Y) ?F (fun _ _ _ _ _ h => h)
  case F =>
    intro w mg fa h Y KX G hmg AT
    refine' KP.all_mk KX G hmg AT ?a0 ?l0 ?x0 ?k0 ?a1 ?l1 ?x1 ?k1 ?h1 ?v1 ?n1 ?e1 ?r1 ?a2 ?l2 ?x2 ?k2 ?ac_Spins ?a3 ?i3 ?l3 ?x3 ?k3 ?h3 ?v3 ?n3 ?e3 ?t3 ?a4 ?l4 ?x4 ?k4 ?h4 ?v4 ?n4 ?e4 ?r4 ?a5 ?l5 ?x5 ?k5 ?a6 ?l6 ?x6 ?k6 ?a7 ?l7 ?x7 ?k7 ?a8 ?l8 ?x8 ?k8 ?a9 ?l9 ?x9 ?k9 ?a10 ?l10 ?x10 ?k10 ?a11 ?l11 ?x11 ?k11 ?a12 ?l12 ?x12 ?k12 ?a13 ?l13 ?x13 ?k13 ?n_MOST_SETS ?n_MOST_VERTICES ?n_MOST_EDGES ?n_MOST_SIZE ?ax_FieldError ?q_FieldError ?kx_FieldError ?bx_FieldError ?yx_FieldError ?ax_InvalidSpins ?q_InvalidSpins ?kx_InvalidSpins ?bx_InvalidSpins ?yx_InvalidSpins ?ax_TooLarge ?q_TooLarge ?kx_TooLarge ?bx_TooLarge ?yx_TooLarge ?pg_Spins ?hd_Spins ?po_Spins ?sa_Spins ?mk_Spins ?kc_Spins ?na_Spins_fields ?na_Spins_edges ?z_abs ?z_all ?z_bool ?z_enumerate ?z_int ?z_isinstance ?z_len ?z_list ?z_range ?z_sorted ?z_tuple ?z_zip ?xm ?ki ?ehg ?ehk ?ehd ?eha ?ehn ?eht ?ehm
    (case a0 => k_is); (case l0 => k_is); (case x0 => k_is); (case k0 => k_is); (case a1 => k_is); (case l1 => k_is); (case x1 => k_is); (case k1 => k_is); (case h1 => k_is); (case v1 => exact rfl); (case n1 => kernel_rfl); (case e1 => kernel_rfl); (case r1 => kernel_rfl); (case a2 => k_is); (case l2 => k_is); (case x2 => k_is); (case k2 => k_is); (case ac_Spins => k_is); (case a3 => k_is); (case i3 => k_is); (case l3 => k_is); (case x3 => k_is); (case k3 => k_is); (case h3 => k_is); (case v3 => exact rfl); (case n3 => kernel_rfl); (case e3 => kernel_rfl); (case t3 => exact PySem.W.km_tabs_of Y 79 (by simp)); (case a4 => k_is); (case l4 => k_is); (case x4 => k_is); (case k4 => k_is); (case h4 => k_is); (case v4 => exact rfl); (case n4 => kernel_rfl); (case e4 => kernel_rfl); (case r4 => kernel_rfl); (case a5 => k_is); (case l5 => k_is); (case x5 => k_is); (case k5 => k_is); (case a6 => k_is); (case l6 => k_is); (case x6 => k_is); (case k6 => k_is); (case a7 => k_is); (case l7 => k_is); (case x7 => k_is); (case k7 => k_is); (case a8 => k_is); (case l8 => k_is); (case x8 => k_is); (case k8 => k_is); (case a9 => k_is); (case l9 => k_is); (case x9 => k_is); (case k9 => k_is); (case a10 => k_is); (case l10 => k_is); (case x10 => k_is); (case k10 => k_is); (case a11 => k_is); (case l11 => k_is); (case x11 => k_is); (case k11 => k_is); (case a12 => k_is); (case l12 => k_is); (case x12 => k_is); (case k12 => k_is); (case a13 => k_is); (case l13 => k_is); (case x13 => k_is); (case k13 => k_is); (case n_MOST_SETS => k_is); (case n_MOST_VERTICES => k_is); (case n_MOST_EDGES => k_is); (case n_MOST_SIZE => k_is); (case ax_FieldError => k_is); (case q_FieldError => kernel_rfl); (case kx_FieldError => k_is); (case bx_FieldError => k_is); (case yx_FieldError => k_is); (case ax_InvalidSpins => k_is); (case q_InvalidSpins => kernel_rfl); (case kx_InvalidSpins => k_is); (case bx_InvalidSpins => k_is); (case yx_InvalidSpins => k_is); (case ax_TooLarge => k_is); (case q_TooLarge => kernel_rfl); (case kx_TooLarge => k_is); (case bx_TooLarge => k_is); (case yx_TooLarge => k_is); (case pg_Spins => k_is); (case hd_Spins => k_is); (case po_Spins => k_is); (case sa_Spins => k_is); (case mk_Spins => k_is); (case kc_Spins => k_is); (case na_Spins_fields => k_is); (case na_Spins_edges => k_is); (case z_abs => k_is); (case z_all => k_is); (case z_bool => k_is); (case z_enumerate => k_is); (case z_int => k_is); (case z_isinstance => k_is); (case z_len => k_is); (case z_list => k_is); (case z_range => k_is); (case z_sorted => k_is); (case z_tuple => k_is); (case z_zip => k_is); (case xm => kernel_rfl); (case ki => kernel_rfl); (case ehg => k_is); (case ehk => k_is); (case ehd => k_is); (case eha => k_is); (case ehn => k_is); (case eht => k_is); (case ehm => k_is)
