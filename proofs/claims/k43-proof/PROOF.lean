import PyProof.Rows.All
import Wide.All
import OpenK.AllK
import Wide.FinOn
import HandS.ForMost
import HandS.AnyAll
import HandS.GenList
import HandS.EndTab
import PyProof.TupleOfGen
import HandS.SortRule
import HandS.Conv
import HandS.EndOwn
import HandS.EndBits
import HandS.Zip
import HandS.TupLe
import HandS.ForExc
import HandS.ExcIs
import HandS.Style
import HandS.TupAny
import HandS.IsInst
import HandS.CallLocal
import HandS.Wide
import HandS.Codes
import HandS.DictComp
import KE.KBits
import PyProof.SumWalkG
import KE.GoesEnum
import PyProof.Walks
import PyProof.MinMaxWalk
import HandS.TupSets
import HandS.Deep
import HandS.Text
import HandS.Gcd
import HandS.TupMul
import PySem.Challenge.RW_spinfield_k43_series
set_option Elab.async false
set_option linter.all false
set_option maxRecDepth 100000
set_option maxHeartbeats 4000000
/-! Generator expressions over the layer: the generator's own frame as a context, its turns, what wakes it. -/
namespace GXP
open PySem PySem.Spec PyProof.Rows L2
/-- the generator's frame while its consumer stands at A -/
abbrev gcx (X : Cx) (A : Around) (s : Shared) (H : Hp) (ce : Env) (fp : List Addr) : Cx :=
  { X with A := A, s_0 := s, H_0 := H, env := ce, outer := X.stack, stack := ce :: X.stack, ex := fp, fn := fun _ => false, calm := true, pn := [], xe := fun _ _ => False }
/-- the cells of the frame that are taken over -/
theorem clo_look {cells : List (Str × Addr)} {names : List (Str × NameKind)} (hf : ∀ y ∈ names, y.2 = .free → ∃ c, cells.lookup y.1 = some c) {y : Str} {c : Addr} (e : (cloFrom cells names []).lookup y = some c) : cells.lookup y = some c ∧ (y, NameKind.free) ∈ names := by
  rcases cloFrom_mem (PySem.mem_of_lookup e) with z | ⟨z, rfl⟩
  · cases z
  · obtain ⟨d, hd⟩ := hf _ z rfl
    have hd : cells.lookup y = some d := hd
    rw [hd]
    exact ⟨rfl, z⟩
theorem gcx_start {X : Cx} {pins : List (Addr × Obj)} {σ : L2.St} {H : Hp} {s s5 : Shared} {A : Around} {ce : Env} {scope : Scope} {own : List (Str × Nat)} {fp : List Addr} {m0 : Str → Option Value}
    (I : Inv X pins σ H s) (ok : BlkOk X.N X.env.scope scope own) (hN : X.N.Nodup) (nocell : ∀ y ∈ scope.names, y.2 ≠ .cell) (hfp : ∀ b ∈ fp, FpOk X pins H b ∧ b < s.heap.objs.size)
    (hsc : ce.scope = scope) (hL : ce.locals = s.heap.objs.size) (hgl : ce.globals = mainGlobals) (hbl : ce.builtins = builtinsNs) (hcl : ce.cells = cloFrom X.env.cells scope.names []) (hfr : ce.frame = some ce.locals)
    (hA : A.frames = some (ce :: X.stack)) (hh : A.handled = none) (kp : ∀ b o, s.heap.get? b = some o → s5.heap.get? b = some o) (ns : s5.heap.Ns ce.locals m0) (hos : s5.os = s.os) (hb : AllBare s5.gens) :
    Inv (gcx X A s H ce fp) [] (wipe σ (own.map (·.2))) H s5 := by
  have hfree : ∀ y ∈ scope.names, y.2 = .free → ∃ c, X.env.cells.lookup y.1 = some c := fun y hy e => (ok.free y hy e).elim (fun k => I.ok.has _ (.inl k)) (fun k => I.ok.has _ (.inr k))
  have look : ∀ {y c}, ce.cells.lookup y = some c → X.env.cells.lookup y = some c ∧ (y, NameKind.free) ∈ scope.names := fun {y c} e => clo_look hfree (by rw [← hcl]; exact e)
  have cellLt : ∀ {y c}, X.env.cells.lookup y = some c → c < s.heap.objs.size := fun {y c} e => let ⟨_, z⟩ := I.cell y c e; z.lt
  have freeHas : ∀ {y}, scope.names.lookup y = some .free → ∃ c, ce.cells.lookup y = some c ∧ X.env.cells.lookup y = some c := fun {y} e => by
    obtain ⟨c, hc⟩ := mem_lookup (cloFrom_has (cells := X.env.cells) (acc := []) (PySem.mem_of_lookup e))
    rw [← hcl] at hc
    exact ⟨c, hc, (look hc).1⟩
  have okG : (gcx X A s H ce fp).Ok := by
    refine { mod := I.ok.mod, kind := ?kd, glob := hgl, blt := hbl, above := Nat.le_of_eq hL.symm, inj := ?inj, has := ?has, cab := fun _ _ z _ => (by cases z), hd := fun _ => hh, frames := hA, stk := .inr ⟨rfl, hfr⟩, exf := ?exf, bs := I.bs, bsz := Nat.le_trans I.ok.bsz I.sz, noex := ?noex, exfs := ?exfs, funs := I.stack, frf := I.stkFree }
    case kd =>
      show ce.scope.kind = _
      rw [hsc]
      exact ok.kind
    case inj => exact fun y z c e1 e2 => I.ok.inj y z c (look e1).1 (look e2).1
    case has =>
      intro y hy
      have hy : ce.scope.names.lookup y = some .cell ∨ ce.scope.names.lookup y = some .free := hy
      rw [hsc] at hy
      rcases hy with hy | hy
      · exact absurd rfl (nocell _ (PySem.mem_of_lookup hy))
      · exact let ⟨c, h, _⟩ := freeHas hy; ⟨c, h⟩
    case exf =>
      refine fun b hb => ⟨?_, fun y c e z => (hfp b hb).1.2.2.2.2.1 y c (look e).1 z⟩
      show b ≠ ce.locals
      rw [hL]
      exact Nat.ne_of_lt (hfp b hb).2
    case noex =>
      intro b o e hb
      rcases (hfp b hb).1.2.2.2.1 with z | z
      · exact I.ok.noex b o e z
      · have h1 := Heap.lt_size e
        have h2 := I.ok.bsz
        exact absurd (Nat.lt_of_lt_of_le h1 (Nat.le_trans h2 z)) (Nat.lt_irrefl _)
    case exfs =>
      intro b hb z
      rcases List.mem_cons.mp (I.stkSub b z) with z | z
      · exact (hfp b hb).1.2.1 z
      · exact (hfp b hb).1.2.2.1 z
  refine { ok := okG, os := hos, bare := hb, base := Un.kept kp, loc := ⟨m0, ns, ?loc⟩, cell := ?cell, free := ?free, freeC := fun y c e => I.freeC y c (look e).1, pin := fun p hp => absurd (show p ∈ ([] : List (Addr × Obj)) ++ [] from hp) (by simp), hok := I.hok.kept kp, len := by rw [wipe_length]; exact I.len }
  case loc =>
    intro i y v e1 e2 e3
    obtain ⟨e2, hne⟩ := wipe_some e2
    have e3 : ce.scope.names.lookup y = some .local ∨ ce.scope.names.lookup y = some .cell ∨ ce.scope.names.lookup y = some .free := e3
    rw [hsc] at e3
    have hfr : scope.names.lookup y = some .free := by
      rcases e3 with k | k | k
      · exfalso
        rcases ok.own _ (PySem.mem_of_lookup k) (.inl rfl) with h | h
        · obtain ⟨p, hp, hpy⟩ := List.mem_map.mp h
          have h3 := ok.ix p hp
          have : p.1 = y := hpy
          rw [this] at h3
          exact hne (List.mem_map.mpr ⟨p, hp, nodup_ix hN h3 e1⟩)
        · exact h (List.mem_of_getElem? e1)
      · exact absurd rfl (nocell _ (PySem.mem_of_lookup k))
      · exact k
    obtain ⟨c, h1, h2⟩ := freeHas hfr
    have hvis : Vis X.env.scope y := (ok.free _ (PySem.mem_of_lookup hfr) rfl).elim (fun k => .inr (.inl k)) (fun k => .inr (.inr k))
    obtain ⟨m, hn, hl⟩ := I.loc
    obtain ⟨u, r, q⟩ := hl i y v e1 e2 hvis
    refine ⟨u, r, .inr ⟨.inr (by show ce.scope.names.lookup y = _; rw [hsc]; exact hfr), ?_⟩⟩
    rcases q with ⟨k, _⟩ | ⟨_, d, hd, z⟩
    · have k : X.env.scope.names.lookup y = some .local := k
      rcases ok.free _ (PySem.mem_of_lookup hfr) rfl with k' | k' <;> rw [show X.env.scope.names.lookup y = _ from k'] at k <;> cases k
    · rw [h2] at hd
      cases hd
      exact ⟨c, h1, z.keeps kp⟩
  case cell =>
    intro y c e
    obtain ⟨v, z⟩ := I.cell y c (look e).1
    exact ⟨v, z.keeps kp⟩
  case free =>
    show H ce.locals = none
    rw [hL]
    exact I.hok.fresh (Nat.le_refl _)
/-- while the generator sleeps, its consumer writes at cw alone -/
structure Doz (cw : List Addr) (s s' : Shared) : Prop where
  os : s'.os = s.os
  bare : AllBare s'.gens
  keep : ∀ b o, b ∉ cw → s.heap.get? b = some o → s'.heap.get? b = some o
  there : ∀ b ∈ cw, ∃ o, s'.heap.get? b = some o ∧ ∀ v, o.data ≠ .cell v
/-- what stands at cw is left alone by a turn -/
def KeptAt (cw : List Addr) (s₀ s : Shared) : Prop := ∀ b ∈ cw, ∀ o, s₀.heap.get? b = some o → s.heap.get? b = some o
/-- what a consumer does with an item: the items so far, the item, the heap, and what the generator wants to go on -/
abbrev Cy := List V → V → Hp → (List V → Hp → Prop) → Prop
/-- how the items so far show in what the consumer keeps at cw -/
structure Lnk (cw : List Addr) (Lk : List V → Heap → Prop) : Prop where
  st : ∀ ys h h', Lk ys h → (∀ b ∈ cw, ∀ o, h.get? b = some o → h'.get? b = some o) → Lk ys h'
def GYld (Y : Cx) (gp : List (Addr × Obj)) (cw : List Addr) (Lk : List V → Heap → Prop) (cy : Cy) : Protocol := fun _ s₀ v s kap =>
  ∃ (ys : List V) (y : V) (σ : L2.St) (H : Hp) (Nx : List V → Hp → Prop), Inv Y gp σ H s ∧ RelV y v ∧ KeptAt cw s₀ s ∧ (∀ b ∈ cw, H b = none) ∧ Lk ys s.heap ∧ cy ys y H Nx ∧ ∀ ys', Nx ys' H → ∀ s', Doz cw s s' → Lk ys' s'.heap → kap (.send .none) s'
def GFin (Y : Cx) (gp : List (Addr × Obj)) (cw : List Addr) (Lk : List V → Heap → Prop) (Qe : List V → Hp → Prop) : GenEnd := fun _ s₀ r s =>
  r = .ok .next ∧ ∃ (ys : List V) (σ : L2.St) (H : Hp), Inv Y gp σ H s ∧ KeptAt cw s₀ s ∧ (∀ b ∈ cw, H b = none) ∧ Lk ys s.heap ∧ Qe ys H
/-- the turns of a generator expression: W by the turn, a measure and the items so far -/
def Turns (J : It) (g : TG) (tt : TT) (te : TE) (vs : List Nat) (σ : L2.St) (cy : Cy) (Qe : List V → Hp → Prop) (W : Nat → Nat → List V → Hp → Prop) : Prop :=
  ∀ i m ys H, W i m ys H → (J.stop i H ∧ Qe ys H) ∨ (J.go i H ∧ 0 < m ∧ ∃ Nx : List V → Hp → Prop, (∀ ys' H', Nx ys' H' → ∃ m', m' < m ∧ W (i + 1) m' ys' H') ∧
    ∀ x H', J.yld i H x H' → g x (wipe σ vs) H' fun σ2 H2 => wipe σ2 vs = wipe σ vs ∧ tt σ2 H2 fun b H3 => if b = true then te σ2 H3 fun y H4 => cy ys y H4 Nx else Nx ys H3)
/-- the iterator's and the consumer's objects in the generator's frame -/
structure GPlace (Y : Cx) (gp : List (Addr × Obj)) (fp cw : List Addr) : Prop where
  fx : ∀ b ∈ fp, b ∈ Y.ex ∧ b ≠ Y.env.locals ∧ b ∉ Y.fs ∧ (∀ x c, Y.env.cells.lookup x = some c → c ≠ b) ∧ (∀ p ∈ Y.pn ++ gp, p.1 ≠ b) ∧ b ∉ cw
  cx : ∀ b ∈ cw, Y.s_0.heap.objs.size ≤ b ∧ b ≠ Y.env.locals ∧ b ∉ Y.fs ∧ (∀ x c, Y.env.cells.lookup x = some c → c ≠ b) ∧ ∀ p ∈ Y.pn ++ gp, p.1 ≠ b
theorem GPlace.fpOk {Y : Cx} {gp : List (Addr × Obj)} {fp cw : List Addr} (G : GPlace Y gp fp cw) {s₀ : Shared} {H : Hp} (n : ∀ b ∈ fp, H b = none) : ∀ b ∈ fp, FpOk Y (gp ++ pinsAt cw s₀.heap) H b := fun b hb => by
  obtain ⟨h1, h2, h3, h4, h5, h6⟩ := G.fx b hb
  refine ⟨n b hb, h2, h3, .inl h1, h4, fun p hp => ?_⟩
  rw [← List.append_assoc] at hp
  rcases List.mem_append.mp hp with hp | hp
  · exact h5 p hp
  · intro z
    have h7 := (of_pinsAt hp).1
    rw [z] at h7
    exact h6 h7
/-- the consumer's objects are pinned as they stand -/
theorem GPlace.pin {Y : Cx} {gp : List (Addr × Obj)} {fp cw : List Addr} (G : GPlace Y gp fp cw) {σ : L2.St} {H : Hp} {s : Shared} (I : Inv Y gp σ H s) (n : ∀ b ∈ cw, H b = none) (t : ∀ b ∈ cw, ∃ o, s.heap.get? b = some o ∧ ∀ v, o.data ≠ .cell v) :
    Inv Y (gp ++ pinsAt cw s.heap) σ H s :=
  I.pinned (fun b hb => let ⟨h1, h2, h3, h4, h5⟩ := G.cx b hb; ⟨n b hb, h2, h3, .inr h1, h4, h5⟩) t
theorem kept_of {Y : Cx} {gp pl : List (Addr × Obj)} {cw : List Addr} {σ : L2.St} {H : Hp} {s₀ s : Shared} (I : Inv Y ((gp ++ pinsAt cw s₀.heap) ++ pl) σ H s) : KeptAt cw s₀ s := fun b hb o e =>
  (I.pin (b, o) (List.mem_append_right _ (List.mem_append_left _ (List.mem_append_right _ (mem_pinsAt hb e))))).1
/-- asleep: only cw is written -/
theorem GPlace.doz {Y : Cx} {gp : List (Addr × Obj)} {fp cw : List Addr} (G : GPlace Y gp fp cw) {σ : L2.St} {H : Hp} {s s' : Shared} (I : Inv Y gp σ H s) (n : ∀ b ∈ cw, H b = none) (z : Doz cw s s') : Inv Y gp σ H s' := by
  obtain ⟨z1, z2, z3, _⟩ := z
  have nt : ∀ b u, H b = some u → b ∉ cw := fun b u q hb => by
    rw [n b hb] at q
    cases q
  obtain ⟨hh, g, d, t, o⟩ := s'
  have ho : o = s.os := z1
  subst ho
  refine I.step (g' := g) (t' := t) (d' := d) (ch := cw) (fun b hb => ?_) (fun b ob _ _ hc q _ => z3 b ob hc q) (fun b ob _ _ hc q _ => ⟨ob.slots, z3 b ob hc q⟩) (fun _ _ _ _ k => k) (fun b ob hc q => ⟨ob, z3 b ob hc q⟩) (fun _ _ q => q) (fun _ _ _ q => q)
    (fun b ps q => ⟨#[], by rw [q]; simp⟩) (fun m hm => ?_) (fun b u q => ?_) z2
  · obtain ⟨h1, h2, h3, h4, h5⟩ := G.cx b hb
    exact ⟨.inr h1, h2, h4, h5⟩
  · obtain ⟨ob, es, ep, ho, r⟩ := hm
    exact ⟨ob, es, ep, z3 _ ob (fun hb => (G.cx _ hb).2.1 rfl) ho, r⟩
  · refine (I.hok b u q).stay (fun c v hc y => z3 c v ?_ y) (fun _ y => y) fun _ _ y => y
    rcases hc with y | y
    · rw [y]
      exact nt b u q
    · exact nt c _ y
section
variable {Y : Cx} {Aw : Around} {elt tg iter : Expr} {ifs : List Expr} {scope : Scope} {pos : Pos} {it : Addr} {fp cw : List Addr} {gp : List (Addr × Obj)} {tn : Nat → Heap → Prop} {J : It} {g : TG} {tt : TT} {te : TE} {vs : List Nat} {σ : L2.St} {cy : Cy} {Qe : List V → Hp → Prop} {Lk : List V → Heap → Prop}
  {W : Nat → Nat → List V → Hp → Prop}
abbrev gxE (elt tg iter : Expr) (ifs : List Expr) (scope : Scope) (pos : Pos) : Expr := .GeneratorExp elt [⟨tg, iter, ifs, 0⟩] scope pos
theorem gx_loop (hA : Aw.over (.compLoop (gxE elt tg iter ifs scope pos) 0 (.ref it) .none Y.env) [] = Y.A) (hx : Y.xe = fun _ _ => False) (hco : Y.env.scope.isCoroutine = false) (hc : Y.calm = true)
    (T : Turn Y.prog Y.w Y.K tg J fp it tn) (pg : PG Y tg g) (pt : PTs Y ifs tt) (pe : PE Y elt te) (G : GPlace Y gp fp cw) (hLk : Lnk cw Lk) (hW : Turns J g tt te vs σ cy Qe W) :
    ∀ (m n i : Nat) (ys : List V) (s₀ s : Shared) (H : Hp), m ≤ n → Inv Y (gp ++ pinsAt cw s₀.heap) (wipe σ vs) H s → (∀ b ∈ cw, ∃ o, s₀.heap.get? b = some o) → Lk ys s₀.heap → tn i s.heap → (∀ b ∈ fp, H b = none) → W i m ys H →
      Seg (model Y.prog Y.w) Aw (GFin Y gp cw Lk Qe) (GYld Y gp cw Lk cy) n s₀ (.compLoop (gxE elt tg iter ifs scope pos) 0 (.ref it) .none Y.env) ((model Y.prog Y.w).den (.compLoop (gxE elt tg iter ifs scope pos) 0 (.ref it) .none Y.env)) [] s := by
  have cwn : ∀ {s₀ s : Shared} {pl : List (Addr × Obj)} {σ' : L2.St} {H : Hp}, (∀ b ∈ cw, ∃ o, s₀.heap.get? b = some o) → Inv Y ((gp ++ pinsAt cw s₀.heap) ++ pl) σ' H s → ∀ b ∈ cw, H b = none := fun {s₀ s pl σ' H} h I b hb => by
    obtain ⟨o, e⟩ := h b hb
    exact (I.pin (b, o) (List.mem_append_right _ (List.mem_append_left _ (List.mem_append_right _ (mem_pinsAt hb e))))).2.1
  have nil : ∀ {l : List (Addr × Obj)} {σ' : L2.St} {H : Hp} {s : Shared}, Inv Y l σ' H s → Inv Y (l ++ []) σ' H s := fun {l σ' H s} I => by
    rw [List.append_nil]
    exact I
  intro m
  induction m using Nat.strongRecOn with
  | ind m ih =>
    intro n i ys s₀ s H hmn I hcw lk st nf w
    have fk := G.fpOk (s₀ := s₀) nf
    show Seg _ _ _ _ _ _ _ ((compTurn (gxE elt tg iter ifs scope pos) 0 (.ref it) .none Y.env).onRaise (leaving Y.env)) [] s
    rw [compTurn_gen elt tg iter ifs scope pos, Sem.onRaise_eq_wrap]
    refine seg_bind_wrap (wpAny_standAt (seg_bind_wrap ?_))
    rw [hA]
    rcases hW i m ys H w with ⟨stop, q⟩ | ⟨go, m0, Nx, hNx, step⟩
    · refine thnF (T.done Y rfl rfl rfl hc i _ s _ H _ I fk st stop) fun r s6 ⟨hr, I6⟩ => ?_
      subst hr
      exact seg_end (.ok .next) ⟨rfl, ys, _, H, I6.unpinned, kept_of (nil I6), cwn hcw (nil I6), hLk.st _ _ _ lk (kept_of (nil I6)), q⟩
    · refine thnF (T.item Y rfl rfl rfl hc i _ s _ H _ I fk st go) fun r s6 ⟨u, hr, h6⟩ => ?_
      subst hr
      refine seg_bind_wrap ?_
      rw [hA]
      refine thnF h6 fun _ s7 ⟨x, H7, I7, r7, y7, st7, n7⟩ => ?_
      have I7' := I7.pinned (G.fpOk n7) (T.obj _ _ st7)
      have kfp : ∀ {s' : Shared} {σ' : L2.St} {H' : Hp}, Inv Y ((gp ++ pinsAt cw s₀.heap) ++ pinsAt fp s7.heap) σ' H' s' → ∀ b ∈ fp, (∀ o, s7.heap.get? b = some o → s'.heap.get? b = some o) ∧ H' b = none := fun {s' σ' H'} I' b hb => by
        obtain ⟨o, e, _⟩ := T.obj _ _ st7 b hb
        obtain ⟨z1, z2, _⟩ := I'.pin (b, o) (List.mem_append_right _ (List.mem_append_right _ (mem_pinsAt hb e)))
        refine ⟨fun o' e' => ?_, z2⟩
        rw [e] at e'
        cases e'
        exact z1
      have exF : ∀ {e : Value} {s' : Shared} {Z : Prop}, Y.xe e s' → Z := fun {e s' Z} h => by
        rw [hx] at h
        exact False.elim h
      refine seg_bind_wrap ?_
      rw [hA]
      refine wpAny_mono (pg.run _ s7 _ H7 x u _ I7' r7 (step x H7 y7)) (fun _ s8 ⟨σ8, H8, I8, hw8, q8⟩ => ?_) fun _ _ h => exF h
      refine seg_bind_wrap ?_
      rw [hA]
      refine wpAny_mono (pt.run _ s8 σ8 H8 _ I8 q8) (fun b s9 ⟨H9, I9, q9⟩ => ?_) fun _ _ h => exF h
      have hl : (wipe σ vs).length = σ8.length := by rw [← hw8, wipe_length]
      have weak : ∀ {l : List (Addr × Obj)} {H' : Hp} {s' : Shared}, Inv Y l σ8 H' s' → Inv Y l (wipe σ vs) H' s' := fun {l H' s'} I' => I'.weak hl fun j v e => by
        rw [← hw8] at e
        exact (wipe_some e).1
      cases b with
      | false =>
        rw [if_neg Bool.false_ne_true] at q9
        obtain ⟨m', hm, w'⟩ := hNx _ _ q9
        simp only [Bool.false_eq_true, if_false]
        exact seg_again rfl (ih m' hm n (i + 1) ys s₀ s9 H9 (by omega) (weak I9.unpinned) hcw lk (T.keep _ _ _ st7 fun b hb => (kfp I9 b hb).1) (fun b hb => (kfp I9 b hb).2) w')
      | true =>
        rw [if_pos rfl] at q9
        simp only [if_true]
        have hy : ∀ v, yieldOut Y.env v = yieldValue v := fun v => by
          unfold yieldOut
          rw [hco]
          rfl
        simp only [hy]
        rw [Sem.bind_eq_wrap', Sem.bind_eq_wrap', Sem.wrap_wrap, Sem.wrap_wrap]
        refine seg_wrap ?_
        rw [hA]
        refine wpAny_mono (pe.run _ s9 σ8 H9 _ I9 q9) (fun v s10 ⟨y, H10, I10, r10, q10⟩ => ?_) fun _ _ h => exF h
        obtain ⟨n', rfl⟩ : ∃ n', n = n' + 1 := ⟨n - 1, by omega⟩
        have Ig : Inv Y gp σ8 H10 s10 := I10.pins_of fun p hp => I10.pin p (List.mem_append_right _ (List.mem_append_left _ (List.mem_append_left _ hp)))
        refine seg_at (seg_yield rfl rfl rfl ⟨ys, y, σ8, H10, Nx, Ig, r10, kept_of I10, cwn hcw I10, hLk.st _ _ _ lk (kept_of I10), q10, fun ys' hys s' hz lk' => ?_⟩)
        obtain ⟨m', hm, w'⟩ := hNx ys' H10 hys
        have nc := cwn hcw I10
        have Iz := G.doz Ig nc hz
        refine seg_again rfl (ih m' hm n' (i + 1) ys' s' s' H10 (by omega) (weak (G.pin Iz nc hz.there)) (fun b hb => let ⟨o, e, _⟩ := hz.there b hb; ⟨o, e⟩) lk' (T.keep _ _ _ st7 fun b hb o e => ?_) (fun b hb => (kfp I10 b hb).2) w')
        exact hz.keep b o (G.fx b hb).2.2.2.2.2 ((kfp I10 b hb).1 o e)
end
section
variable {Y : Cx} {Aw : Around} {elt tg iter : Expr} {ifs : List Expr} {scope : Scope} {pos : Pos} {it : Addr} {fp cw : List Addr} {gp : List (Addr × Obj)} {tn : Nat → Heap → Prop} {J : It} {g : TG} {tt : TT} {te : TE} {vs : List Nat} {σ : L2.St} {cy : Cy} {Qe : List V → Hp → Prop} {Lk : List V → Heap → Prop}
  {W : Nat → Nat → List V → Hp → Prop}
theorem gx_first (hA : Aw.over (.compLoop (gxE elt tg iter ifs scope pos) 0 (.ref it) .none Y.env) [] = Y.A) (hx : Y.xe = fun _ _ => False) (hco : Y.env.scope.isCoroutine = false) (hc : Y.calm = true)
    (T : Turn Y.prog Y.w Y.K tg J fp it tn) (pg : PG Y tg g) (pt : PTs Y ifs tt) (pe : PE Y elt te) (G : GPlace Y gp fp cw) (hLk : Lnk cw Lk) (hW : Turns J g tt te vs σ cy Qe W)
    {m : Nat} {s : Shared} {H : Hp} (I : Inv Y gp (wipe σ vs) H s) (nc : ∀ b ∈ cw, H b = none) (hcw : ∀ b ∈ cw, ∃ o, s.heap.get? b = some o ∧ ∀ v, o.data ≠ .cell v) (lk : Lk [] s.heap) (st : tn 0 s.heap) (nf : ∀ b ∈ fp, H b = none) (w : W 0 m [] H) :
    Seg (model Y.prog Y.w) Aw (GFin Y gp cw Lk Qe) (GYld Y gp cw Lk cy) m s (.compStart (gxE elt tg iter ifs scope pos) 0 (.ref it) .none Y.env) ((model Y.prog Y.w).den (.compStart (gxE elt tg iter ifs scope pos) 0 (.ref it) .none Y.env)) [] s := by
  have go := gx_loop (pos := pos) hA hx hco hc T pg pt pe G hLk hW m m 0 [] s s H (Nat.le_refl _) (G.pin I nc hcw) (fun b hb => let ⟨o, e, _⟩ := hcw b hb; ⟨o, e⟩) lk st nf w
  show Seg _ _ _ _ _ _ _ ((compStart (gxE elt tg iter ifs scope pos) 0 (.ref it) .none Y.env).onRaise (leaving Y.env)) [] s
  unfold compStart
  rw [Sem.onRaise_eq_wrap]
  show Seg _ _ _ _ _ _ _ ((ask >>= _).wrap _ _ _ _) [] s
  refine seg_bind_wrap (wpAny_askSetting ?_)
  split
  · exact seg_again rfl go
  · have last := T.self (Aw.over (.compStart (gxE elt tg iter ifs scope pos) 0 (.ref it) .none Y.env) []) 0 s
    first
      | exact seg_bind_wrap (wpAny_rule (seg_bind_wrap (wpAny_standAt (seg_bind_wrap (last _ _ st (seg_again rfl go))))))
      | (refine seg_bind_wrap (wpAny_rule ?_); show Seg _ _ _ _ _ _ _ ((standAt iter.pos >>= _).wrap _ _ _ _) [] s; exact seg_bind_wrap (wpAny_standAt (seg_bind_wrap (last _ _ st (seg_again rfl go)))))
end
/-- a generator that was made in X's code: what stood then, its frame's objects, its own object -/
structure GMk (X : Cx) (pins : List (Addr × Obj)) (σ : L2.St) (sg : Shared) (Hg : Hp) (fp : List Addr) (a g : Addr) (go : Obj) : Prop where
  inv : Inv X pins σ Hg sg
  fx : ∀ b ∈ fp, FpOk X pins Hg b
  isGen : ∀ h : Heap, h.get? a = some go → h.IsGen a g
/-- it sleeps; ys is out, at most n more come -/
structure GRun (Y : Cx) (cw : List Addr) (Lk : List V → Heap → Prop) (cy : Cy) (Qe : List V → Hp → Prop) (a g : Addr) (go : Obj) (Aw : Around) (n : Nat) (ys : List V) (s : Shared) : Prop where
  here : s.heap.get? a = some go
  lim : s.heap.NoLimit
  run : ∃ gs, s.gens[g]? = some gs ∧ ∀ s', Doz cw s s' → Lk ys s'.heap → gs.Goes (model Y.prog Y.w) Aw (GFin Y [(a, go)] cw Lk Qe) (GYld Y [(a, go)] cw Lk cy) n (.send .none) s'
theorem Doz.turn {cw : List Addr} {s s' s'' : Shared} (x : Doz cw s s') (y : Doz cw s' s'') : Doz cw s s'' :=
  ⟨y.os.trans x.os, y.bare, fun b o hb e => y.keep b o hb (x.keep b o hb e), y.there⟩
theorem GRun.doz {Y : Cx} {cw : List Addr} {Lk : List V → Heap → Prop} {cy : Cy} {Qe : List V → Hp → Prop} {a g : Addr} {go : Obj} {Aw : Around} {n : Nat} {ys : List V} {s s' : Shared} (R : GRun Y cw Lk cy Qe a g go Aw n ys s) (z : Doz cw s s') (ha : a ∉ cw) (hs : cStatics ∉ cw) (hg : s'.gens = s.gens) :
    GRun Y cw Lk cy Qe a g go Aw n ys s' := by
  obtain ⟨h1, ⟨mc, hn, hnn⟩, gs, h3, h4⟩ := R
  exact ⟨z.keep _ _ ha h1, ⟨mc, hn.at' fun o e => z.keep _ o hs e, hnn⟩, gs, by rw [hg]; exact h3, fun s2 y lk => h4 s2 (z.turn y) lk⟩
section
variable {X : Cx} {pins : List (Addr × Obj)} {σ : L2.St} {sg : Shared} {Hg : Hp} {fp cw : List Addr} {a g : Addr} {go : Obj} {A A1 : Around} {ce : Env} {cy : Cy} {Qe : List V → Hp → Prop} {Lk : List V → Heap → Prop} {s : Shared} {E : Value → Shared → Prop}
/-- back in the consumer's frame -/
theorem GMk.back (M : GMk X pins σ sg Hg fp a g go) {σ' : L2.St} {H : Hp} {s1 s' : Shared} (I : Inv (gcx X A1 sg Hg ce fp) [(a, go)] σ' H s1) (ho : s'.os = s1.os) (kp : ∀ b o, s1.heap.get? b = some o → s'.heap.get? b = some o) (hb : AllBare s'.gens) : Inv X pins σ H s' :=
  M.inv.call' (ch := fp) (ho.trans I.os) (I.base.trans (Un.kept kp)) (I.hok.kept kp) hb fun b hb => ⟨(M.fx b hb).2.2.2.1, (M.fx b hb).2.1, (M.fx b hb).2.2.2.2.1, (M.fx b hb).2.2.2.2.2⟩
/-- what next(generator) gives -/
def GNext (X : Cx) (pins : List (Addr × Obj)) (σ : L2.St) (Y : Cx) (cw : List Addr) (Lk : List V → Heap → Prop) (cy : Cy) (Qe : List V → Hp → Prop) (a g : Addr) (go : Obj) (A : Around) (n : Nat) (s : Shared) (r : Option Value) (s' : Shared) : Prop :=
  KeptAt cw s s' ∧ match r with
  | none => ∃ ys H, Inv X pins σ H s' ∧ (∀ b ∈ cw, H b = none) ∧ Lk ys s'.heap ∧ Qe ys H
  | some v => ∃ ys y H Nx, Inv X pins σ H s' ∧ RelV y v ∧ (∀ b ∈ cw, H b = none) ∧ Lk ys s'.heap ∧ cy ys y H Nx ∧ ∀ ys', Nx ys' H → ∀ s2, Doz cw s' s2 → Lk ys' s2.heap → s2.gens = s'.gens → ∃ n', n = n' + 1 ∧ GRun Y cw Lk cy Qe a g go A n' ys' s2
theorem gx_next (M : GMk X pins σ sg Hg fp a g go) (hLk : Lnk cw Lk) (ha : a ∉ cw) (hs : cStatics ∉ cw) {n : Nat} {ys : List V} (hh : A.handled = none) (hd : A.depth < recursionLimit) (R : GRun (gcx X A1 sg Hg ce fp) cw Lk cy Qe a g go A.in1 n ys s) (hb : AllBare s.gens) (hcw : ∀ b ∈ cw, ∃ o, s.heap.get? b = some o ∧ ∀ v, o.data ≠ .cell v)
    (lk : Lk ys s.heap) : wpAny (model X.prog X.w) A (pyNext (.ref a)) (GNext X pins σ (gcx X A1 sg Hg ce fp) cw Lk cy Qe a g go A.in1 n s) E s := by
  obtain ⟨h1, h2, gs, h3, h4⟩ := R
  have hgl : g < s.gens.size := (Array.getElem?_eq_some_iff.mp h3).1
  have z0 : Doz cw s (s.setGen g .running) := ⟨rfl, allBare_setGen hb rfl, fun _ _ _ e => e, hcw⟩
  refine GenW.wpAny_gsz (n := g + 1) hgl ?_
  refine wpAny_pyNext_genexpQ (P := fun _ s₀ s1 => ∃ (ys : List V) (σ' : L2.St) (H : Hp), Inv (gcx X A1 sg Hg ce fp) [(a, go)] σ' H s1 ∧ KeptAt cw s₀ s1 ∧ (∀ b ∈ cw, H b = none) ∧ Lk ys s1.heap ∧ Qe ys H)
    hh h2 hd (M.isGen _ h1) h3 (h4 _ z0 lk) (fun v s1 gs' hbare hv => ?_) fun s1 hp h' hk => ?_
  · obtain ⟨ys1, y, σ', H, Nx, I, r, kc, nc, lk1, q, wake⟩ := hv
    intro hsz
    have hsz1 : g < s1.gens.size := by
      rw [GenW.setGen_size] at hsz
      exact hsz
    refine ⟨kc, ys1, y, H, Nx, M.back I rfl (fun _ _ e => e) (allBare_setGen I.bare hbare), r, nc, lk1, q, fun ys' hN s2 z lk2 hgs => ?_⟩
    have w2 := wake ys' hN s2 ⟨z.os, z.bare, z.keep, z.there⟩ lk2
    cases n with
    | zero => exact w2.elim
    | succ n' =>
      have R1 : GRun (gcx X A1 sg Hg ce fp) cw Lk cy Qe a g go A.in1 n' ys' (s1.setGen g gs') :=
        ⟨(I.pin (a, go) (List.mem_append_right _ (List.mem_singleton.mpr rfl))).1, I.nolimit, gs', setGen_at hsz1, fun s2 z lk2 => wake ys' hN s2 ⟨z.os, z.bare, z.keep, z.there⟩ lk2⟩
      exact ⟨n', rfl, R1.doz z ha hs hgs⟩
  · obtain ⟨ys1, σ', H, I, kc, nc, lk1, q⟩ := hp
    intro _
    refine ⟨fun b hb o e => hk _ _ (kc b hb o e), ys1, H, M.back I rfl hk (allBare_setGen I.bare rfl), nc, hLk.st _ _ _ lk1 fun b _ o e => hk b o e, q⟩
end
theorem over_gx {A : Around} {elt tg iter : Expr} {ifs : List Expr} {scope : Scope} {pos : Pos} {it : Addr} {ce : Env} : A.over (.compLoop (gxE elt tg iter ifs scope pos) 0 (.ref it) .none ce) [] = A.deeper ce := by
  first
    | rfl
    | (obtain ⟨hd, d, fr, gs, u⟩ := A; simp [Around.over, Around.deeper, marksOver, frameCount, unitsOf, envsOf, guardsOf, pushEnvs, pushGuards, Code.envs, Code.env?, Code.isFrame, Code.guards, Code.isGuard, Code.weight, Code.frames, Code.isCreation, Code.isCaller, Code.cUnits])
/-- the generator has been made and has not begun; at most m items come -/
structure GReady (X : Cx) (pins : List (Addr × Obj)) (σ : L2.St) (m : Nat) (cy : Cy) (Qe : List V → Hp → Prop) (a : Addr) (s : Shared) : Prop where
  ex : ∃ (g : Addr) (go : Obj) (sg : Shared) (Hg : Hp) (fp : List Addr) (ce : Env), GMk X pins σ sg Hg fp a g go ∧ Inv X pins σ Hg s ∧ s.heap.get? a = some go ∧ s.heap.NoLimit ∧
    ∀ (cw : List Addr) (Lk : List V → Heap → Prop) (A : Around) (s2 : Shared), Lnk cw Lk → A.handled = none → A.frames = some X.stack → A.depth ≤ X.A.depth + 1 → A.units ≤ X.A.units + 8 → (∀ b ∈ cw, s.heap.objs.size ≤ b) →
      (∀ b o, s.heap.get? b = some o → s2.heap.get? b = some o) → (∀ b ∈ cw, ∃ o, s2.heap.get? b = some o ∧ ∀ v, o.data ≠ .cell v) → s2.os = s.os → s2.gens = s.gens → Lk [] s2.heap →
      GRun (gcx X (A.deeper ce) sg Hg ce fp) cw Lk cy Qe a g go A m [] s2
section
variable {X : Cx} {pins : List (Addr × Obj)} {σ : L2.St} {H : Hp} {s : Shared} {c P : Addr} {elt iter tg : Expr} {ifs : List Expr} {scope : Scope} {gpos : Pos} {own : List (Str × Nat)} {wi : TI} {g : TG} {tt : TT} {te : TE} {k : Nat} {cy : Cy} {Qe : List V → Hp → Prop}
theorem gx_make (hr : Room (k + 1) X.A) (TB : LamX.TabB X.base X.mg c P) (hcode : X.env.code = .ref c) (hco : scope.isCoroutine = false) (ok : BlkOk X.N X.env.scope scope own) (hN : X.N.Nodup) (nocell : ∀ y ∈ scope.names, y.2 ≠ .cell)
    (h0 : scope.names.lookup (".0" : Str) = some NameKind.local) (hi : PI X tg iter wi)
    (pg : ∀ (A : Around) (s : Shared) (H : Hp) (C : Addr) (cl : List (Str × Addr)) (code : Value) (bi : Addr) (fp : List Addr), Room k A → PG (gcx X A s H (genEnv scope cl C code bi X.env) fp) tg g)
    (pt : ∀ (A : Around) (s : Shared) (H : Hp) (C : Addr) (cl : List (Str × Addr)) (code : Value) (bi : Addr) (fp : List Addr), Room k A → PTs (gcx X A s H (genEnv scope cl C code bi X.env) fp) ifs tt)
    (pe : ∀ (A : Around) (s : Shared) (H : Hp) (C : Addr) (cl : List (Str × Addr)) (code : Value) (bi : Addr) (fp : List Addr), Room k A → PE (gcx X A s H (genEnv scope cl C code bi X.env) fp) elt te)
    (hs : ∀ v, genFold iter X.env v = pure v) (I : Inv X pins σ H s)
    (h : wi σ H fun J H1 => GxR.TabG H1 P ∧ ∀ H2, GxR.Tabbed P H1 H2 → ∃ W m, W 0 m [] H2 ∧ Turns J g tt te (own.map (·.2)) σ cy Qe W) :
    wpAny (model X.prog X.w) X.A (eval (gxE elt tg iter ifs scope gpos) X.env) (fun u s' => ∃ a m, u = .ref a ∧ GReady X pins σ m cy Qe a s') X.xe s := by
  have hfree : ∀ y ∈ scope.names, y.2 = .free → ∃ c, X.env.cells.lookup y.1 = some c := fun y hy e => (ok.free y hy e).elim (fun z => I.ok.has _ (.inl z)) (fun z => I.ok.has _ (.inr z))
  refine wpAny_GeneratorExp_make hco (closure_ok hfree) nocell h0 ok.kind (by have := hr.dp; omega) ?_ hs
  refine thn (hi.run pins s σ H _ I h) fun xv s1 hx => thn hx fun itv s2 h2 => ?_
  obtain ⟨it, fp, tn, J, H2, rfl, I2, T, st2, f2, ⟨ps, hP, ht⟩, q⟩ := h2
  refine ⟨I2.nolimit, ?_⟩
  have hPs : s2.heap.get? P = some { cls := .none, data := .fields ps } := I2.hok P _ hP
  have cd : PySem.W.CodeHd s2.heap c P := TB.code.keeps fun b u e => I2.bk b u e
  have sz : ∀ b ∈ fp, b < s2.heap.objs.size := fun b hb => by
    obtain ⟨o, e, _⟩ := T.obj _ _ st2 b hb
    exact Heap.lt_size e
  have nP : ∀ b ∈ fp, b ≠ P := fun b hb z => by
    have := (f2 b hb).1
    rw [z, hP] at this
    cases this
  have cont : ∀ (code : Value) (h3 : Heap) (tk : Nat) (more : Array Value), Heap.ExtBut P s2.heap h3 → s2.heap.objs.size ≤ h3.objs.size → h3.get? P = some { cls := .none, data := .fields (ps ++ more) } → TriplesOk (ps ++ more).toList →
      wpAny (model X.prog X.w) X.A (builtinsFor X.env.globals X.env.builtins) (fun bi s4 => ∀ h', h'.Ns s4.heap.objs.size (fun y => if y = ".0" then some (.ref it) else none) → Heap.SameBut s4.heap.objs.size (s4.heap.push { cls := .type "frame", data := .dict #[] }) h' →
        ∃ a m, Value.ref h'.objs.size = .ref a ∧ GReady X pins σ m cy Qe a { s4 with
            gens := s4.gens.push (.fresh (.compStart (gxE elt tg iter ifs scope gpos) 0 (.ref it) .none (genEnv scope (cloFrom X.env.cells scope.names []) s4.heap.objs.size code bi X.env))),
            toks := s4.toks + 1 + 1 + 1,
            heap := h'.push { cls := .type "generator", data := .fields #[.int s4.gens.size 0, .str "<genexpr>" (s4.toks + 1), .str (X.env.qual ++ "<genexpr>") (s4.toks + 1 + 1)] } }) X.xe { s2 with heap := h3, toks := tk } := by
    intro code h3 tk more hx3 hsz hP3 ht3
    have kp3 : ∀ b o, b ≠ P → s2.heap.get? b = some o → h3.get? b = some o := fun b o hb e => hx3 b o hb e
    have I3 : Inv X pins σ (upd H2 P (.tbl (ps ++ more))) { s2 with heap := h3, toks := tk } := GxR.inv_tab (g' := s2.gens) (d' := s2.drawn) (t' := tk) I2 hP kp3 hP3 I2.bare
    obtain ⟨W, m, w0, hW⟩ := q (upd H2 P (.tbl (ps ++ more))) ⟨⟨_, upd_same, ht3⟩, fun b hb => upd_ne hb⟩
    have f3 : ∀ b ∈ fp, FpOk X pins (upd H2 P (.tbl (ps ++ more))) b := fun b hb => ⟨by rw [upd_ne (nP b hb)]; exact (f2 b hb).1, (f2 b hb).2⟩
    have st3 : tn 0 h3 := T.keep _ _ _ st2 fun b hb o e => kp3 b o (nP b hb) e
    have sz3 : ∀ b ∈ fp, b < h3.objs.size := fun b hb => Nat.lt_of_lt_of_le (sz b hb) hsz
    obtain ⟨bm, ob, e1, e2, e3, e4, e5, e6, e7, e8⟩ := TB.bm
    refine wpAny_builtinsFor (m := X.mg) (by rw [I3.ok.glob]; exact I3.mod.glob.keeps I3.bk) e1 e2 (I3.bk _ _ e5) e6 e7 e8 ?_
    generalize upd H2 P (.tbl (ps ++ more)) = H3 at I3 w0 f3 hW
    generalize hs3 : ({ s2 with heap := h3, toks := tk } : Shared) = s3 at I3 ⊢
    have e3h : s3.heap = h3 := by rw [← hs3]
    rw [← e3h] at st3 sz3
    intro h' hn' hb'
    have hsz' : h'.objs.size = s3.heap.objs.size + 1 := by rw [hb'.1, Heap.size_push]
    have kp' : ∀ b o, s3.heap.get? b = some o → h'.get? b = some o := fun b o e => hb'.extBut b o (Nat.ne_of_lt (Heap.lt_size e)) (Heap.get?_push_of_some _ e)
    refine ⟨_, m, rfl, ?_⟩
    generalize hgo : ({ cls := .type "generator", data := .fields #[.int s3.gens.size 0, .str "<genexpr>" (s3.toks + 1), .str (X.env.qual ++ "<genexpr>") (s3.toks + 1 + 1)] } : Obj) = go
    have isg : ∀ h : Heap, h.get? h'.objs.size = some go → h.IsGen h'.objs.size s3.gens.size := fun h e => ⟨go, _, _, e, by rw [← hgo], by rw [← hgo], by rw [← hgo]⟩
    have gnc : ∀ v, go.data ≠ .cell v := fun v z => by
      rw [← hgo] at z
      cases z
    have nf : go.data ≠ .freed := fun z => by
      rw [← hgo] at z
      cases z
    have hat : (h'.push go).get? h'.objs.size = some go := by
      rw [← hgo]
      exact Heap.get?_push_size _ rfl
    generalize hce : genEnv scope (cloFrom X.env.cells scope.names []) s3.heap.objs.size code builtinsNs X.env = ce
    have ce1 : ce.scope = scope := by rw [← hce]; rfl
    have ce2 : ce.locals = s3.heap.objs.size := by rw [← hce]; rfl
    have ce3 : ce.globals = mainGlobals := by rw [← hce]; exact I3.ok.glob
    have ce4 : ce.builtins = builtinsNs := by rw [← hce]; rfl
    have ce5 : ce.cells = cloFrom X.env.cells scope.names [] := by rw [← hce]; rfl
    have ce6 : ce.frame = some ce.locals := by rw [← hce]; rfl
    generalize hs5 : ({ s3 with gens := s3.gens.push (.fresh (.compStart (gxE elt tg iter ifs scope gpos) 0 (.ref it) .none ce)), toks := s3.toks + 1 + 1 + 1, heap := h'.push go } : Shared) = s5
    have h5 : s5.heap = h'.push go := by rw [← hs5]
    have g5 : s5.gens = s3.gens.push (.fresh (.compStart (gxE elt tg iter ifs scope gpos) 0 (.ref it) .none ce)) := by rw [← hs5]
    have o5 : s5.os = s3.os := by rw [← hs5]
    have kp5 : ∀ b o, s3.heap.get? b = some o → s5.heap.get? b = some o := fun b o e => by rw [h5]; exact Heap.get?_push_of_some _ (kp' b o e)
    have b5 : AllBare s5.gens := by rw [g5]; exact I3.bare.push rfl
    have M : GMk X pins σ s3 H3 fp h'.objs.size s3.gens.size go := ⟨I3, f3, isg⟩
    have lim5 : s5.heap.NoLimit := I3.nolimit.keeps kp5
    have I5 : Inv X pins σ H3 s5 := I3.call' (ch := []) o5 (Un.kept kp5) (I3.hok.kept kp5) b5 fun b z => by simp at z
    have at5 : s5.heap.get? h'.objs.size = some go := by rw [h5]; exact hat
    have sz5 : s5.heap.objs.size = s3.heap.objs.size + 2 := by rw [h5, Heap.size_push, hsz']
    refine ⟨⟨s3.gens.size, go, s3, H3, fp, ce, M, I5, at5, lim5, fun cw Lk A s6 hLk hh hfr hdp hun hcw kp6 tc os6 gs6 lk => ?_⟩⟩
    have kp36 : ∀ b o, s3.heap.get? b = some o → s6.heap.get? b = some o := fun b o e => kp6 b o (kp5 b o e)
    have hrA : Room k (A.deeper ce) := by
      refine ⟨hh, ?_, ?_⟩
      · have := hr.dp
        show A.depth + 1 + 3 * k + 5 < _
        omega
      · have := hr.un
        show A.units + 3 + 16 * k + 200 < _
        omega
    have nsC : s6.heap.Ns ce.locals (fun y => if y = ".0" then some (.ref it) else none) := by
      rw [ce2]
      exact (hn'.push go).keeps fun b o e => kp6 b o (by rw [h5]; exact e)
    have b6 : AllBare s6.gens := by rw [gs6]; exact b5
    have I6 : Inv (gcx X (A.deeper ce) s3 H3 ce fp) [] (wipe σ (own.map (·.2))) H3 s6 :=
      gcx_start I3 ok hN nocell (fun b hb => ⟨f3 b hb, sz3 b hb⟩) ce1 ce2 ce3 ce4 ce5 ce6 (Around.frames_deeper hfr) hh kp36 nsC (os6.trans o5) b6
    have young : ∀ b, s3.heap.objs.size < b → H3 b = none ∧ b ≠ ce.locals ∧ b ∉ frs X.stack ∧ (∀ x c, ce.cells.lookup x = some c → c ≠ b) := fun b hb => by
      refine ⟨I3.hok.fresh (Nat.le_of_lt hb), by rw [ce2]; exact Nat.ne_of_gt hb, fun z => ?_, fun x d e z => ?_⟩
      · rcases List.mem_cons.mp (I3.stkSub b z) with z | z
        · exact absurd (Nat.lt_trans (by rw [z]; exact I3.lt) hb) (Nat.lt_irrefl _)
        · exact I3.nofs (Nat.le_of_lt hb) z
      · obtain ⟨v, zc⟩ := I6.cell x d e
        rw [ce5] at e
        obtain ⟨u, zd⟩ := I3.cell x d (clo_look hfree e).1
        have := zd.lt
        rw [z] at this
        exact absurd (Nat.lt_trans this hb) (Nat.lt_irrefl _)
    have ga : s3.heap.objs.size < h'.objs.size := by rw [hsz']; exact Nat.lt_succ_self _
    have I6' : Inv (gcx X (A.deeper ce) s3 H3 ce fp) [(h'.objs.size, go)] (wipe σ (own.map (·.2))) H3 s6 := I6.pins_of fun p hp => by
      rw [List.mem_singleton.mp hp]
      obtain ⟨y1, y2, y3, _⟩ := young _ ga
      exact ⟨kp6 _ _ at5, y1, y2, y3, gnc⟩
    have cwlt : ∀ b ∈ cw, s3.heap.objs.size < b ∧ b ≠ h'.objs.size := fun b hb => by
      have h1 : s3.heap.objs.size + 2 ≤ b := by rw [← sz5]; exact hcw b hb
      refine ⟨Nat.lt_of_lt_of_le (Nat.lt_succ_of_lt (Nat.lt_succ_self _)) h1, fun z => ?_⟩
      rw [z, hsz'] at h1
      exact absurd (Nat.lt_of_succ_le h1) (Nat.lt_irrefl _)
    have G : GPlace (gcx X (A.deeper ce) s3 H3 ce fp) [(h'.objs.size, go)] fp cw := by
      refine ⟨fun b hb => ⟨hb, (I6.ok.exf b hb).1, I6.ok.exfs b hb, fun x d e => (I6.ok.exf b hb).2 x d e, fun p hp => ?_, fun z => ?_⟩, fun b hb => ?_⟩
      · rw [List.mem_singleton.mp (show p ∈ [(h'.objs.size, go)] from hp)]
        exact fun z => absurd (Nat.lt_trans (sz3 b hb) (by rw [← z]; exact ga)) (Nat.lt_irrefl _)
      · exact absurd (Nat.lt_trans (sz3 b hb) (cwlt b z).1) (Nat.lt_irrefl _)
      · obtain ⟨y1, y2, y3, y4⟩ := young b (cwlt b hb).1
        refine ⟨Nat.le_of_lt (cwlt b hb).1, y2, y3, y4, fun p hp => ?_⟩
        rw [List.mem_singleton.mp (show p ∈ [(h'.objs.size, go)] from hp)]
        exact (cwlt b hb).2.symm
    have nc : ∀ b ∈ cw, H3 b = none := fun b hb => (young b (cwlt b hb).1).1
    refine ⟨kp6 _ _ at5, lim5.keeps kp6, .fresh (.compStart (gxE elt tg iter ifs scope gpos) 0 (.ref it) .none ce), by rw [gs6, g5]; exact Array.getElem?_push_size .., fun s7 z lk7 => ⟨rfl, ?_⟩⟩
    have I7 := G.doz I6' nc z
    have st7 : tn 0 s7.heap := T.keep _ _ _ st3 fun b hb o e => z.keep b o (fun hc => absurd (Nat.lt_trans (sz3 b hb) (cwlt b hc).1) (Nat.lt_irrefl _)) (kp36 b o e)
    have pg' := pg (A.deeper ce) s3 H3 s3.heap.objs.size (cloFrom X.env.cells scope.names []) code builtinsNs fp hrA
    have pt' := pt (A.deeper ce) s3 H3 s3.heap.objs.size (cloFrom X.env.cells scope.names []) code builtinsNs fp hrA
    have pe' := pe (A.deeper ce) s3 H3 s3.heap.objs.size (cloFrom X.env.cells scope.names []) code builtinsNs fp hrA
    rw [hce] at pg' pt' pe'
    exact gx_first (Y := gcx X (A.deeper ce) s3 H3 ce fp) over_gx rfl (by show ce.scope.isCoroutine = false; rw [ce1]; exact hco) rfl T pg' pt' pe' G hLk hW I7 nc z.there lk7 st7 (fun b hb => (f3 b hb).1) w0
  cases hf : codeAmong gpos ps.toList with
  | none =>
    refine wpAny_genexprCodeX hcode (cd.code hPs ht) (cd.tab hPs) hf fun c' h' tk hx hge hlt hco' _ htab' _ => ?_
    obtain ⟨o1, vs, f1, tf, fl, tg, inF, tx, tt, op, _, _, _, _, _, _, _, _, _, htr, _⟩ := hco'
    exact cont _ h' tk _ hx (Nat.le_trans hge (Nat.le_of_lt hlt)) htab'.2 htr
  | some cv =>
    refine wpAny_genexprCode_hit hcode (cd.code hPs ht) hf ?_
    exact cont cv s2.heap s2.toks #[] (Heap.ExtBut.refl _ _) (Nat.le_refl _) (by rw [Array.append_empty]; exact hPs) (by rw [Array.append_empty]; exact ht)
end
end GXP
namespace GXP
open PySem PySem.Spec PyProof.Rows L2
/-! the consumers -/
/-- the list that the consumer fills -/
abbrev tmpL (acc : Array Value) (c : Nat) : Obj := { cls := .type "list", dict := none, data := .seq acc c, slots := #[] }
def LkT (S : Addr) (ys : List V) (h : Heap) : Prop := ∃ acc c, h.get? S = some (tmpL acc c) ∧ Vals ys acc.toList ∧ ys.length ≤ sizeLine
theorem lnkT (S : Addr) : Lnk [S] (LkT S) := ⟨fun _ _ _ ⟨acc, c, e, r⟩ k => ⟨acc, c, k S (List.mem_singleton.mpr rfl) _ e, r⟩⟩
def cyT : Cy := fun ys y H Nx => ys.length < sizeLine ∧ Nx (ys ++ [y]) H
theorem lnkN : Lnk [] (fun _ _ => True) := ⟨fun _ _ _ _ _ => trivial⟩
/-- all, any: b0 ends it -/
def cyB (b0 : Bool) (Qf : Hp → Prop) : Cy := fun ys y H Nx => ∃ b, y = .bl b ∧ if b = b0 then Qf H else Nx (ys ++ [y]) H
def sumV : List V → Int
  | [] => 0
  | .int z :: r => z + sumV r
  | _ :: r => sumV r
theorem sumV_snoc : ∀ (ys : List V) (z : Int), sumV (ys ++ [.int z]) = sumV ys + z
  | [], z => by simp [sumV]
  | y :: r, z => by
    have ih := sumV_snoc r z
    cases y <;> simp only [List.cons_append, sumV, ih] <;> omega
def LkS (S : Addr) (ys : List V) (h : Heap) : Prop := ∃ t c, h.get? S = some (tmpL #[.int (sumV ys) t] c)
theorem lnkS (S : Addr) : Lnk [S] (LkS S) := ⟨fun _ _ _ ⟨t, c, e⟩ k => ⟨t, c, k S (List.mem_singleton.mpr rfl) _ e⟩⟩
def cyS : Cy := fun ys y H Nx => ∃ z, y = .int z ∧ InLong z ∧ InLong (sumV ys + z) ∧ Nx (ys ++ [y]) H
section
variable {X : Cx} {pins : List (Addr × Obj)} {σ : L2.St} {sg : Shared} {Hg : Hp} {fp : List Addr} {a g S : Addr} {go : Obj} {A A1 : Around} {ce : Env} {Qe : List V → Hp → Prop} {R : Result → Shared → Prop}
theorem gx_drain (M : GMk X pins σ sg Hg fp a g go) (hh : A.handled = none) (hd : A.depth < recursionLimit) (hSa : a ∉ [S]) (hSc : cStatics ∉ [S]) {res : Value}
    (fin : ∀ (s' : Shared) (ys : List V) (H : Hp) (acc : Array Value) (c : Nat), Inv X pins σ H s' → H S = none → s'.heap.get? S = some (tmpL acc c) → Vals ys acc.toList → ys.length ≤ sizeLine → Qe ys H → R (.ok (.ret res)) s') :
    ∀ (n : Nat) (ys : List V) (s : Shared), GRun (gcx X A1 sg Hg ce fp) [S] (LkT S) cyT Qe a g go A.in1.in1 n ys s → LkT S ys s.heap → AllBare s.gens → codeAny (model X.prog X.w) A (.builtin "list.extend.loop" ⟨[.ref S, .ref a, res], []⟩) R s := by
  have E0 := F.entry_extend_loop
  intro n
  induction n with
  | zero =>
    intro ys s G lk hb
    obtain ⟨acc, c, eS, r, hz⟩ := id lk
    refine codeAny_builtin E0 ?_
    rw [Around.under_plainId F.plain_extend_loop]
    refine wpAny_bind (thnF (gx_next M (lnkT S) hSa hSc (A := A.in1) hh hd G hb (fun b hb => ?_) lk) fun r s1 hN => ?_)
    · rw [List.mem_singleton.mp hb]
      exact ⟨_, eS, fun v z => by cases z⟩
    · obtain ⟨kc, hN⟩ := hN
      cases r with
      | none =>
        obtain ⟨ys1, H1, I1, n1, ⟨acc1, c1, e1, r1, z1⟩, q1⟩ := hN
        exact wpAny_pure (fin s1 ys1 H1 acc1 c1 I1 (n1 S (List.mem_singleton.mpr rfl)) e1 r1 z1 q1)
      | some v =>
        obtain ⟨ys1, y, H1, Nx, I1, ry, n1, ⟨acc1, c1, e1, r1, z1⟩, ⟨hlt, hN1⟩, wake⟩ := hN
        have hs : acc1.size < sizeLine := by
          have := r1.length
          simp only [Array.length_toList] at this
          omega
        show wpAny _ A.in1 (updateSeq S (·.push v) >>= _) _ _ _
        refine wpAny_bind (wpAny_updateSeq e1 rfl ?_ (Nat.le_of_lt hs) (by show (acc1.push v).size ≤ sizeLine + 1; rw [Array.size_push]; omega))
        have o1 := Heap.get?_update_self (Obj.mapSeq (·.push v)) e1 rfl
        refine (wake (ys1 ++ [y]) hN1 { s1 with heap := s1.heap.update S (Obj.mapSeq (·.push v)) } ⟨rfl, I1.bare, fun b o hb e => ?_, fun b hb => ?_⟩ ⟨_, _, o1, ?_, ?_⟩ rfl).elim (fun n' h => (Nat.succ_ne_zero n' h.1.symm).elim)
        · exact (Heap.get?_update_other _ _ (fun z => hb (List.mem_singleton.mpr z.symm))).trans e
        · rw [List.mem_singleton.mp hb]
          exact ⟨_, o1, fun v z => by cases z⟩
        · rw [Array.toList_push]
          exact r1.append (.cons ry .nil)
        · rw [List.length_append]
          exact hlt
  | succ n ih =>
    intro ys s G lk hb
    obtain ⟨acc, c, eS, r, hz⟩ := id lk
    refine codeAny_builtin E0 ?_
    rw [Around.under_plainId F.plain_extend_loop]
    refine wpAny_bind (thnF (gx_next M (lnkT S) hSa hSc (A := A.in1) hh hd G hb (fun b hb => ?_) lk) fun r s1 hN => ?_)
    · rw [List.mem_singleton.mp hb]
      exact ⟨_, eS, fun v z => by cases z⟩
    · obtain ⟨kc, hN⟩ := hN
      cases r with
      | none =>
        obtain ⟨ys1, H1, I1, n1, ⟨acc1, c1, e1, r1, z1⟩, q1⟩ := hN
        exact wpAny_pure (fin s1 ys1 H1 acc1 c1 I1 (n1 S (List.mem_singleton.mpr rfl)) e1 r1 z1 q1)
      | some v =>
        obtain ⟨ys1, y, H1, Nx, I1, ry, n1, ⟨acc1, c1, e1, r1, z1⟩, ⟨hlt, hN1⟩, wake⟩ := hN
        have hs : acc1.size < sizeLine := by
          have := r1.length
          simp only [Array.length_toList] at this
          omega
        show wpAny _ A.in1 (updateSeq S (·.push v) >>= _) _ _ _
        refine wpAny_bind (wpAny_updateSeq e1 rfl (wpAny_pure ⟨plainId_quiet F.plain_extend_loop _, ?_⟩) (Nat.le_of_lt hs) (by show (acc1.push v).size ≤ sizeLine + 1; rw [Array.size_push]; omega))
        have o1 := Heap.get?_update_self (Obj.mapSeq (·.push v)) e1 rfl
        have lk2 : LkT S (ys1 ++ [y]) (s1.heap.update S (Obj.mapSeq (·.push v))) := ⟨_, _, o1, by rw [Array.toList_push]; exact r1.append (.cons ry .nil), by rw [List.length_append]; exact hlt⟩
        obtain ⟨n', hn, G'⟩ := wake (ys1 ++ [y]) hN1 { s1 with heap := s1.heap.update S (Obj.mapSeq (·.push v)) } ⟨rfl, I1.bare, fun b o hb e => (Heap.get?_update_other _ _ (fun z => hb (List.mem_singleton.mpr z.symm))).trans e, fun b hb => by
          rw [List.mem_singleton.mp hb]
          exact ⟨_, o1, fun v z => by cases z⟩⟩ lk2 rfl
        cases hn
        exact ih (ys1 ++ [y]) _ G' lk2 I1.bare
end
end GXP
namespace GXP
open PySem PySem.Spec PyProof.Rows L2
section
variable {X : Cx} {pins : List (Addr × Obj)} {σ : L2.St} {sg : Shared} {Hg : Hp} {fp : List Addr} {a g S : Addr} {go : Obj} {A A1 : Around} {ce : Env} {Qe : List V → Hp → Prop} {Qf : Hp → Prop} {R : Result → Shared → Prop}
theorem gx_all (M : GMk X pins σ sg Hg fp a g go) (hh : A.handled = none) (hd : A.depth < recursionLimit)
    (fin : ∀ (s' : Shared) (H : Hp) (b : Bool), Inv X pins σ H s' → (b = true → ∃ ys, Qe ys H) → (b = false → Qf H) → R (.ok (.ret (.bool b))) s') :
    ∀ (n : Nat) (ys : List V) (s : Shared), GRun (gcx X A1 sg Hg ce fp) [] (fun _ _ => True) (cyB false Qf) Qe a g go A.in1.in1 n ys s → AllBare s.gens → codeAny (model X.prog X.w) A (.builtin "all.loop" ⟨[.ref a], []⟩) R s := by
  have E0 := F.entry_all_loop
  intro n
  induction n with
  | zero =>
    intro ys s G hb
    refine codeAny_builtin E0 ?_
    rw [Around.under_plainId F.plain_all_loop]
    refine wpAny_bind (thnF (gx_next M lnkN (by simp) (by simp) (A := A.in1) hh hd G hb (fun b hb => by cases hb) trivial) fun r s1 ⟨_, hN⟩ => ?_)
    cases r with
    | none =>
      obtain ⟨ys1, H1, I1, _, _, q1⟩ := hN
      exact wpAny_bind (wpAny_rule (wpAny_pure (fin s1 H1 true I1 (fun _ => ⟨ys1, q1⟩) (fun z => by cases z))))
    | some v =>
      obtain ⟨ys1, y, H1, Nx, I1, ry, _, _, ⟨b, rfl, q⟩, wake⟩ := hN
      cases ry
      refine wpAny_bind (wpAny_holding (wpAny_truthy_bool (wpAny_bind (wpAny_letGo ?_))))
      cases b with
      | true =>
        rw [if_neg (by decide)] at q
        obtain ⟨n', h, _⟩ := wake _ q s1 ⟨rfl, I1.bare, fun _ _ _ e => e, fun b hb => by cases hb⟩ trivial rfl
        cases h
      | false =>
        rw [if_pos rfl] at q
        exact wpAny_bind (wpAny_rule (wpAny_pure (fin s1 H1 false I1 (fun z => by cases z) (fun _ => q))))
  | succ n ih =>
    intro ys s G hb
    refine codeAny_builtin E0 ?_
    rw [Around.under_plainId F.plain_all_loop]
    refine wpAny_bind (thnF (gx_next M lnkN (by simp) (by simp) (A := A.in1) hh hd G hb (fun b hb => by cases hb) trivial) fun r s1 ⟨_, hN⟩ => ?_)
    cases r with
    | none =>
      obtain ⟨ys1, H1, I1, _, _, q1⟩ := hN
      exact wpAny_bind (wpAny_rule (wpAny_pure (fin s1 H1 true I1 (fun _ => ⟨ys1, q1⟩) (fun z => by cases z))))
    | some v =>
      obtain ⟨ys1, y, H1, Nx, I1, ry, _, _, ⟨b, rfl, q⟩, wake⟩ := hN
      cases ry
      refine wpAny_bind (wpAny_holding (wpAny_truthy_bool (wpAny_bind (wpAny_letGo ?_))))
      cases b with
      | true =>
        rw [if_neg (by decide)] at q
        obtain ⟨n', h, G'⟩ := wake _ q s1 ⟨rfl, I1.bare, fun _ _ _ e => e, fun b hb => by cases hb⟩ trivial rfl
        cases h
        exact wpAny_pure ⟨plainId_quiet F.plain_all_loop _, ih _ s1 G' I1.bare⟩
      | false =>
        rw [if_pos rfl] at q
        exact wpAny_bind (wpAny_rule (wpAny_pure (fin s1 H1 false I1 (fun z => by cases z) (fun _ => q))))
theorem gx_any (M : GMk X pins σ sg Hg fp a g go) (hh : A.handled = none) (hd : A.depth < recursionLimit)
    (fin : ∀ (s' : Shared) (H : Hp) (b : Bool), Inv X pins σ H s' → (b = false → ∃ ys, Qe ys H) → (b = true → Qf H) → R (.ok (.ret (.bool b))) s') :
    ∀ (n : Nat) (ys : List V) (s : Shared), GRun (gcx X A1 sg Hg ce fp) [] (fun _ _ => True) (cyB true Qf) Qe a g go A.in1.in1 n ys s → AllBare s.gens → codeAny (model X.prog X.w) A (.builtin "any.loop" ⟨[.ref a], []⟩) R s := by
  have E0 := F.entry_any_loop
  intro n
  induction n with
  | zero =>
    intro ys s G hb
    refine codeAny_builtin E0 ?_
    rw [Around.under_plainId F.plain_any_loop]
    refine wpAny_bind (thnF (gx_next M lnkN (by simp) (by simp) (A := A.in1) hh hd G hb (fun b hb => by cases hb) trivial) fun r s1 ⟨_, hN⟩ => ?_)
    cases r with
    | none =>
      obtain ⟨ys1, H1, I1, _, _, q1⟩ := hN
      exact wpAny_bind (wpAny_rule (wpAny_pure (fin s1 H1 false I1 (fun _ => ⟨ys1, q1⟩) (fun z => by cases z))))
    | some v =>
      obtain ⟨ys1, y, H1, Nx, I1, ry, _, _, ⟨b, rfl, q⟩, wake⟩ := hN
      cases ry
      refine wpAny_bind (wpAny_holding (wpAny_truthy_bool (wpAny_bind (wpAny_letGo ?_))))
      cases b with
      | false =>
        rw [if_neg (by decide)] at q
        obtain ⟨n', h, _⟩ := wake _ q s1 ⟨rfl, I1.bare, fun _ _ _ e => e, fun b hb => by cases hb⟩ trivial rfl
        cases h
      | true =>
        rw [if_pos rfl] at q
        exact wpAny_bind (wpAny_rule (wpAny_pure (fin s1 H1 true I1 (fun z => by cases z) (fun _ => q))))
  | succ n ih =>
    intro ys s G hb
    refine codeAny_builtin E0 ?_
    rw [Around.under_plainId F.plain_any_loop]
    refine wpAny_bind (thnF (gx_next M lnkN (by simp) (by simp) (A := A.in1) hh hd G hb (fun b hb => by cases hb) trivial) fun r s1 ⟨_, hN⟩ => ?_)
    cases r with
    | none =>
      obtain ⟨ys1, H1, I1, _, _, q1⟩ := hN
      exact wpAny_bind (wpAny_rule (wpAny_pure (fin s1 H1 false I1 (fun _ => ⟨ys1, q1⟩) (fun z => by cases z))))
    | some v =>
      obtain ⟨ys1, y, H1, Nx, I1, ry, _, _, ⟨b, rfl, q⟩, wake⟩ := hN
      cases ry
      refine wpAny_bind (wpAny_holding (wpAny_truthy_bool (wpAny_bind (wpAny_letGo ?_))))
      cases b with
      | false =>
        rw [if_neg (by decide)] at q
        obtain ⟨n', h, G'⟩ := wake _ q s1 ⟨rfl, I1.bare, fun _ _ _ e => e, fun b hb => by cases hb⟩ trivial rfl
        cases h
        exact wpAny_pure ⟨plainId_quiet F.plain_any_loop _, ih _ s1 G' I1.bare⟩
      | true =>
        rw [if_pos rfl] at q
        exact wpAny_bind (wpAny_rule (wpAny_pure (fin s1 H1 true I1 (fun z => by cases z) (fun _ => q))))
theorem gx_sum (M : GMk X pins σ sg Hg fp a g go) (hh : A.handled = none) (hd : A.depth < recursionLimit) (hSa : a ∉ [S]) (hSc : cStatics ∉ [S])
    (fin : ∀ (s' : Shared) (ys : List V) (H : Hp) (t : Tok), Inv X pins σ H s' → H S = none → Qe ys H → R (.ok (.ret (.int (sumV ys) t))) s') :
    ∀ (n : Nat) (ys : List V) (s : Shared), GRun (gcx X A1 sg Hg ce fp) [S] (LkS S) cyS Qe a g go A.in1.in1 n ys s → LkS S ys s.heap → AllBare s.gens → codeAny (model X.prog X.w) A (.builtin "sum.loop" ⟨[.ref a, .ref S, rawInt 0, rawInt 0], []⟩) R s := by
  have E0 := F.entry_sum_loop
  have cwt : ∀ {ys : List V} {s : Shared}, LkS S ys s.heap → ∀ b ∈ [S], ∃ o, s.heap.get? b = some o ∧ ∀ v, o.data ≠ .cell v := fun {ys s} lk b hb => by
    obtain ⟨t, c, e⟩ := lk
    rw [List.mem_singleton.mp hb]
    exact ⟨_, e, fun v z => by cases z⟩
  have turn : ∀ (n : Nat) (ys : List V) (s : Shared), GRun (gcx X A1 sg Hg ce fp) [S] (LkS S) cyS Qe a g go A.in1.in1 n ys s → LkS S ys s.heap → AllBare s.gens →
      (∀ ys2 s2, (∃ n', n = n' + 1 ∧ GRun (gcx X A1 sg Hg ce fp) [S] (LkS S) cyS Qe a g go A.in1.in1 n' ys2 s2) → LkS S ys2 s2.heap → AllBare s2.gens → codeAny (model X.prog X.w) A (.builtin "sum.loop" ⟨[.ref a, .ref S, rawInt 0, rawInt 0], []⟩) R s2) →
      codeAny (model X.prog X.w) A (.builtin "sum.loop" ⟨[.ref a, .ref S, rawInt 0, rawInt 0], []⟩) R s := by
    intro n ys s G lk hb next
    obtain ⟨t, c, eS⟩ := id lk
    refine codeAny_builtin E0 ?_
    rw [Around.under_plainId F.plain_sum_loop]
    show wpAny _ A.in1 (seqItems? (.ref S) >>= _) _ _ s
    refine wpAny_bind (wpAny_seqItems eS rfl ?_)
    show wpAny _ A.in1 (tryCatch (pyNext (.ref a)) _ >>= _) _ _ s
    refine wpAny_bind (wpAny_tryCatch (thnF (gx_next M (lnkS S) hSa hSc (A := A.in1) hh hd G hb (cwt lk) lk) fun r s1 ⟨kc, hN⟩ => ?_))
    have eS1 := kc S (List.mem_singleton.mpr rfl) _ eS
    cases r with
    | none =>
      obtain ⟨ys1, H1, I1, n1, ⟨t1, c1, e1⟩, q1⟩ := hN
      have hd1 := congrArg Obj.data (Option.some.inj (eS1.symm.trans e1))
      simp only [Data.seq.injEq, Array.mk.injEq, List.cons.injEq, Value.int.injEq, and_true] at hd1
      rw [hd1.1.1]
      exact wpAny_pure (fin s1 ys1 H1 _ I1 (n1 S (List.mem_singleton.mpr rfl)) q1)
    | some v =>
      obtain ⟨ys1, y, H1, Nx, I1, ry, n1, ⟨t1, c1, e1⟩, ⟨z, rfl, ⟨f1, f2⟩, ⟨f3, f4⟩, hN1⟩, wake⟩ := hN
      obtain ⟨tz, rfl⟩ := ry
      have hd1 := congrArg Obj.data (Option.some.inj (eS1.symm.trans e1))
      simp only [Data.seq.injEq, Array.mk.injEq, List.cons.injEq, Value.int.injEq, and_true] at hd1
      rw [hd1.1.1]
      have hc : ((decide (-(2 ^ 63) ≤ z) && decide (z < 2 ^ 63)) && (decide (-(2 ^ 63) ≤ sumV ys1 + z) && decide (sumV ys1 + z < 2 ^ 63))) = true := by
        simp only [Bool.and_eq_true, decide_eq_true_eq]
        exact ⟨⟨f1, f2⟩, f3, f4⟩
      show wpAny _ A.in1 (if (_ : Bool) = true then (mkInt (sumV ys1 + z) >>= _) else _) _ _ _
      split
      · refine wpAny_bind (wpAny_mkInt ?_)
        show wpAny _ A.in1 (updateSeq S (fun _ => #[.int (sumV ys1 + z) s1.toks]) >>= _) _ _ _
        have o1 := Heap.get?_update_self (Obj.mapSeq (fun _ => #[Value.int (sumV ys1 + z) s1.toks])) e1 rfl
        have lk2 : LkS S (ys1 ++ [.int z]) (s1.heap.update S (Obj.mapSeq (fun _ => #[Value.int (sumV ys1 + z) s1.toks]))) := ⟨s1.toks, _, by rw [sumV_snoc]; exact o1⟩
        refine wpAny_bind (wpAny_updateSeq e1 rfl (wpAny_pure ⟨plainId_quiet F.plain_sum_loop _, ?_⟩))
        refine next (ys1 ++ [.int z]) _ (wake _ hN1 { s1 with heap := s1.heap.update S (Obj.mapSeq (fun _ => #[Value.int (sumV ys1 + z) s1.toks])), toks := s1.toks + 1 } ⟨rfl, I1.bare, fun b o hb e => (Heap.get?_update_other _ _ (fun q => hb (List.mem_singleton.mpr q.symm))).trans e, cwt lk2⟩ lk2 rfl) lk2 I1.bare
      · rename_i hneg
        exact absurd hc hneg
  intro n
  induction n with
  | zero =>
    intro ys s G lk hb
    exact turn 0 ys s G lk hb fun ys2 s2 ⟨n', h, _⟩ => by cases h
  | succ n ih =>
    intro ys s G lk hb
    refine turn (n + 1) ys s G lk hb fun ys2 s2 ⟨n', h, G'⟩ lk2 hb2 => ?_
    cases h
    exact ih ys2 s2 G' lk2 hb2
end
end GXP
namespace GXP
open PySem PySem.Spec PyProof.Rows L2
section
variable {X : Cx} {pins : List (Addr × Obj)} {σ : L2.St} {a : Addr} {A : Around} {Qe : List V → Hp → Prop} {s : Shared} {m : Nat} {E : Value → Shared → Prop}
theorem gx_collect (hG : GReady X pins σ m cyT Qe a s) (hh : A.handled = none) (hf : A.frames = some X.stack) (hd : A.depth ≤ X.A.depth + 1) (hu : A.units + 2 ≤ X.A.units + 8) (hl : A.depth < recursionLimit) {Q : List Value → Shared → Prop}
    (hQ : ∀ (items : List Value) (s' : Shared) (ys : List V) (H : Hp), Inv X pins σ H s' → Vals ys items → ys.length ≤ sizeLine → Qe ys H → Q items s') : wpAny (model X.prog X.w) A (collect (.ref a)) Q E s := by
  obtain ⟨g, go, sg, Hg, fp, ce, M, I0, ha, lim, ready⟩ := hG.ex
  have hgen := fun (h : Heap) (e : h.get? a = some go) => M.isGen h e
  have hSa : s.heap.objs.size ≠ a := fun z => by
    have := Heap.lt_size ha
    rw [← z] at this
    exact Nat.lt_irrefl _ this
  have hSc : s.heap.objs.size ≠ cStatics := fun z => by
    obtain ⟨_, hn, _⟩ := lim
    have := hn.lt
    rw [← z] at this
    exact Nat.lt_irrefl _ this
  unfold collect
  refine wpAny_bind (wpAny_runValue (codeAny_builtin F.entry_proto_collect ?_))
  rw [Around.under_plainId F.plain_proto_collect]
  show wpAny _ A.in1 (newList [] >>= fun l => again (.builtin "list.__iadd__" ⟨[l, .ref a], []⟩)) _ _ s
  refine wpAny_bind (wpAny_newObj_type (wpAny_pure ⟨plainId_quiet F.plain_list_iadd _, codeAny_builtin F.entry_list_iadd ?_⟩))
  rw [Around.under_plainId F.plain_list_iadd]
  show wpAny _ A.in1 (Builtin.List.listExtendWith (.ref s.heap.objs.size) (.ref a) (.ref s.heap.objs.size)) _ _ _
  unfold Builtin.List.listExtendWith
  have k1 : ∀ b o, s.heap.get? b = some o → (s.heap.push { cls := .type "list", data := .seq ([] : List Value).toArray }).get? b = some o := fun b o e => Heap.get?_push_of_some _ e
  refine wpAny_bind (wpAny_typeOf (Heap.IsGen.typeIs (s := { s with heap := _ }) (hgen _ (k1 _ _ ha))) ?_)
  have q1 : Builtin.List.listSameRef (.ref s.heap.objs.size) (.ref a) = false := by simp [Builtin.List.listSameRef, hSa]
  have q2 : (Value.type "generator" == Value.type "list") = false := by decide
  have q3 : (Value.type "generator" == Value.type "tuple") = false := by decide
  simp only [q1, q2, q3, Bool.or_false, Bool.false_eq_true, if_false]
  refine wpAny_bind (wpAny_pyIter_gen (s := { s with heap := _ }) (hgen _ (k1 _ _ ha)) (wpAny_bind (wpAny_holding ?_)))
  unfold Builtin.List.listLengthHint
  refine wpAny_bind (wpAny_specialOf (Heap.IsGen.typeIs (s := { s with heap := _ }) (hgen _ (k1 _ _ ha))) F.gen_no_len ?_)
  show wpAny _ A.in1 (specialOf (Value.ref a) (Str.ofString "__length_hint__") >>= _) _ _ _
  refine wpAny_bind (wpAny_specialOf (Heap.IsGen.typeIs (s := { s with heap := _ }) (hgen _ (k1 _ _ ha))) F.gen_no_hint (wpAny_pure ?_))
  show wpAny _ A.in1 (rule "list.extend.makes-room" >>= fun _ => Builtin.List.listTouch (.ref s.heap.objs.size) >>= fun _ =>
    again (.builtin "list.extend.loop" ⟨[.ref s.heap.objs.size, .ref a, .ref s.heap.objs.size], []⟩)) _ _ _
  refine wpAny_bind (wpAny_rule (wpAny_bind ?_))
  have o1 : (s.heap.push { cls := .type "list", data := .seq ([] : List Value).toArray }).get? s.heap.objs.size = some { cls := .type "list", data := .seq ([] : List Value).toArray } := Heap.get?_push_size _ rfl
  show wpAny _ A.in1 (updateSeq s.heap.objs.size (·.push .none) >>= fun _ => updateSeq s.heap.objs.size (·.pop)) _ _ _
  refine wpAny_bind (wpAny_updateSeq o1 rfl ?_)
  have o2 := Heap.get?_update_self (Obj.mapSeq (·.push Value.none)) o1 rfl
  refine wpAny_updateSeq o2 rfl (wpAny_pure ⟨plainId_quiet F.plain_extend_loop _, ?_⟩)
  have o3 := Heap.get?_update_self (Obj.mapSeq (·.pop)) o2 rfl
  have k3 : ∀ b o, s.heap.get? b = some o → (((s.heap.push { cls := .type "list", data := .seq ([] : List Value).toArray }).update s.heap.objs.size (Obj.mapSeq (·.push Value.none))).update s.heap.objs.size (Obj.mapSeq (·.pop))).get? b = some o := fun b o e =>
    have hb : s.heap.objs.size ≠ b := fun z => Nat.lt_irrefl b (by have := Heap.lt_size e; rw [z] at this; exact this)
    (Heap.get?_update_other _ _ hb).trans ((Heap.get?_update_other _ _ hb).trans (k1 b o e))
  have lk0 : LkT s.heap.objs.size [] (((s.heap.push { cls := .type "list", data := .seq ([] : List Value).toArray }).update s.heap.objs.size (Obj.mapSeq (·.push Value.none))).update s.heap.objs.size (Obj.mapSeq (·.pop))) := ⟨_, _, o3, .nil, Nat.zero_le _⟩
  have G := ready [s.heap.objs.size] (LkT s.heap.objs.size) A.in1.in1 { s with heap := ((s.heap.push { cls := .type "list", data := .seq ([] : List Value).toArray }).update s.heap.objs.size (Obj.mapSeq (·.push Value.none))).update s.heap.objs.size (Obj.mapSeq (·.pop)) } (lnkT _) hh hf hd hu
    (fun b hb => by rw [List.mem_singleton.mp hb]; exact Nat.le_refl _) k3 (fun b hb => by rw [List.mem_singleton.mp hb]; exact ⟨_, o3, fun v z => by cases z⟩) rfl rfl lk0
  refine gx_drain M hh hl (fun hm => hSa (List.mem_singleton.mp hm).symm) (fun hm => hSc (List.mem_singleton.mp hm).symm) (fun s' ys H acc c I' n' e' r' z' q' => ?_) m [] _ G lk0 I0.bare
  show wpAny _ A (load s.heap.objs.size >>= _) _ _ s'
  exact wpAny_bind (wpAny_load e' (wpAny_pure (hQ acc.toList s' ys H I' r' z' q')))
theorem call_tuple_gx (hr : Room 1 X.A) (hf : X.A.frames = some X.stack) {Q : VK} (hG : GReady X pins σ m cyT (fun ys H => ∀ p, H p = none → Q (.ref p) (upd H p (.tup ys))) a s) :
    wpAny (model X.prog X.w) X.A (call (.type "tuple") [.ref a]) (EP X pins σ Q) E s := by
  obtain ⟨g, go, sg, Hg, fp, ce, M, I0, ha, lim, ready⟩ := id hG.ex
  have hTI : s.TypeIs (.ref a) "generator" := (M.isGen _ ha).typeIs
  refine callType_codes (Q₁ := fun obj s1 => s1.TypeIs obj "tuple" ∧ EP X pins σ Q obj s1) F.called_tuple (F.typeCall_tuple_1 _) F.entry_object_init (codeAny_of_tree ?_) fun obj s1 h1 =>
    ⟨h1.1, F.args_object_init_2 obj _, object_init_meets F.called_tuple.init.lookup F.called_tuple.made (by decide) X.prog X.w X.A.in1 _ s1 ⟨h1.1, rfl, h1.2⟩⟩
  show wpAny _ X.A.in1.in1 (do checkBuiltinCall "tuple.__new__" ⟨[.type "tuple", .ref a], []⟩; again (.builtin "tuple.__new__" ⟨[.type "tuple", .ref a], []⟩)) _ _ s
  refine wpAny_bind (wpAny_of_eq (F.newCall_tuple_1 _) (wpAny_pure ⟨plainId_quiet F.plain_tuple_new _, codeAny_builtin F.entry_tuple_new ?_⟩))
  rw [Around.under_plainId F.plain_tuple_new]
  have hsub := sub_tuple_self
  have hinit := init_tuple_lookup
  have hmh := madeHere_tuple
  have hr1 := hr.dp
  have hr2 := hr.hd
  have col := fun (Q : List Value → Shared → Prop) (E : Value → Shared → Prop) hQ => gx_collect (A := X.A.in1.in1) (E := E) (Q := Q) hG hr2 hf (Nat.le_succ _) (by show X.A.units + 1 + 1 + 2 ≤ _; omega) (by show X.A.depth < _; omega) hQ
  wp_walk using wpAny_typeOf hTI, col
  intro items s' ys H I' r' z' q'
  show wpAny _ _ (Builtin.Tuple.tupleExact items.toArray >>= fun v => ret v) _ _ _
  unfold Builtin.Tuple.tupleExact
  refine wpAny_bind (wpAny_newObj_type (wpAny_pure ?_) ?_)
  · have hn : H s'.heap.objs.size = none := I'.hok.fresh (Nat.le_refl _)
    refine ⟨⟨_, Heap.get?_push_size _ rfl, rfl⟩, .ref s'.heap.objs.size, _, I'.laid (t' := s'.toks) (o := .tup ys) (fun b o e => Heap.get?_push_of_some _ e) (Nat.le_refl _) ⟨z', items, r', ?_⟩, rfl, q' _ hn⟩
    exact ⟨_, Heap.get?_push_size _ rfl, rfl, 0, rfl⟩
  · show items.toArray.size ≤ sizeLine
    rw [List.size_toArray, ← r'.length]
    exact z'
theorem call_all_gx (hr : Room 1 X.A) (hf : X.A.frames = some X.stack) {Q : VK} (hG : GReady X pins σ m (cyB false (Q (.bl false))) (fun _ H => Q (.bl true) H) a s) :
    wpAny (model X.prog X.w) X.A (call (.builtin "all") [.ref a]) (EP X pins σ Q) E s := by
  obtain ⟨g, go, sg, Hg, fp, ce, M, I0, ha, lim, ready⟩ := id hG.ex
  have hr1 := hr.dp
  refine call_function_tree F.kind_all F.plain_all F.entry_all (F.args_all1 _) ?_
  unfold Builtin.«all»
  refine wpAny_bind (m := oneArg "all" _) (wpAny_pure (wpAny_bind (wpAny_pyIter_gen (M.isGen _ ha) (wpAny_pure ⟨plainId_quiet F.plain_all_loop _, ?_⟩))))
  have G := ready [] (fun _ _ => True) X.A.in1.in1 s lnkN hr.hd hf (Nat.le_succ _) (by show X.A.units + 1 + 1 ≤ _; omega) (fun b hb => by cases hb) (fun _ _ e => e) (fun b hb => by cases hb) rfl rfl trivial
  refine gx_all M hr.hd (by omega) (fun s' H b I' h1 h2 => ?_) m [] s G I0.bare
  cases b with
  | true =>
    obtain ⟨_, q⟩ := h1 rfl
    exact ⟨.bl true, H, I', rfl, q⟩
  | false => exact ⟨.bl false, H, I', rfl, h2 rfl⟩
theorem call_any_gx (hr : Room 1 X.A) (hf : X.A.frames = some X.stack) {Q : VK} (hG : GReady X pins σ m (cyB true (Q (.bl true))) (fun _ H => Q (.bl false) H) a s) :
    wpAny (model X.prog X.w) X.A (call (.builtin "any") [.ref a]) (EP X pins σ Q) E s := by
  obtain ⟨g, go, sg, Hg, fp, ce, M, I0, ha, lim, ready⟩ := id hG.ex
  have hr1 := hr.dp
  refine call_function_tree F.kind_any F.plain_any F.entry_any (F.args_any1 _) ?_
  unfold Builtin.«any»
  refine wpAny_bind (m := oneArg "any" _) (wpAny_pure (wpAny_bind (wpAny_pyIter_gen (M.isGen _ ha) (wpAny_pure ⟨plainId_quiet F.plain_any_loop _, ?_⟩))))
  have G := ready [] (fun _ _ => True) X.A.in1.in1 s lnkN hr.hd hf (Nat.le_succ _) (by show X.A.units + 1 + 1 ≤ _; omega) (fun b hb => by cases hb) (fun _ _ e => e) (fun b hb => by cases hb) rfl rfl trivial
  refine gx_any M hr.hd (by omega) (fun s' H b I' h1 h2 => ?_) m [] s G I0.bare
  cases b with
  | false =>
    obtain ⟨_, q⟩ := h1 rfl
    exact ⟨.bl false, H, I', rfl, q⟩
  | true => exact ⟨.bl true, H, I', rfl, h2 rfl⟩
theorem call_sum_gx (hr : Room 1 X.A) (hf : X.A.frames = some X.stack) {Q : VK} (hG : GReady X pins σ m cyS (fun ys H => Q (.int (sumV ys)) H) a s) :
    wpAny (model X.prog X.w) X.A (call (.builtin "sum") [.ref a]) (EP X pins σ Q) E s := by
  obtain ⟨g, go, sg, Hg, fp, ce, M, I0, ha, lim, ready⟩ := id hG.ex
  have hr1 := hr.dp
  have hSa : s.heap.objs.size ≠ a := fun z => by
    have := Heap.lt_size ha
    rw [← z] at this
    exact Nat.lt_irrefl _ this
  have hSc : s.heap.objs.size ≠ cStatics := fun z => by
    obtain ⟨_, hn, _⟩ := lim
    have := hn.lt
    rw [← z] at this
    exact Nat.lt_irrefl _ this
  refine call_function_tree F.kind_sum F.plain_sum F.entry_sum (F.args_sum1 _) ?_
  unfold Builtin.«sum»
  simp only [List.length_cons, List.length_nil]; rw [if_neg (by decide)]
  refine wpAny_bind (wpAny_of_eq (show Builtin.Builtins.bindParams "sum" ["start"] 0 { } = pure [none] from rfl) (wpAny_bind (wpAny_pyIter_gen (M.isGen _ ha) (wpAny_bind (wpAny_mkInt (wpAny_bind (wpAny_pure ?_)))))))
  simp only [List.forIn_cons, List.forIn_nil]; refine wpAny_bind (wpAny_bind (wpAny_bind (wpAny_isInstance (T := "int") (b := false) (typeIs_int _ _ _) PySem.sub_int_str ?_)))
  simp only [Bool.false_eq_true, if_false]; refine wpAny_pure (wpAny_bind (wpAny_bind (wpAny_isInstance (T := "int") (b := false) (typeIs_int _ _ _) sub_int_bytes ?_)))
  simp only [Bool.false_eq_true, if_false]; refine wpAny_pure (wpAny_bind (wpAny_bind (wpAny_isInstance (T := "int") (b := false) (typeIs_int _ _ _) sub_int_bytearray ?_)))
  simp only [Bool.false_eq_true, if_false]; refine wpAny_pure (wpAny_pure (wpAny_bind (wpAny_newObj_type (wpAny_pure ⟨plainId_quiet F.plain_sum_loop _, ?_⟩))))
  have o1 : (s.heap.push { cls := .type "list", data := .seq ([.int 0 s.toks] : List Value).toArray }).get? s.heap.objs.size = some { cls := .type "list", data := .seq ([.int 0 s.toks] : List Value).toArray } := Heap.get?_push_size _ rfl
  have lk0 : LkS s.heap.objs.size [] (s.heap.push { cls := .type "list", data := .seq ([.int 0 s.toks] : List Value).toArray }) := ⟨s.toks, 0, o1⟩
  have G := ready [s.heap.objs.size] (LkS s.heap.objs.size) X.A.in1.in1 { s with heap := s.heap.push { cls := .type "list", data := .seq ([.int 0 s.toks] : List Value).toArray }, toks := s.toks + 1 } (lnkS _) hr.hd hf (Nat.le_succ _) (by show X.A.units + 1 + 1 ≤ _; omega)
    (fun b hb => by rw [List.mem_singleton.mp hb]; exact Nat.le_refl _) (fun b o e => Heap.get?_push_of_some _ e) (fun b hb => by rw [List.mem_singleton.mp hb]; exact ⟨_, o1, fun v z => by cases z⟩) rfl rfl lk0
  refine gx_sum M hr.hd (by omega) (fun hm => hSa (List.mem_singleton.mp hm).symm) (fun hm => hSc (List.mem_singleton.mp hm).symm) (fun s' ys H t I' n' q' => ?_) m [] _ G lk0 I0.bare
  exact ⟨.int (sumV ys), H, I', ⟨t, rfl⟩, q'⟩
end
end GXP
namespace GXP
open PySem PySem.Spec PyProof.Rows L2
/-- F(elt for target in iter if ..): what its reading asks; P the table of the def's code object -/
def tGx (P : Addr) (wi : TI) (g : TG) (tt : TT) (te : TE) (vs : List Nat) (cy : VK → Cy) (Qe : VK → List V → Hp → Prop) : TE := fun σ H Q =>
  wi σ H fun J H1 => GxR.TabG H1 P ∧ ∀ H2, GxR.Tabbed P H1 H2 → ∃ W m, W 0 m [] H2 ∧ Turns J g tt te vs σ (cy Q) (Qe Q) W
section
variable {X : Cx} {c P : Addr} {elt iter tg : Expr} {ifs : List Expr} {scope : Scope} {p pos gpos : Pos} {own : List (Str × Nat)} {wi : TI} {g : TG} {tt : TT} {te : TE} {k : Nat}
/-- what is asked of the expression itself -/
structure GxOk (X : Cx) (k : Nat) (c P : Addr) (elt tg iter : Expr) (ifs : List Expr) (scope : Scope) (own : List (Str × Nat)) (wi : TI) (g : TG) (tt : TT) (te : TE) : Prop where
  hr : Room (k + 1) X.A
  hc : X.calm = true
  tb : LamX.TabB X.base X.mg c P
  code : X.env.code = .ref c
  co : scope.isCoroutine = false
  ok : BlkOk X.N X.env.scope scope own
  nd : X.N.Nodup
  nocell : ∀ y ∈ scope.names, y.2 ≠ .cell
  dot : scope.names.lookup (".0" : Str) = some NameKind.local
  pi : PI X tg iter wi
  pg : ∀ (A : Around) (s : Shared) (H : Hp) (C : Addr) (cl : List (Str × Addr)) (code : Value) (bi : Addr) (fp : List Addr), Room k A → PG (gcx X A s H (genEnv scope cl C code bi X.env) fp) tg g
  pt : ∀ (A : Around) (s : Shared) (H : Hp) (C : Addr) (cl : List (Str × Addr)) (code : Value) (bi : Addr) (fp : List Addr), Room k A → PTs (gcx X A s H (genEnv scope cl C code bi X.env) fp) ifs tt
  pe : ∀ (A : Around) (s : Shared) (H : Hp) (C : Addr) (cl : List (Str × Addr)) (code : Value) (bi : Addr) (fp : List Addr), Room k A → PE (gcx X A s H (genEnv scope cl C code bi X.env) fp) elt te
  fold : ∀ v, genFold iter X.env v = pure v
theorem GxOk.make (G : GxOk X k c P elt tg iter ifs scope own wi g tt te) {cy : Cy} {Qe : List V → Hp → Prop} {pins : List (Addr × Obj)} {s : Shared} {σ : L2.St} {H : Hp} (I : Inv X pins σ H s)
    (h : wi σ H fun J H1 => GxR.TabG H1 P ∧ ∀ H2, GxR.Tabbed P H1 H2 → ∃ W m, W 0 m [] H2 ∧ Turns J g tt te (own.map (·.2)) σ cy Qe W) :
    wpAny (model X.prog X.w) X.A (eval (gxE elt tg iter ifs scope gpos) X.env) (fun u s' => ∃ a m, u = .ref a ∧ GReady X pins σ m cy Qe a s') X.xe s :=
  gx_make G.hr G.tb G.code G.co G.ok G.nd G.nocell G.dot G.pi G.pg G.pt G.pe G.fold I h
theorem pe_tupleGx (hg : Gl X "tuple") (hm : X.mg "tuple" = none) (G : GxOk X k c P elt tg iter ifs scope own wi g tt te)
    (he : starEach [gxE elt tg iter ifs scope gpos] X.env = (false, eval (gxE elt tg iter ifs scope gpos) X.env) :: starEach [] X.env := by rfl) :
    PE X (.Call (.Name "tuple" p) [gxE elt tg iter ifs scope gpos] [] pos) (tGx P wi g tt te (own.map (·.2)) (fun _ => cyT) fun Q ys H => ∀ p, H p = none → Q (.ref p) (upd H p (.tup ys))) := by
  refine ⟨fun pins s σ H Q I h => ?_⟩
  refine wpAny_Call_Name_kw (ld_blt I hg hm (by decide +kernel : bootBuiltins "tuple" = some (.type "tuple")) (PyProof.Rows.callWith_type1 ?_ he (by rfl)))
  rw [he]
  show wpAny _ _ (spliced ((false, eval (gxE elt tg iter ifs scope gpos) X.env) :: backTo pos (starEach [] X.env))) _ _ s
  exact Calls.spliced_cons (thn (G.make I h) fun u s1 ⟨a, m, e, hG⟩ => e ▸ Calls.spliced_nil (call_tuple_gx (G.hr.mono (by omega)) I.ok.frames hG))
theorem pe_allGx (hg : Gl X "all") (hm : X.mg "all" = none) (G : GxOk X k c P elt tg iter ifs scope own wi g tt te)
    (he : starEach [gxE elt tg iter ifs scope gpos] X.env = (false, eval (gxE elt tg iter ifs scope gpos) X.env) :: starEach [] X.env := by rfl) :
    PE X (.Call (.Name "all" p) [gxE elt tg iter ifs scope gpos] [] pos) (tGx P wi g tt te (own.map (·.2)) (fun Q => cyB false (Q (.bl false))) fun Q _ H => Q (.bl true) H) := by
  refine ⟨fun pins s σ H Q I h => ?_⟩
  refine wpAny_Call_Name_kw (ld_blt I hg hm (by decide +kernel : bootBuiltins "all" = some (.builtin "all")) (PyProof.Rows.callWith_builtin1 ?_ he (by rfl)))
  rw [he]
  show wpAny _ _ (spliced ((false, eval (gxE elt tg iter ifs scope gpos) X.env) :: backTo pos (starEach [] X.env))) _ _ s
  exact Calls.spliced_cons (thn (G.make I h) fun u s1 ⟨a, m, e, hG⟩ => e ▸ Calls.spliced_nil (call_all_gx (G.hr.mono (by omega)) I.ok.frames hG))
theorem pe_anyGx (hg : Gl X "any") (hm : X.mg "any" = none) (G : GxOk X k c P elt tg iter ifs scope own wi g tt te)
    (he : starEach [gxE elt tg iter ifs scope gpos] X.env = (false, eval (gxE elt tg iter ifs scope gpos) X.env) :: starEach [] X.env := by rfl) :
    PE X (.Call (.Name "any" p) [gxE elt tg iter ifs scope gpos] [] pos) (tGx P wi g tt te (own.map (·.2)) (fun Q => cyB true (Q (.bl true))) fun Q _ H => Q (.bl false) H) := by
  refine ⟨fun pins s σ H Q I h => ?_⟩
  refine wpAny_Call_Name_kw (ld_blt I hg hm (by decide +kernel : bootBuiltins "any" = some (.builtin "any")) (PyProof.Rows.callWith_builtin1 ?_ he (by rfl)))
  rw [he]
  show wpAny _ _ (spliced ((false, eval (gxE elt tg iter ifs scope gpos) X.env) :: backTo pos (starEach [] X.env))) _ _ s
  exact Calls.spliced_cons (thn (G.make I h) fun u s1 ⟨a, m, e, hG⟩ => e ▸ Calls.spliced_nil (call_any_gx (G.hr.mono (by omega)) I.ok.frames hG))
theorem pe_sumGx (hg : Gl X "sum") (hm : X.mg "sum" = none) (G : GxOk X k c P elt tg iter ifs scope own wi g tt te)
    (he : starEach [gxE elt tg iter ifs scope gpos] X.env = (false, eval (gxE elt tg iter ifs scope gpos) X.env) :: starEach [] X.env := by rfl) :
    PE X (.Call (.Name "sum" p) [gxE elt tg iter ifs scope gpos] [] pos) (tGx P wi g tt te (own.map (·.2)) (fun _ => cyS) fun Q ys H => Q (.int (sumV ys)) H) := by
  refine ⟨fun pins s σ H Q I h => ?_⟩
  refine wpAny_Call_Name_kw (ld_blt I hg hm (by decide +kernel : bootBuiltins "sum" = some (.builtin "sum")) (PyProof.Rows.callWith_builtin1 ?_ he (by rfl)))
  rw [he]
  show wpAny _ _ (spliced ((false, eval (gxE elt tg iter ifs scope gpos) X.env) :: backTo pos (starEach [] X.env))) _ _ s
  exact Calls.spliced_cons (thn (G.make I h) fun u s1 ⟨a, m, e, hG⟩ => e ▸ Calls.spliced_nil (call_sum_gx (G.hr.mono (by omega)) I.ok.frames hG))
end
/-! readings over a list, a tuple, a range: an invariant by the turn, the items so far, the heap -/
section
variable {K : PySem.W.Frag} {a : Addr} {xs : List V} {g : TG} {tt : TT} {te : TE} {vs : List Nat} {σ : L2.St} {cy : Cy} {Qe : List V → Hp → Prop} {H0 : Hp}
theorem gx_tup (Pv : Nat → List V → Hp → Prop) (h0 : Pv 0 [] H0) (hl : ∀ i ys H, i ≤ xs.length → Pv i ys H → SqT K H a xs)
    (hs : ∀ i x ys H, xs[i]? = some x → Pv i ys H → g x (wipe σ vs) H fun σ2 H2 => wipe σ2 vs = wipe σ vs ∧ tt σ2 H2 fun b H3 => if b = true then te σ2 H3 fun y H4 => cy ys y H4 (Pv (i + 1)) else Pv (i + 1) ys H3)
    (hd : ∀ ys H, Pv xs.length ys H → Qe ys H) : ∃ W m, W 0 m [] H0 ∧ Turns (Itt K a) g tt te vs σ cy Qe W := by
  refine ⟨fun i m ys H => m = xs.length - i ∧ i ≤ xs.length ∧ Pv i ys H, xs.length, ⟨rfl, Nat.zero_le _, h0⟩, ?_⟩
  rintro i m ys H ⟨rfl, hi, p⟩
  have q := hl i ys H hi p
  by_cases hlt : i < xs.length
  · refine .inr ⟨⟨xs, _, q, List.getElem?_eq_getElem hlt⟩, by omega, Pv (i + 1), fun ys' H' p' => ⟨_, by omega, rfl, hlt, p'⟩, fun x H' y => ?_⟩
    obtain ⟨rfl, y⟩ := y
    exact hs i x ys _ (y xs q) p
  · have e : i = xs.length := by omega
    subst e
    exact .inl ⟨⟨xs, q, Nat.le_refl _⟩, hd ys H p⟩
theorem gx_list (Pv : Nat → List V → Hp → Prop) (h0 : Pv 0 [] H0) (hl : ∀ i ys H, i ≤ xs.length → Pv i ys H → SqL K H a xs)
    (hs : ∀ i x ys H, xs[i]? = some x → Pv i ys H → g x (wipe σ vs) H fun σ2 H2 => wipe σ2 vs = wipe σ vs ∧ tt σ2 H2 fun b H3 => if b = true then te σ2 H3 fun y H4 => cy ys y H4 (Pv (i + 1)) else Pv (i + 1) ys H3)
    (hd : ∀ ys H, Pv xs.length ys H → Qe ys H) : ∃ W m, W 0 m [] H0 ∧ Turns (Itl K a) g tt te vs σ cy Qe W := by
  refine ⟨fun i m ys H => m = xs.length - i ∧ i ≤ xs.length ∧ Pv i ys H, xs.length, ⟨rfl, Nat.zero_le _, h0⟩, ?_⟩
  rintro i m ys H ⟨rfl, hi, p⟩
  have q := hl i ys H hi p
  by_cases hlt : i < xs.length
  · refine .inr ⟨⟨xs, _, q, List.getElem?_eq_getElem hlt⟩, by omega, Pv (i + 1), fun ys' H' p' => ⟨_, by omega, rfl, hlt, p'⟩, fun x H' y => ?_⟩
    obtain ⟨rfl, y⟩ := y
    exact hs i x ys _ (y xs q) p
  · have e : i = xs.length := by omega
    subst e
    exact .inl ⟨⟨xs, q, Nat.le_refl _⟩, hd ys H p⟩
theorem gx_range {lo : Int} {n : Nat} (Pv : Nat → List V → Hp → Prop) (h0 : Pv 0 [] H0)
    (hs : ∀ i ys H, i < n → Pv i ys H → g (.int (lo + i)) (wipe σ vs) H fun σ2 H2 => wipe σ2 vs = wipe σ vs ∧ tt σ2 H2 fun b H3 => if b = true then te σ2 H3 fun y H4 => cy ys y H4 (Pv (i + 1)) else Pv (i + 1) ys H3)
    (hd : ∀ ys H, Pv n ys H → Qe ys H) : ∃ W m, W 0 m [] H0 ∧ Turns (Itr lo n) g tt te vs σ cy Qe W := by
  refine ⟨fun i m ys H => m = n - i ∧ i ≤ n ∧ Pv i ys H, n, ⟨rfl, Nat.zero_le _, h0⟩, ?_⟩
  rintro i m ys H ⟨rfl, hi, p⟩
  by_cases hlt : i < n
  · refine .inr ⟨hlt, by omega, Pv (i + 1), fun ys' H' p' => ⟨_, by omega, rfl, hlt, p'⟩, fun x H' y => ?_⟩
    obtain ⟨rfl, rfl⟩ := y
    exact hs i ys _ hlt p
  · have e : i = n := by omega
    subst e
    exact .inl ⟨Nat.le_refl _, hd ys H p⟩
end
end GXP
/-! ### sorted(d) of a dict whose keys are pairs of ints, any number of them -/
namespace SDT
open PySem PySem.Spec PyProof.Rows L2
def keyAt (H : Hp) (b : Addr) : Int × Int := match H b with
  | some (.tup [.int i, .int j]) => (i, j)
  | _ => (0, 0)
def keyOf (H : Hp) (v : Value) : Int × Int := match v with
  | .ref b => keyAt H b
  | _ => (0, 0)
theorem keyAt_of {H : Hp} {b : Addr} {i j : Int} (e : H b = some (.tup [.int i, .int j])) : keyAt H b = (i, j) := by
  unfold keyAt
  rw [e]
def pairKey (k : Int × Int) : List Key := [Sum.inl k.1, Sum.inl k.2]
/-- b holds the pair k -/
abbrev PairAt (H : Hp) (k : Int × Int) (b : Addr) : Prop := H b = some (.tup [.int k.1, .int k.2])
def rSortedDT : List V → Hp → VK → Prop := fun vs H Q => ∃ (d : Addr) (kvs : List (List Key × V)) (ks : List (Int × Int)), vs = [V.ref d] ∧ Rd H d (.dT kvs) ∧ kvs.map (·.1) = ks.map pairKey ∧
  ∀ (ys : List (Int × Int)) (bs : List Addr) (p : Addr), ys.Perm ks → ys.Pairwise (fun x y => SrtO.lexB y x = false) → Paired (PairAt H) ys bs → H p = none → Q (.ref p) (upd H p (.lst (bs.map V.ref)))
theorem paired_keys {H : Hp} : ∀ {kvs : List (List Key × V)} {xs : List (List Key × Addr × Value)} {ks : List (Int × Int)}, KT H kvs xs → kvs.map (·.1) = ks.map pairKey → (∀ x ∈ xs, ∃ k : Int × Int, PairAt H k x.2.1) ∧ xs.map (fun x => keyAt H x.2.1) = ks
  | _, _, [], .nil, _ => ⟨fun x m => absurd m List.not_mem_nil, rfl⟩
  | _, _, _ :: _, .nil, e => by cases e
  | _, _, [], .cons _ _, e => by cases e
  | _, _, k :: ks, .cons h t, e => by
    obtain ⟨e1, e2⟩ := List.cons.inj e
    obtain ⟨h1, h2, _⟩ := h
    dsimp only at e1
    rw [e1] at h2
    have q : PairAt H k _ := h2
    obtain ⟨r1, r2⟩ := paired_keys t e2
    refine ⟨fun x m => ?_, ?_⟩
    · rcases List.mem_cons.mp m with rfl | m
      · exact ⟨k, q⟩
      · exact r1 x m
    · rw [List.map_cons, keyAt_of q, r2]
theorem paired_of {H : Hp} : ∀ {bs : List Addr}, (∀ b ∈ bs, ∃ k : Int × Int, PairAt H k b) → Paired (PairAt H) (bs.map (keyAt H)) bs
  | [], _ => .nil
  | b :: bs, h => by
    refine .cons ?_ (paired_of fun x m => h x (List.mem_cons_of_mem _ m))
    obtain ⟨k, e⟩ := h b List.mem_cons_self
    rw [keyAt_of e]
    exact e
theorem refs_of : ∀ {us : List Value}, (∀ u ∈ us, ∃ a, u = Value.ref a) → ∃ bs : List Addr, us = bs.map Value.ref
  | [], _ => ⟨[], rfl⟩
  | u :: us, h => by
    obtain ⟨bs, e⟩ := refs_of (us := us) fun x m => h x (List.mem_cons_of_mem _ m)
    obtain ⟨a, e2⟩ := h u List.mem_cons_self
    exact ⟨a :: bs, by rw [e, e2]; rfl⟩
section
variable {X : Cx}
theorem cr_sortedDT (hc : X.calm = true) : CallR X (.builtin "sorted") rSortedDT := by
  intro pins s σ H xs us Q I r h
  obtain ⟨d, kvs, ks, rfl, hd, hks, q⟩ := h
  obtain ⟨u, rfl, rx⟩ := vals1 r
  cases rx
  obtain ⟨z, hs, ps, pr, o, es, ep, ho, hx, hdt, he, hn⟩ := (show ObjOk X.prog X.w H s.heap d (.dT kvs) from hd.ok I.hok)
  have l1 : es.size = ps.length := size_of_entries he
  have l2 : kvs.length = ps.length := Paired.length pr
  obtain ⟨pk, ek⟩ := paired_keys pr hks
  refine Calls.call_function_entry PyProof.Rows.kind_sorted PyProof.Rows.plain_sorted PyProof.Rows.entry_sorted (PyProof.Rows.args_sorted1 _) ?_
  unfold Builtin.«sorted»
  refine wpAny_bind (m := checkCount "sorted" 1 1 _) (wpAny_pure ?_)
  refine wpAny_bind (PySem.W.kdu_collect (A := X.A.in1) (kdl_raw hs hx hdt) (I.ok.hd hc) ho (by omega) fun h' tk acc hk it => ?_)
  have ea : acc.toList = ps.map fun x => Value.ref x.2.1 := by
    have hl : acc.toList.length = ps.length := by rw [Array.length_toList, it.1]; exact l1
    apply List.ext_getElem?
    intro j
    rw [List.getElem?_map]
    cases hj : acc.toList[j]? with
    | none =>
      have h1 := List.getElem?_eq_none_iff.mp hj
      rw [List.getElem?_eq_none (by omega)]
      all_goals rfl
    | some v =>
      obtain ⟨en, hen, hv⟩ := it.2 j v (by rw [← Array.getElem?_toList]; exact hj)
      have qe := entry_at he j
      rw [hen] at qe
      cases hb : ps[j]? with
      | none =>
        rw [hb] at qe
        exact nomatch (show some en = none from qe)
      | some b =>
        rw [hb] at qe
        have e2 : en = entryOfKey (tupleKind (mixKind X.prog X.w)) b := Option.some.inj qe
        rw [hv, e2]
        all_goals rfl
  have hal : acc.toList.length = ps.length := by rw [ea, List.length_map]
  have I1 : Inv X pins σ H { s with heap := h', toks := tk } := I.kept hk
  refine wpAny_bind (wpAny_newList ?_ (by rw [hal]; omega))
  have hoL : (h'.push (seqObj "list" acc.toList.toArray 0)).get? h'.objs.size = some (seqObj "list" acc.toList.toArray 0) := Heap.get?_push_size _ rfl
  show wpAny _ _ _ _ _ { s with heap := h'.push (seqObj "list" acc.toList.toArray 0), toks := tk }
  have pair : ∀ v ∈ acc.toList, Srt.IsPair (h'.push (seqObj "list" acc.toList.toArray 0)) v (keyOf H v).1 (keyOf H v).2 := fun v m => by
    rw [ea] at m
    obtain ⟨x, hm, rfl⟩ := List.mem_map.mp m
    obtain ⟨k, hk2⟩ := pk x hm
    obtain ⟨_, its2, r2, o2, ho2, hc2, n2, hd2⟩ := I1.hok _ _ hk2
    obtain ⟨u1, u2, rfl, ri, rj⟩ := vals2 r2
    obtain ⟨t1, rfl⟩ := ri
    obtain ⟨t2, rfl⟩ := rj
    have e : keyOf H (Value.ref x.2.1) = k := keyAt_of hk2
    rw [e]
    exact ⟨x.2.1, o2, t1, t2, n2, rfl, Heap.get?_push_of_some _ ho2, hc2, hd2⟩
  refine wpAny_bind (wpAny_holding (wpAny_call_entry PyProof.Rows.slot_list_sort ⟨_, hoL, rfl⟩ PyProof.Rows.entry_list_sort
    (SrtO.list_sort_ord (s := { s with heap := h'.push (seqObj "list" acc.toList.toArray 0), toks := tk }) (SrtO.swo_lex (keyOf H)) hoL (by rw [hal]; omega)
      (fun h2 => SrtO.pairs_sortableO (by omega) pair fun o1 e c => ?_) fun out h1 h2 => ⟨_, rfl, ?_⟩)
    (PyProof.Rows.args_list_sort _)))
  · have e' : some o1 = some (seqObj "list" acc.toList.toArray 0) := e.symm.trans hoL
    cases e'
    exact absurd (Value.type.inj c) (by decide)
  obtain ⟨e', he'⟩ := PyProof.Rows.sortedHeap_at (vs := acc.toList) (out := out.toArray) hoL
  have hm : ∀ u ∈ out, ∃ x ∈ ps, u = Value.ref x.2.1 := fun u hu => by
    have := h2.perm.mem_iff.mp hu
    rw [ea] at this
    obtain ⟨x, hx, e⟩ := List.mem_map.mp this
    exact ⟨x, hx, e.symm⟩
  obtain ⟨bs, rfl⟩ := refs_of (us := out) fun u hu => by
    obtain ⟨x, _, e⟩ := hm u hu
    exact ⟨_, e⟩
  have hb : ∀ b ∈ bs, ∃ k : Int × Int, PairAt H k b := fun b hb => by
    obtain ⟨x, hx, e⟩ := hm _ (List.mem_map.mpr ⟨b, hb, rfl⟩)
    cases e
    exact pk x hx
  have ev : (bs.map Value.ref).map (keyOf H) = bs.map (keyAt H) := by
    rw [List.map_map]
    rfl
  have hp : (bs.map (keyAt H)).Perm ks := by
    have := h2.perm.map (keyOf H)
    rw [ev, ea, List.map_map] at this
    rw [← ek]
    exact this
  have hsr : (bs.map (keyAt H)).Pairwise fun x y => SrtO.lexB y x = false := by
    rw [← ev]
    exact SrtO.srtd_map (f := keyOf H) (lt := SrtO.lexB) h1
  have hlen : (bs.map V.ref).length ≤ sizeLine := by
    have := h2.perm.length_eq
    rw [List.length_map] at this
    rw [List.length_map]
    omega
  refine wpAny_pure ⟨_, rfl, .ref h'.objs.size, upd H h'.objs.size (.lst (bs.map V.ref)), I1.laid (t' := tk) (fun b u e => ?_) (Nat.le_refl _)
    (show ObjOk X.prog X.w _ _ _ (.lst (bs.map V.ref)) from ⟨hlen, bs.map Value.ref, e', vals_refs bs, he'⟩), rfl, q _ bs _ hp hsr (paired_of hb) (I1.hok.fresh (Nat.le_refl _))⟩
  have hb : b < h'.objs.size := Heap.lt_size e
  rw [PyProof.Rows.sortedHeap_old (Nat.ne_of_lt hb) (by rw [size_push']; exact Nat.lt_succ_of_lt hb)]
  exact Heap.get?_push_of_some _ e
end
end SDT
namespace PM
/-- terms: the pair of exponents and the coefficient -/
abbrev Ex := Int × Int
abbrev Trm := Ex × Int
def ltE (p q : Ex) : Prop := p.1 < q.1 ∨ (p.1 = q.1 ∧ p.2 < q.2)
instance (p q : Ex) : Decidable (ltE p q) := by
  unfold ltE
  exact inferInstance
theorem ltE_trans {p q r : Ex} (h : ltE p q) (k : ltE q r) : ltE p r := by
  unfold ltE at *
  omega
theorem ltE_irr {p : Ex} : ¬ ltE p p := by
  unfold ltE
  omega
theorem ltE_ne {p q : Ex} (h : ltE p q) : p ≠ q := fun e => by
  subst e
  exact ltE_irr h
theorem ltE_or {p q : Ex} (h : ¬ ltE p q) (k : p ≠ q) : ltE q p := by
  unfold ltE at *
  have k : ¬ (p.1 = q.1 ∧ p.2 = q.2) := fun z => k (Prod.ext z.1 z.2)
  omega
/-- the value of a list of terms under a weighing of the exponents -/
def lin (f : Ex → Int) : List Trm → Int
  | [] => 0
  | t :: r => t.2 * f t.1 + lin f r
def Eqv (p q : List Trm) : Prop := ∀ f, lin f p = lin f q
theorem Eqv.refl (p : List Trm) : Eqv p p := fun _ => rfl
theorem Eqv.symm {p q : List Trm} (h : Eqv p q) : Eqv q p := fun f => (h f).symm
theorem Eqv.trans {p q r : List Trm} (h : Eqv p q) (k : Eqv q r) : Eqv p r := fun f => (h f).trans (k f)
theorem lin_append (f : Ex → Int) : ∀ p q : List Trm, lin f (p ++ q) = lin f p + lin f q
  | [], q => by simp [lin]
  | t :: r, q => by
    simp only [List.cons_append, lin, lin_append f r q]
    omega
theorem Eqv.append {p p' q q' : List Trm} (h : Eqv p p') (k : Eqv q q') : Eqv (p ++ q) (p' ++ q') := fun f => by
  rw [lin_append, lin_append, h f, k f]
theorem Eqv.perm {p q : List Trm} (h : p.Perm q) : Eqv p q := fun f => by
  induction h with
  | nil => rfl
  | cons x _ ih => simp only [lin, ih]
  | swap x y l =>
    simp only [lin]
    omega
  | trans _ _ a b => exact a.trans b
/-- strictly ascending, no coefficient 0 -/
def Canon (p : List Trm) : Prop := p.Pairwise (fun s t => ltE s.1 t.1) ∧ ∀ t ∈ p, t.2 ≠ 0
theorem lin_zero {f : Ex → Int} : ∀ {p : List Trm}, (∀ t ∈ p, f t.1 = 0) → lin f p = 0
  | [], _ => rfl
  | t :: r, h => by
    rw [lin, h t List.mem_cons_self, lin_zero (p := r) fun s hs => h s (List.mem_cons_of_mem _ hs)]
    simp
theorem canon_uniq : ∀ {p q : List Trm}, Canon p → Canon q → Eqv p q → p = q
  | [], [], _, _, _ => rfl
  | [], t :: r, _, hq, h => by
    exfalso
    have e := h fun x => if x = t.1 then 1 else 0
    have z : lin (fun x => if x = t.1 then (1 : Int) else 0) r = 0 := lin_zero fun s hs => if_neg (ltE_ne ((List.pairwise_cons.mp hq.1).1 s hs)).symm
    simp only [lin, z, if_pos] at e
    exact hq.2 t List.mem_cons_self (by omega)
  | t :: r, [], hp, _, h => by
    exfalso
    have e := h fun x => if x = t.1 then 1 else 0
    have z : lin (fun x => if x = t.1 then (1 : Int) else 0) r = 0 := lin_zero fun s hs => if_neg (ltE_ne ((List.pairwise_cons.mp hp.1).1 s hs)).symm
    simp only [lin, z, if_pos] at e
    exact hp.2 t List.mem_cons_self (by omega)
  | t :: r, u :: w, hp, hq, h => by
    have p1 := List.pairwise_cons.mp hp.1
    have q1 := List.pairwise_cons.mp hq.1
    have key : t.1 = u.1 := by
      by_cases e : t.1 = u.1
      · exact e
      · exfalso
        by_cases l : ltE t.1 u.1
        · have z1 : lin (fun x => if x = t.1 then (1 : Int) else 0) r = 0 := lin_zero fun s hs => if_neg (ltE_ne (p1.1 s hs)).symm
          have z2 : lin (fun x => if x = t.1 then (1 : Int) else 0) (u :: w) = 0 := lin_zero fun s hs => by
            refine if_neg (Ne.symm ?_)
            rcases List.mem_cons.mp hs with rfl | hs
            · exact e
            · exact ltE_ne (ltE_trans l (q1.1 s hs))
          have e2 := h fun x => if x = t.1 then 1 else 0
          rw [z2] at e2
          simp only [lin, z1, if_pos] at e2
          exact hp.2 t List.mem_cons_self (by omega)
        · have l := ltE_or l e
          have z1 : lin (fun x => if x = u.1 then (1 : Int) else 0) w = 0 := lin_zero fun s hs => if_neg (ltE_ne (q1.1 s hs)).symm
          have z2 : lin (fun x => if x = u.1 then (1 : Int) else 0) (t :: r) = 0 := lin_zero fun s hs => by
            refine if_neg (Ne.symm ?_)
            rcases List.mem_cons.mp hs with rfl | hs
            · exact Ne.symm e
            · exact ltE_ne (ltE_trans l (p1.1 s hs))
          have e2 := h fun x => if x = u.1 then 1 else 0
          rw [z2] at e2
          simp only [lin, z1, if_pos] at e2
          exact hq.2 u List.mem_cons_self (by omega)
    have z1 : lin (fun x => if x = t.1 then (1 : Int) else 0) r = 0 := lin_zero fun s hs => if_neg (ltE_ne (p1.1 s hs)).symm
    have z2 : lin (fun x => if x = t.1 then (1 : Int) else 0) w = 0 := lin_zero fun s hs => if_neg (by rw [key]; exact (ltE_ne (q1.1 s hs)).symm)
    have e2 := h fun x => if x = t.1 then 1 else 0
    simp only [lin, z1, z2] at e2
    simp only [if_true, if_pos key.symm] at e2
    have ec : t.2 = u.2 := by omega
    have et : t = u := Prod.ext key ec
    have er : Eqv r w := fun f => by
      have e3 := h f
      simp only [lin, et] at e3
      omega
    rw [et, canon_uniq ⟨p1.2, fun s hs => hp.2 s (List.mem_cons_of_mem _ hs)⟩ ⟨q1.2, fun s hs => hq.2 s (List.mem_cons_of_mem _ hs)⟩ er]
/-- a term put into a list in order -/
def ins (t : Trm) : List Trm → List Trm
  | [] => if t.2 = 0 then [] else [t]
  | u :: r => if ltE t.1 u.1 then (if t.2 = 0 then u :: r else t :: u :: r) else if t.1 = u.1 then (if t.2 + u.2 = 0 then r else (t.1, t.2 + u.2) :: r) else u :: ins t r
def canon (ts : List Trm) : List Trm := ts.foldr ins []
theorem lin_ins (f : Ex → Int) (t : Trm) : ∀ p : List Trm, lin f (ins t p) = t.2 * f t.1 + lin f p
  | [] => by
    unfold ins
    split
    · rename_i h
      rw [h]
      simp [lin]
    · simp [lin]
  | u :: r => by
    unfold ins
    split
    · split
      · rename_i h
        rw [h]
        simp
      · simp [lin]
    · split
      · rename_i e
        split
        · rename_i h
          simp only [lin]
          rw [← e]
          have : t.2 * f t.1 + u.2 * f t.1 = 0 := by
            rw [← Int.add_mul, h, Int.zero_mul]
          omega
        · simp only [lin]
          rw [← e, Int.add_mul]
          omega
      · simp only [lin, lin_ins f t r]
        omega
theorem eqv_canon (ts : List Trm) : Eqv (canon ts) ts := fun f => by
  induction ts with
  | nil => rfl
  | cons t r ih =>
    show lin f (ins t (canon r)) = _
    rw [lin_ins, ih]
    rfl
theorem mem_ins {t s : Trm} : ∀ {p : List Trm}, s ∈ ins t p → s.1 = t.1 ∨ s ∈ p
  | [], h => by
    unfold ins at h
    split at h
    · cases h
    · rw [List.mem_singleton] at h
      exact .inl (by rw [h])
  | u :: r, h => by
    unfold ins at h
    split at h
    · split at h
      · exact .inr h
      · rcases List.mem_cons.mp h with h | h
        · exact .inl (by rw [h])
        · exact .inr h
    · split at h
      · split at h
        · exact .inr (List.mem_cons_of_mem _ h)
        · rcases List.mem_cons.mp h with h | h
          · exact .inl (by rw [h])
          · exact .inr (List.mem_cons_of_mem _ h)
      · rcases List.mem_cons.mp h with h | h
        · exact .inr (h ▸ List.mem_cons_self)
        · rcases mem_ins h with h | h
          · exact .inl h
          · exact .inr (List.mem_cons_of_mem _ h)
theorem canon_ins {t : Trm} : ∀ {p : List Trm}, Canon p → Canon (ins t p)
  | [], _ => by
    unfold ins
    split
    · exact ⟨List.Pairwise.nil, fun s hs => by cases hs⟩
    · rename_i h
      exact ⟨List.pairwise_singleton _ _, fun s hs => by
        rw [List.mem_singleton] at hs
        rw [hs]
        exact h⟩
  | u :: r, hp => by
    have p1 := List.pairwise_cons.mp hp.1
    have tl : Canon r := ⟨p1.2, fun s hs => hp.2 s (List.mem_cons_of_mem _ hs)⟩
    unfold ins
    split
    · rename_i l
      split
      · exact hp
      · rename_i h
        refine ⟨List.pairwise_cons.mpr ⟨fun s hs => ?_, hp.1⟩, fun s hs => ?_⟩
        · rcases List.mem_cons.mp hs with rfl | hs
          · exact l
          · exact ltE_trans l (p1.1 s hs)
        · rcases List.mem_cons.mp hs with rfl | hs
          · exact h
          · exact hp.2 s hs
    · rename_i l
      split
      · rename_i e
        split
        · exact tl
        · rename_i h
          refine ⟨List.pairwise_cons.mpr ⟨fun s hs => ?_, p1.2⟩, fun s hs => ?_⟩
          · show ltE t.1 s.1
            rw [e]
            exact p1.1 s hs
          · rcases List.mem_cons.mp hs with rfl | hs
            · exact h
            · exact hp.2 s (List.mem_cons_of_mem _ hs)
      · rename_i e
        have ih := canon_ins (t := t) tl
        refine ⟨List.pairwise_cons.mpr ⟨fun s hs => ?_, ih.1⟩, fun s hs => ?_⟩
        · rcases mem_ins hs with h | h
          · rw [h]
            exact ltE_or l e
          · exact p1.1 s h
        · rcases List.mem_cons.mp hs with rfl | hs
          · exact hp.2 s List.mem_cons_self
          · exact ih.2 s hs
theorem canon_canon (ts : List Trm) : Canon (canon ts) := by
  induction ts with
  | nil => exact ⟨List.Pairwise.nil, fun s hs => by cases hs⟩
  | cons t r ih => exact canon_ins ih
theorem canon_of {p ts : List Trm} (h : Canon p) (e : Eqv p ts) : p = canon ts := canon_uniq h (canon_canon ts) (e.trans (eqv_canon ts).symm)
theorem canon_congr {p q : List Trm} (h : Eqv p q) : canon p = canon q := canon_uniq (canon_canon p) (canon_canon q) ((eqv_canon p).trans (h.trans (eqv_canon q).symm))
theorem canon_self {p : List Trm} (h : Canon p) : canon p = p := (canon_of h (Eqv.refl p)).symm
/-! products -/
def addE (p q : Ex) : Ex := (p.1 + q.1, p.2 + q.2)
def mulT (p q : List Trm) : List Trm := p.flatMap fun x => q.map fun y => (addE x.1 y.1, x.2 * y.2)
theorem lin_scale (f : Ex → Int) (x : Trm) : ∀ q : List Trm, lin f (q.map fun y => (addE x.1 y.1, x.2 * y.2)) = x.2 * lin (fun y => f (addE x.1 y)) q
  | [] => by simp [lin]
  | y :: r => by
    simp only [List.map_cons, lin, lin_scale f x r]
    rw [Int.mul_add, Int.mul_assoc]
theorem lin_mul (f : Ex → Int) (q : List Trm) : ∀ p : List Trm, lin f (mulT p q) = lin (fun x => lin (fun y => f (addE x y)) q) p
  | [] => rfl
  | x :: r => by
    show lin f ((q.map fun y => (addE x.1 y.1, x.2 * y.2)) ++ mulT r q) = _
    rw [lin_append, lin_scale, lin_mul f q r]
    rfl
theorem lin_congr {f g : Ex → Int} (h : ∀ x, f x = g x) (p : List Trm) : lin f p = lin g p := by
  rw [show f = g from funext h]
theorem lin_add (f g : Ex → Int) : ∀ p : List Trm, lin (fun x => f x + g x) p = lin f p + lin g p
  | [] => by simp [lin]
  | t :: r => by
    simp only [lin, lin_add f g r]
    rw [Int.mul_add]
    omega
theorem lin_smul (c : Int) (f : Ex → Int) : ∀ p : List Trm, lin (fun x => c * f x) p = c * lin f p
  | [] => by simp [lin]
  | t :: r => by
    simp only [lin, lin_smul c f r]
    rw [Int.mul_add, Int.mul_left_comm]
theorem lin_const0 : ∀ p : List Trm, lin (fun _ => 0) p = 0
  | [] => rfl
  | t :: r => by simp [lin, lin_const0 r]
theorem lin_swap (g : Ex → Ex → Int) (q : List Trm) : ∀ p : List Trm, lin (fun x => lin (fun y => g x y) q) p = lin (fun y => lin (fun x => g x y) p) q
  | [] => by simp only [lin, lin_const0]
  | t :: r => by
    simp only [lin]
    rw [lin_swap g q r, lin_add, lin_smul]
theorem Eqv.mul {p p' q q' : List Trm} (h : Eqv p p') (k : Eqv q q') : Eqv (mulT p q) (mulT p' q') := fun f => by
  rw [lin_mul, lin_mul, h, lin_congr fun x => k _]
theorem mul_comm (p q : List Trm) : Eqv (mulT p q) (mulT q p) := fun f => by
  rw [lin_mul, lin_mul, lin_swap]
  refine lin_congr (fun y => lin_congr (fun x => ?_) _) _
  unfold addE
  rw [Int.add_comm, Int.add_comm x.2]
theorem mul_assoc (p q r : List Trm) : Eqv (mulT (mulT p q) r) (mulT p (mulT q r)) := fun f => by
  rw [lin_mul, lin_mul, lin_mul]
  refine lin_congr (fun x => ?_) _
  rw [lin_mul]
  refine lin_congr (fun y => lin_congr (fun z => ?_) _) _
  unfold addE
  simp only [Int.add_assoc]
def one : List Trm := [((0, 0), 1)]
theorem one_mul (p : List Trm) : Eqv (mulT one p) p := fun f => by
  rw [lin_mul]
  show (1 : Int) * lin _ p + 0 = _
  rw [Int.one_mul, Int.add_zero]
  refine lin_congr (fun y => ?_) _
  unfold addE
  simp
/-- powers -/
def pw (p : List Trm) : Nat → List Trm
  | 0 => one
  | n + 1 => mulT (pw p n) p
theorem pw_add (p : List Trm) (i : Nat) : ∀ j, Eqv (mulT (pw p i) (pw p j)) (pw p (i + j))
  | 0 => (mul_comm _ _).trans (one_mul _)
  | j + 1 => (mul_assoc _ _ _).symm.trans (Eqv.mul (pw_add p i j) (Eqv.refl p))
theorem pw_congr {p q : List Trm} (h : Eqv p q) : ∀ n, Eqv (pw p n) (pw q n)
  | 0 => Eqv.refl _
  | n + 1 => Eqv.mul (pw_congr h n) h
/-! the size of coefficients -/
def norm : List Trm → Nat
  | [] => 0
  | t :: r => t.2.natAbs + norm r
theorem norm_append : ∀ p q : List Trm, norm (p ++ q) = norm p + norm q
  | [], q => by simp [norm]
  | t :: r, q => by
    simp only [List.cons_append, norm, norm_append r q]
    omega
theorem norm_ins (t : Trm) : ∀ p : List Trm, norm (ins t p) ≤ t.2.natAbs + norm p
  | [] => by
    unfold ins
    split <;> simp [norm]
  | u :: r => by
    unfold ins
    split
    · split <;> simp [norm]
    · split
      · split
        · simp only [norm]
          omega
        · simp only [norm]
          omega
      · have := norm_ins t r
        simp only [norm]
        omega
theorem norm_canon : ∀ ts : List Trm, norm (canon ts) ≤ norm ts
  | [] => Nat.le_refl _
  | t :: r => by
    show norm (ins t (canon r)) ≤ _
    have h1 := norm_ins t (canon r)
    have h2 := norm_canon r
    simp only [norm]
    omega
theorem norm_scale (x : Trm) : ∀ q : List Trm, norm (q.map fun y => (addE x.1 y.1, x.2 * y.2)) = x.2.natAbs * norm q
  | [] => by simp [norm]
  | y :: r => by
    simp only [List.map_cons, norm, norm_scale x r]
    rw [Nat.mul_add, Int.natAbs_mul]
theorem norm_mul (q : List Trm) : ∀ p : List Trm, norm (mulT p q) = norm p * norm q
  | [] => by simp [norm, mulT]
  | x :: r => by
    show norm ((q.map fun y => (addE x.1 y.1, x.2 * y.2)) ++ mulT r q) = _
    rw [norm_append, norm_scale, norm_mul q r]
    simp only [norm]
    rw [Nat.add_mul]
theorem norm_mem {t : Trm} : ∀ {p : List Trm}, t ∈ p → t.2.natAbs ≤ norm p
  | u :: r, h => by
    rcases List.mem_cons.mp h with rfl | h
    · simp only [norm]
      omega
    · have := norm_mem h
      simp only [norm]
      omega
theorem length_canon_le : ∀ ts : List Trm, (canon ts).length ≤ ts.length
  | [] => Nat.le_refl _
  | t :: r => by
    have h : ∀ p : List Trm, (ins t p).length ≤ p.length + 1 := by
      intro p
      induction p with
      | nil =>
        unfold ins
        split <;> simp
      | cons u w ih =>
        unfold ins
        split
        · split <;> simp
        · split
          · split <;> simp <;> omega
          · simp only [List.length_cons]
            omega
    have h2 := length_canon_le r
    have h3 := h (canon r)
    show (ins t (canon r)).length ≤ _
    simp only [List.length_cons]
    omega
theorem length_mul (p q : List Trm) : (mulT p q).length = p.length * q.length := by
  induction p with
  | nil => simp [mulT]
  | cons x r ih =>
    show ((q.map fun y => (addE x.1 y.1, x.2 * y.2)) ++ mulT r q).length = _
    rw [List.length_append, List.length_map, ih, List.length_cons, Nat.add_mul]
    omega
/-! a dict that gathers: pairs in the order in which they came, no key twice -/
def look (d : List Trm) (k : Ex) : Int := match d.find? (fun p => decide (p.1 = k)) with
  | some p => p.2
  | none => 0
def put (d : List Trm) (k : Ex) (v : Int) : List Trm := if d.any (fun p => decide (p.1 = k)) then d.map (fun p => if p.1 = k then (p.1, v) else p) else d ++ [(k, v)]
def addTo (d : List Trm) (t : Trm) : List Trm := put d t.1 (look d t.1 + t.2)
def gather (ts : List Trm) : List Trm := ts.foldl addTo []
def keys (d : List Trm) : List Ex := d.map (·.1)
theorem keys_put (d : List Trm) (k : Ex) (v : Int) : keys (put d k v) = if k ∈ keys d then keys d else keys d ++ [k] := by
  have h : (d.any fun p => decide (p.1 = k)) = true ↔ k ∈ keys d := by
    rw [List.any_eq_true]
    unfold keys
    constructor
    · rintro ⟨p, hp, e⟩
      exact List.mem_map.mpr ⟨p, hp, of_decide_eq_true e⟩
    · intro h
      obtain ⟨p, hp, e⟩ := List.mem_map.mp h
      exact ⟨p, hp, decide_eq_true e⟩
  unfold put
  by_cases hk : k ∈ keys d
  · rw [if_pos (h.mpr hk), if_pos hk]
    unfold keys
    rw [List.map_map]
    refine List.map_congr_left fun p _ => ?_
    show (if p.1 = k then (p.1, v) else p).1 = p.1
    split <;> rfl
  · rw [if_neg (fun z => hk (h.mp z)), if_neg hk]
    unfold keys
    rw [List.map_append]
    rfl
theorem nodup_put {d : List Trm} (h : (keys d).Nodup) (k : Ex) (v : Int) : (keys (put d k v)).Nodup := by
  rw [keys_put]
  split
  · exact h
  · rename_i hk
    rw [List.nodup_append]
    refine ⟨h, List.pairwise_singleton _ _, fun a ha b hb => ?_⟩
    rw [List.mem_singleton] at hb
    rw [hb]
    exact fun e => hk (e ▸ ha)
theorem look_none {d : List Trm} {k : Ex} (h : k ∉ keys d) : look d k = 0 := by
  unfold look
  rw [List.find?_eq_none.mpr]
  intro p hp e
  exact h (List.mem_map.mpr ⟨p, hp, of_decide_eq_true e⟩)
theorem look_cons (p : Trm) (d : List Trm) (k : Ex) : look (p :: d) k = if p.1 = k then p.2 else look d k := by
  unfold look
  rw [List.find?_cons]
  by_cases h : p.1 = k
  · simp [h]
  · simp [h]
theorem lin_map_put (f : Ex → Int) (k : Ex) (v : Int) : ∀ {d : List Trm}, (keys d).Nodup → k ∈ keys d → lin f (d.map fun p => if p.1 = k then (p.1, v) else p) = lin f d + (v - look d k) * f k
  | [], _, h => by simp [keys] at h
  | p :: r, hn, hk => by
    have n1 : p.1 ∉ keys r ∧ (keys r).Nodup := List.nodup_cons.mp hn
    rw [look_cons]
    simp only [List.map_cons, lin]
    by_cases e : p.1 = k
    · rw [if_pos e, if_pos e]
      have z : r.map (fun p => if p.1 = k then (p.1, v) else p) = r := by
        refine (List.map_congr_left fun q hq => if_neg fun z => n1.1 (List.mem_map.mpr ⟨q, hq, by rw [z, e]⟩)).trans (List.map_id' r)
      rw [z, ← e, Int.sub_mul]
      show v * f p.1 + lin f r = _
      omega
    · have hk2 : k ∈ keys r := by
        rcases List.mem_cons.mp (show k ∈ p.1 :: keys r from hk) with z | z
        · exact absurd z.symm e
        · exact z
      rw [if_neg e, if_neg e, lin_map_put f k v n1.2 hk2]
      omega
theorem lin_put (f : Ex → Int) {d : List Trm} (hn : (keys d).Nodup) (k : Ex) (v : Int) : lin f (put d k v) = lin f d + (v - look d k) * f k := by
  have h : (d.any fun p => decide (p.1 = k)) = true ↔ k ∈ keys d := by
    rw [List.any_eq_true]
    unfold keys
    constructor
    · rintro ⟨p, hp, e⟩
      exact List.mem_map.mpr ⟨p, hp, of_decide_eq_true e⟩
    · intro h
      obtain ⟨p, hp, e⟩ := List.mem_map.mp h
      exact ⟨p, hp, decide_eq_true e⟩
  unfold put
  by_cases hk : k ∈ keys d
  · rw [if_pos (h.mpr hk), lin_map_put f k v hn hk]
  · rw [if_neg (fun z => hk (h.mp z)), lin_append, look_none hk]
    simp [lin]
theorem gather_go (f : Ex → Int) : ∀ (ts d : List Trm), (keys d).Nodup → (keys (ts.foldl addTo d)).Nodup ∧ lin f (ts.foldl addTo d) = lin f d + lin f ts
  | [], d, h => ⟨h, by simp [lin]⟩
  | t :: r, d, h => by
    have n := nodup_put h t.1 (look d t.1 + t.2)
    obtain ⟨h1, h2⟩ := gather_go f r (addTo d t) n
    refine ⟨h1, ?_⟩
    show lin f (r.foldl addTo (addTo d t)) = _
    rw [h2]
    unfold addTo
    rw [lin_put f h]
    simp only [lin]
    rw [show look d t.1 + t.2 - look d t.1 = t.2 by omega]
    omega
theorem gather_nodup (ts : List Trm) : (keys (gather ts)).Nodup := (gather_go (fun _ => 0) ts [] List.nodup_nil).1
theorem gather_eqv (ts : List Trm) : Eqv (gather ts) ts := fun f => by
  have h := (gather_go f ts [] List.nodup_nil).2
  simp only [lin] at h
  unfold gather
  omega
theorem length_put (d : List Trm) (k : Ex) (v : Int) : (put d k v).length ≤ d.length + 1 := by
  unfold put
  split
  · rw [List.length_map]
    omega
  · rw [List.length_append]
    exact Nat.le_refl _
theorem length_gather_go : ∀ (ts d : List Trm), (ts.foldl addTo d).length ≤ d.length + ts.length
  | [], d => Nat.le_refl _
  | t :: r, d => by
    have h1 := length_gather_go r (addTo d t)
    have h2 : (addTo d t).length ≤ d.length + 1 := length_put _ _ _
    show (r.foldl addTo (addTo d t)).length ≤ _
    simp only [List.length_cons]
    omega
theorem look_of_mem : ∀ {d : List Trm} {p : Trm}, (keys d).Nodup → p ∈ d → look d p.1 = p.2
  | q :: r, p, hn, hp => by
    have n1 : q.1 ∉ keys r ∧ (keys r).Nodup := List.nodup_cons.mp hn
    rw [look_cons]
    rcases List.mem_cons.mp hp with rfl | hp
    · rw [if_pos rfl]
    · rw [if_neg (fun e => n1.1 (List.mem_map.mpr ⟨p, hp, e.symm⟩)), look_of_mem n1.2 hp]
/-- what is read off by keys in order -/
def read (d : List Trm) (ks : List Ex) : List Trm := (ks.filter fun k => decide (look d k ≠ 0)).map fun k => (k, look d k)
theorem lin_read (f : Ex → Int) (d : List Trm) : ∀ ks : List Ex, lin f (read d ks) = lin f (ks.map fun k => (k, look d k))
  | [] => rfl
  | k :: r => by
    have ih := lin_read f d r
    unfold read at *
    rw [List.filter_cons]
    by_cases h : look d k = 0
    · simp only [h, ne_eq, not_true_eq_false, decide_false, Bool.false_eq_true, if_false, List.map_cons, lin]
      rw [ih]
      simp
    · rw [if_pos (decide_eq_true h)]
      simp only [List.map_cons, lin, ih]
theorem map_look {d : List Trm} (hn : (keys d).Nodup) : (keys d).map (fun k => (k, look d k)) = d := by
  unfold keys
  rw [List.map_map]
  refine (List.map_congr_left fun p hp => ?_).trans (List.map_id' d)
  show (p.1, look d p.1) = p
  rw [look_of_mem hn hp]
theorem read_canon {ts d : List Trm} {ks : List Ex} (hn : (keys d).Nodup) (he : Eqv d ts) (hp : ks.Perm (keys d)) (hs : ks.Pairwise fun a b => ¬ ltE b a) : read d ks = canon ts := by
  refine canon_of ⟨?_, fun t ht => ?_⟩ fun f => ?_
  · have h2 : ks.Pairwise ltE := by
      exact (List.Pairwise.and hs (hp.nodup_iff.mpr hn)).imp fun h => ltE_or h.1 (Ne.symm h.2)
    unfold read
    rw [List.pairwise_map]
    exact h2.sublist List.filter_sublist
  · obtain ⟨k, hk, rfl⟩ := List.mem_map.mp ht
    exact of_decide_eq_true (List.mem_filter.mp hk).2
  · rw [lin_read]
    have h3 : (ks.map fun k => (k, look d k)).Perm d := by
      have := hp.map fun k => (k, look d k)
      rw [map_look hn] at this
      exact this
    rw [Eqv.perm h3 f]
    exact he f
end PM
/-! ### heaps that grow: what is no table stays, tables stay tables -/
namespace EXT
open PySem PySem.Spec PyProof.Rows L2 SDT PM
structure Ext (H H' : Hp) : Prop where
  keep : ∀ b x, H b = some x → (∀ ps, x ≠ .tbl ps) → H' b = some x
  tabs : ∀ b ps, H b = some (.tbl ps) → ∃ qs, H' b = some (.tbl qs) ∧ (TriplesOk ps.toList → TriplesOk qs.toList)
theorem Ext.tab {H H' : Hp} (s : Ext H H') {b : Addr} (h : GxR.TabG H b) : GxR.TabG H' b := by
  obtain ⟨ps, h1, h2⟩ := h
  obtain ⟨qs, g1, g2⟩ := s.tabs b ps h1
  exact ⟨qs, g1, g2 h2⟩
theorem Ext.refl (H : Hp) : Ext H H := ⟨fun _ _ e _ => e, fun _ ps h => ⟨ps, h, id⟩⟩
theorem Ext.trans {H H1 H2 : Hp} (a : Ext H H1) (b : Ext H1 H2) : Ext H H2 := ⟨fun c x e n => b.keep c x (a.keep c x e n) n, fun c ps h => by
  obtain ⟨qs, g1, g2⟩ := a.tabs c ps h
  obtain ⟨rs, k1, k2⟩ := b.tabs c qs g1
  exact ⟨rs, k1, fun z => k2 (g2 z)⟩⟩
theorem Ext.own {H H1 : Hp} {d : Addr} {o : HO} (s : Ext H H1) (hd : H d = none) : Ext H (upd H1 d o) := by
  refine ⟨fun b x e n => ?_, fun b ps h => ?_⟩
  · rw [upd_ne (ne_of_none e hd)]
    exact s.keep b x e n
  · obtain ⟨qs, g1, g2⟩ := s.tabs b ps h
    exact ⟨qs, by rw [upd_ne (ne_of_none h hd)]; exact g1, g2⟩
theorem ext_upd {H : Hp} {p : Addr} {o : HO} (h : H p = none) : Ext H (upd H p o) := (Ext.refl H).own h
theorem Ext.new {H H1 : Hp} {p : Addr} {o : HO} (s : Ext H H1) (h : H1 p = none) : Ext H (upd H1 p o) := s.trans (ext_upd h)
theorem ext_tabbed {H H' : Hp} {P : Addr} (t : GxR.TabG H P) (h : GxR.Tabbed P H H') : Ext H H' := by
  obtain ⟨ps, e0, _⟩ := t
  refine ⟨fun b x e n => ?_, fun b qs g => ?_⟩
  · rw [h.2 b (fun z => ?_)]
    · exact e
    · rw [z, e0] at e
      exact n ps (Option.some.inj e).symm
  · by_cases z : b = P
    · obtain ⟨rs, g1, g2⟩ := h.1
      rw [z]
      exact ⟨rs, g1, fun _ => g2⟩
    · exact ⟨qs, by rw [h.2 b z]; exact g, id⟩
theorem Ext.tabbed {H H1 H2 : Hp} {P : Addr} (s : Ext H H1) (t : GxR.TabG H1 P) (h : GxR.Tabbed P H1 H2) : Ext H H2 := s.trans (ext_tabbed t h)
theorem Ext.free {H H' : Hp} {p : Addr} (s : Ext H H') (h : H' p = none) : H p = none := by
  cases e : H p with
  | none => rfl
  | some x =>
    cases x with
    | tbl ps =>
      obtain ⟨qs, g, _⟩ := s.tabs p ps e
      rw [h] at g
      cases g
    | _ =>
      have := s.keep p _ e (fun ps z => by cases z)
      rw [h] at this
      cases this
theorem _root_.L2.Same.ext {H H' : Hp} (s : Same H H') : Ext H H' := ⟨fun b x e _ => s b x e, fun b ps e => ⟨ps, s _ _ e, id⟩⟩
section
variable {K : PySem.W.Frag} {H H' : Hp} (s : Ext H H')
include s
theorem Ext.rdL {a : Addr} {xs : List V} (h : Rd H a (.lst xs)) : Rd H' a (.lst xs) := by
  rcases h with h | ⟨o, h⟩
  · exact .inl (s.keep _ _ h (fun _ z => by cases z))
  · exact .inr ⟨o, s.keep _ _ h (fun _ z => by cases z)⟩
theorem Ext.rdT {a : Addr} {xs : List V} (h : Rd H a (.tup xs)) : Rd H' a (.tup xs) := by
  rcases h with h | ⟨o, h⟩
  · exact .inl (s.keep _ _ h (fun _ z => by cases z))
  · exact .inr ⟨o, s.keep _ _ h (fun _ z => by cases z)⟩
theorem Ext.seq {a : Addr} {xs : List V} (h : SqL K H a xs) : SqL K H' a xs := h.imp s.rdL id
theorem Ext.tup {a : Addr} {xs : List V} (h : SqT K H a xs) : SqT K H' a xs := h.imp s.rdT id
theorem Ext.at {a : Addr} {xs : List V} (h : H a = some (.tup xs)) : H' a = some (.tup xs) := s.keep _ _ h (fun _ z => by cases z)
theorem Ext.dt {a : Addr} {xs : List (List Key × V)} (h : H a = some (.dT xs)) : H' a = some (.dT xs) := s.keep _ _ h (fun _ z => by cases z)
theorem Ext.lst {a : Addr} {xs : List V} (h : H a = some (.lst xs)) : H' a = some (.lst xs) := s.keep _ _ h (fun _ z => by cases z)
end
mutual
theorem dp_ext {K : PySem.W.Frag} {H H' : Hp} (s : Ext H H') : ∀ {v : V} {d : PyData}, Dp K H v d → Dp K H' v d
  | _, _, .non => .non
  | _, _, .bl b => .bl b
  | _, _, .int i => .int i
  | _, _, .str x => .str x
  | _, _, .lst h t => .lst (s.seq h) (dpAll_ext s t)
  | _, _, .tup h t => .tup (s.tup h) (dpAll_ext s t)
theorem dpAll_ext {K : PySem.W.Frag} {H H' : Hp} (s : Ext H H') : ∀ {vs : List V} {ds : List PyData}, DpAll K H vs ds → DpAll K H' vs ds
  | _, _, .nil => .nil
  | _, _, .cons h t => .cons (dp_ext s h) (dpAll_ext s t)
end
theorem Ext.pairs {H H' : Hp} (s : Ext H H') : ∀ {ks : List (Int × Int)} {bs : List Addr}, Paired (PairAt H) ks bs → Paired (PairAt H') ks bs
  | _, _, .nil => .nil
  | _, _, .cons h t => .cons (s.at h) (s.pairs t)
/-! ### terms and polynomials in the heap -/
/-- v is the term t -/
def TermAt (K : PySem.W.Frag) (H : Hp) (v : V) (t : Trm) : Prop := ∃ a b, v = .ref a ∧ SqT K H a [.ref b, .int t.2] ∧ SqT K H b [.int t.1.1, .int t.1.2]
/-- the same, the key known to be one -/
def TermT (H : Hp) (v : V) (t : Trm) : Prop := ∃ a b, v = .ref a ∧ H a = some (.tup [.ref b, .int t.2]) ∧ PairAt H t.1 b
theorem TermT.at {K : PySem.W.Frag} {H : Hp} {v : V} {t : Trm} (h : TermT H v t) : TermAt K H v t := by
  obtain ⟨a, b, e, h1, h2⟩ := h
  exact ⟨a, b, e, .inl (.inl h1), .inl (.inl h2)⟩
theorem Ext.termT {H H' : Hp} (s : Ext H H') {v : V} {t : Trm} (h : TermT H v t) : TermT H' v t := by
  obtain ⟨a, b, e, h1, h2⟩ := h
  exact ⟨a, b, e, s.at h1, s.at h2⟩
theorem Ext.term {K : PySem.W.Frag} {H H' : Hp} (s : Ext H H') {v : V} {t : Trm} (h : TermAt K H v t) : TermAt K H' v t := by
  obtain ⟨a, b, e, h1, h2⟩ := h
  exact ⟨a, b, e, s.tup h1, s.tup h2⟩
theorem paired_imp {α β : Type} {R R' : α → β → Prop} (h : ∀ a b, R a b → R' a b) : ∀ {as : List α} {bs : List β}, Paired R as bs → Paired R' as bs
  | _, _, .nil => .nil
  | _, _, .cons x t => .cons (h _ _ x) (paired_imp h t)
/-- the item of a pairing at a place -/
theorem paired_at {α β : Type} {R : α → β → Prop} : ∀ {as : List α} {bs : List β} {i : Nat} {a : α}, Paired R as bs → as[i]? = some a → ∃ b, bs[i]? = some b ∧ R a b
  | _, _, _, _, .nil, h => by simp at h
  | _, _, 0, _, .cons x t, h => by
    simp only [List.getElem?_cons_zero, Option.some.injEq] at h
    subst h
    exact ⟨_, rfl, x⟩
  | _, _, i + 1, _, .cons x t, h => by
    simp only [List.getElem?_cons_succ] at h
    obtain ⟨b, h1, h2⟩ := paired_at t h
    exact ⟨b, by simpa using h1, h2⟩
theorem paired_app {α β : Type} {R : α → β → Prop} : ∀ {as : List α} {bs : List β} {as' : List α} {bs' : List β}, Paired R as bs → Paired R as' bs' → Paired R (as ++ as') (bs ++ bs')
  | _, _, _, _, .nil, k => k
  | _, _, _, _, .cons x t, k => .cons x (paired_app t k)
theorem paired_snoc {α β : Type} {R : α → β → Prop} {as : List α} {bs : List β} {a : α} {b : β} (h : Paired R as bs) (x : R a b) : Paired R (as ++ [a]) (bs ++ [b]) := paired_app h (.cons x .nil)
/-- vs are the terms ts -/
abbrev Terms (K : PySem.W.Frag) (H : Hp) (vs : List V) (ts : List Trm) : Prop := Paired (TermAt K H) vs ts
abbrev TermsT (H : Hp) (vs : List V) (ts : List Trm) : Prop := Paired (TermT H) vs ts
theorem Ext.terms {K : PySem.W.Frag} {H H' : Hp} (s : Ext H H') {vs : List V} {ts : List Trm} (h : Terms K H vs ts) : Terms K H' vs ts := paired_imp (fun _ _ => s.term) h
theorem Ext.termsT {H H' : Hp} (s : Ext H H') {vs : List V} {ts : List Trm} (h : TermsT H vs ts) : TermsT H' vs ts := paired_imp (fun _ _ => s.termT) h
theorem terms_of {K : PySem.W.Frag} {H : Hp} {vs : List V} {ts : List Trm} (h : TermsT H vs ts) : Terms K H vs ts := paired_imp (fun _ _ h => h.at) h
/-- a tuple of terms at p -/
def PolyAt (K : PySem.W.Frag) (H : Hp) (p : Addr) (ts : List Trm) : Prop := ∃ vs, SqT K H p vs ∧ Terms K H vs ts
def PolyT (H : Hp) (p : Addr) (ts : List Trm) : Prop := ∃ vs, H p = some (.tup vs) ∧ TermsT H vs ts
theorem PolyT.at {K : PySem.W.Frag} {H : Hp} {p : Addr} {ts : List Trm} (h : PolyT H p ts) : PolyAt K H p ts := by
  obtain ⟨vs, h1, h2⟩ := h
  exact ⟨vs, .inl (.inl h1), terms_of h2⟩
theorem Ext.poly {K : PySem.W.Frag} {H H' : Hp} (s : Ext H H') {p : Addr} {ts : List Trm} (h : PolyAt K H p ts) : PolyAt K H' p ts := by
  obtain ⟨vs, h1, h2⟩ := h
  exact ⟨vs, s.tup h1, s.terms h2⟩
theorem Ext.polyT {H H' : Hp} (s : Ext H H') {p : Addr} {ts : List Trm} (h : PolyT H p ts) : PolyT H' p ts := by
  obtain ⟨vs, h1, h2⟩ := h
  exact ⟨vs, s.at h1, s.termsT h2⟩
/-- a term, a polynomial as data -/
def termD (t : Trm) : PyData := .tuple [.tuple [.int t.1.1, .int t.1.2], .int t.2]
def polyD (ts : List Trm) : PyData := .tuple (ts.map termD)
theorem TermAt.dp {K : PySem.W.Frag} {H : Hp} {v : V} {t : Trm} (h : TermAt K H v t) : Dp K H v (termD t) := by
  obtain ⟨a, b, rfl, h1, h2⟩ := h
  exact .tup h1 (.cons (.tup h2 (.cons (.int _) (.cons (.int _) .nil))) (.cons (.int _) .nil))
theorem terms_dp {K : PySem.W.Frag} {H : Hp} : ∀ {vs : List V} {ts : List Trm}, Terms K H vs ts → DpAll K H vs (ts.map termD)
  | _, _, .nil => .nil
  | _, _, .cons h t => .cons h.dp (terms_dp t)
theorem PolyAt.dp {K : PySem.W.Frag} {H : Hp} {p : Addr} {ts : List Trm} (h : PolyAt K H p ts) : Dp K H (.ref p) (polyD ts) := by
  obtain ⟨vs, h1, h2⟩ := h
  exact .tup h1 (terms_dp h2)
/-! ### a dict of exponents -/
def kvsOf (d : List Trm) : List (List Key × V) := d.map fun t => (pairKey t.1, .int t.2)
theorem pairKey_inj {k j : Ex} (h : pairKey k = pairKey j) : k = j := by
  obtain ⟨h1, h2⟩ := List.cons.inj h
  obtain ⟨h3, _⟩ := List.cons.inj h2
  exact Prod.ext (Sum.inl.inj h1) (Sum.inl.inj h3)
theorem valV_kvs (k : Ex) : ∀ d : List Trm, valV (kvsOf d) (pairKey k) = if k ∈ keys d then some (.int (look d k)) else none
  | [] => rfl
  | t :: d => by
    by_cases e : t.1 = k
    · rw [show kvsOf (t :: d) = (pairKey t.1, V.int t.2) :: kvsOf d from rfl, valV_pos (by rw [e]), if_pos (by rw [← e]; exact List.mem_map.mpr ⟨t, List.mem_cons_self, rfl⟩), look_cons, if_pos e]
    · rw [show kvsOf (t :: d) = (pairKey t.1, V.int t.2) :: kvsOf d from rfl, valV_neg (fun z => e (pairKey_inj z)), valV_kvs k d, look_cons, if_neg e]
      have : (k ∈ keys (t :: d)) ↔ k ∈ keys d := by
        show k ∈ t.1 :: keys d ↔ _
        rw [List.mem_cons]
        exact ⟨fun z => z.resolve_left fun q => e q.symm, .inr⟩
      by_cases m : k ∈ keys d
      · rw [if_pos m, if_pos (this.mpr m)]
      · rw [if_neg m, if_neg (fun z => m (this.mp z))]
theorem getD_kvs (d : List Trm) (k : Ex) : (valV (kvsOf d) (pairKey k)).getD (.int 0) = .int (look d k) := by
  rw [valV_kvs]
  by_cases m : k ∈ keys d
  · rw [if_pos m]
    rfl
  · rw [if_neg m, look_none m]
    rfl
theorem put_kvs (d : List Trm) (k : Ex) (v : Int) : putK (kvsOf d) (pairKey k) (.int v) = kvsOf (put d k v) := by
  have e : ((kvsOf d).any fun kv => decide (kv.1 = pairKey k)) = d.any fun p => decide (p.1 = k) := by
    unfold kvsOf
    rw [List.any_map]
    congr 1
    funext t
    show decide (pairKey t.1 = pairKey k) = decide (t.1 = k)
    by_cases z : t.1 = k
    · rw [decide_eq_true z, decide_eq_true (by rw [z])]
    · rw [decide_eq_false z, decide_eq_false (fun q => z (pairKey_inj q))]
  unfold putK put
  rw [e]
  by_cases z : (d.any fun p => decide (p.1 = k)) = true
  · rw [if_pos z, if_pos z]
    unfold kvsOf
    rw [List.map_map, List.map_map]
    refine List.map_congr_left fun t _ => ?_
    show (if pairKey t.1 = pairKey k then (pairKey t.1, V.int v) else (pairKey t.1, V.int t.2)) = _
    by_cases q : t.1 = k
    · rw [if_pos (by rw [q])]
      simp only [Function.comp, if_pos q]
    · rw [if_neg (fun w => q (pairKey_inj w))]
      simp only [Function.comp, if_neg q]
  · rw [if_neg z, if_neg z]
    unfold kvsOf
    rw [List.map_append]
    rfl
theorem length_kvs (d : List Trm) : (kvsOf d).length = d.length := by
  unfold kvsOf
  rw [List.length_map]
theorem keys_kvs (d : List Trm) : (kvsOf d).map (·.1) = (keys d).map pairKey := by
  unfold kvsOf keys
  rw [List.map_map, List.map_map]
  rfl
theorem lex_lt {p q : Ex} : SrtO.lexB p q = false ↔ ¬ ltE p q := SrtO.lexB_no
end EXT
/-! ### a def whose code object is known -/
namespace L2
open PySem PySem.Spec PyProof.Rows
structure FunC (K : PySem.W.Frag) (x qual : Str) (st : Stmt) (f : Addr) (fd : FuncData) (c : Addr) : Prop where
  ex : ∃ (oc : Value) (od : Option Addr) (kV doc pm : Value) (an : Option Addr) (ct : Value) (osl : Array (Option Value)),
    fd = PySem.W.fnOf x qual (defArgs st) (defBody st) (defScope st) .none kV doc pm an (.ref c) ct ∧ K.lookup f = some ⟨oc, od, .func fd, osl⟩ ∧ PySem.W.codeIn K (.ref c) qual = true
  kp : PySem.W.keepIn K (.ref f) = true
section
variable {P : Program} {w : World} {K : PySem.W.Frag} {mg : Str → Option Value} {base : Heap}
theorem FunC.ok {x qual : Str} {st : Stmt} {f c : Addr} {fd : FuncData} {N ps : List Str} {k : Nat} {sp : Sp} (F : FunC K x qual st f fd c) (S : FnScope N ps (defScope st)) (len : ∀ vs H Q E, sp vs H Q E → vs.length = ps.length)
    (hbody : ∀ (A : Around) (outer : List Env) (s : Shared) (H : Hp) (vs : List V) (Q : VK) (E : XK), Room k (A.deeper (envOfC qual (defScope st) s.heap.objs.size f (.ref c))) → sp vs H Q E →
      ∃ t, PSs (cxOf CX0 P w K mg base N qual (defScope st) f (.ref c) A outer s H E).nox (defBody st) t ∧ t { nx := fun _ H' => Q .non H', rt := Q } (start N vs) H) :
    FnOk P w K mg base CX0 (k + 1) f fd ps sp := by
  obtain ⟨oc, od, kV, doc, pm, an, ct, osl, e, lk, hcd⟩ := F.ex
  subst e
  refine fn_of lk hcd S len fun A outer s H vs Q E hr hsp => ?_
  obtain ⟨t, h, q⟩ := hbody A outer s H vs Q E hr hsp
  exact ⟨t, h.nox, q⟩
theorem FunC.binds {x qual : Str} {st : Stmt} {f c : Addr} {fd : FuncData} {ps : List Str} (F : FunC K x qual st f fd c)
    (h : ∀ (kV doc pm : Value) (an : Option Addr) (cdv ct : Value) (us : List Value), us.length = ps.length → bindArgs (PySem.W.fnOf x qual (defArgs st) (defBody st) (defScope st) .none kV doc pm an cdv ct) ⟨us, []⟩ = pure (ps.zip us)) : Binds K fd ps [] := by
  obtain ⟨oc, od, kV, doc, pm, an, ct, osl, e, lk, hcd⟩ := F.ex
  subst e
  exact .all (h kV doc pm an (.ref c) ct)
theorem funC_mk {x qual : Str} {st : Stmt} {f c : Addr} {oc : Value} {od an : Option Addr} {osl : Array (Option Value)} {kV doc pm ct : Value} (l : K.lookup f = some ⟨oc, od, .func (PySem.W.fnOf x qual (defArgs st) (defBody st) (defScope st) .none kV doc pm an (.ref c) ct), osl⟩)
    (h : PySem.W.codeIn K (.ref c) qual = true) (k : PySem.W.keepIn K (.ref f) = true) : FunC K x qual st f (PySem.W.fnOf x qual (defArgs st) (defBody st) (defScope st) .none kV doc pm an (.ref c) ct) c := ⟨⟨oc, od, kV, doc, pm, an, ct, osl, rfl, l, h⟩, k⟩
end
end L2
/-! ### the end: the tables of all defs -/
namespace LamX
open PySem PySem.Spec PyProof.Rows L2
/-- the table of each def of the text is empty -/
def AllTab (q : Program) (K : PySem.W.Frag) (h : Heap) : Prop := ∀ (y : Str) (f c P : Addr) (o : Obj) (fd : FuncData) (e : Value) (dd : Option Addr) (vs : Array Value) (sl : Array (Option Value)), ((recsOf q).any fun r => r.name == y) = true →
  PySem.W.nsIn K mainGlobals y = some (some (.ref f)) → K.lookup f = some o → o.data = .func fd → fd.code = .ref c → K.lookup c = some ⟨e, dd, .fields vs, sl⟩ → vs[11]? = some (.ref P) → h.get? P = some { cls := .none, data := .fields #[] }
theorem walk_ofAll {l : PySem.W.OpenLaw} {n k : Nat} {q : Program} {loose : List Str} {XP : (Str → Option Value) → Heap → Prop} {YP : World → Heap → Prop} {d : DefRec} {K : Params → PySem.W.Frag} {CX : World → CXT} {x : Str}
    (hn : l.most = some n) (hn2 : n ≤ sizeLine) (hdf : d.params.defaults = []) (hr : Room k callerA) (hY : ∀ (w : World) (h : Heap), YP w h → (K w.params).In h)
    (F : ∀ (w : World) (mg : Str → Option Value) (fa : Addr) (h : Heap), YP w h → (K w.params).In h → h.Ns mainGlobals mg → mg d.name = some (.ref fa) → AllTab q (K w.params) h → LawAtS l w (K w.params) (CX w) k n x mg fa h)
    (hCX : ∀ (w : World) (H : Hp) (s : Shared) (e : Value) (s' : Shared), CX w [] H s (fun _ _ _ => False) e s' → False) :
    PySem.W.WalkO q loose XP YP l.row.toRowW d [] (fun f vs => PySem.call f vs) := by
  refine Att.attach_callB hn hdf fun w s₀ s₁ mg mb fa o pm cd doc a vs ns G Y ho hd hcd hmg hobj hints hlen hbits hg => ?_
  have KX := hY w _ Y
  have own : AllTab q (K w.params) s₁.heap := fun y f c P o1 fd1 e dd vs1 sl hrec k0 k1 k2 k3 k4 k5 => by
    obtain ⟨dL, hm, hn1⟩ := List.any_eq_true.mp hrec
    have hn2 : dL.name = y := beq_iff_eq.mp hn1
    obtain ⟨a', o', fd', c', P', h1, h2, h3, h4, h5, h6⟩ := G.T.tab dL hm
    rw [hn2, PySem.W.mg_of KX G.T.g k0] at h1
    cases h1
    have g1 := KX _ _ k1
    rw [g1] at h2
    cases h2
    rw [k2] at h3
    cases h3
    rw [k3] at h4
    cases h4
    obtain ⟨⟨oc, vc, e1, _, e3, e4⟩, hP⟩ := h6
    have g2 := KX _ _ k4
    rw [g2] at e1
    cases e1
    cases e3
    rw [k5] at e4
    cases e4
    exact hP
  obtain ⟨fd, cs, sp, hT, nT, C, hb, hsp, hF⟩ := F w mg fa _ Y KX G.T.g hmg own
  exact law_callTs KX G.T.g G.T.b G.T.builtins G.T.nolimit hg hT nT C G.T.bmain hobj hints (Nat.le_trans hlen hn2) hr hF hb (fun H hH hS => hsp H a ns hlen hbits hH hS) fun H e s' => hCX w H s₁ e s'
end LamX
namespace L2
open PySem PySem.Spec PyProof.Rows
/-- a list or a tuple, walked -/
def iSeq (K : PySem.W.Frag) (tl : TE) : TI := fun σ H R => tl σ H fun x H1 => ∃ a, x = .ref a ∧ (((∃ xs, SqL K H1 a xs) ∧ R (Itl K a) H1) ∨ ((∃ xs, SqT K H1 a xs) ∧ R (Itt K a) H1))
theorem pi_seq {X : Cx} {tg l : Expr} {tl : TE} (hl : PE X l tl) : PI X tg l (iSeq X.K tl) := by
  refine ⟨fun pins s σ H R I h => ?_⟩
  refine thn (hl.run pins s σ H _ I h) fun v s1 ⟨x, H1, I1, r1, a, e, q1⟩ => ?_
  subst e
  cases r1
  rcases q1 with ⟨⟨xs, hq⟩, q⟩ | ⟨⟨xs, hq⟩, q⟩
  · obtain ⟨its, rv, p, hz⟩ := I1.list hq
    refine wpAny_pyIter_list p.isList ⟨s1.heap.objs.size, [s1.heap.objs.size], _, _, H1, rfl, I1.kept (t' := s1.toks) fun b o e => Heap.get?_push_of_some _ e, turn_list a _, ⟨_, Heap.get?_push_size _ rfl, rfl, rfl⟩, fun b hb => ?_, q⟩
    obtain rfl : b = s1.heap.objs.size := by simpa using hb
    exact I1.fpOk (Nat.le_refl _) (I1.hok.fresh (Nat.le_refl _))
  · obtain ⟨its, rv, p, hz⟩ := I1.tuple hq
    refine wpAny_pyIter_tuple (show s1.heap.IsTuple a its.toArray from p) ⟨s1.heap.objs.size, [s1.heap.objs.size], _, _, H1, rfl, I1.kept (t' := s1.toks) fun b o e => Heap.get?_push_of_some _ e, turn_tuple a _, ⟨_, Heap.get?_push_size _ rfl, rfl, rfl⟩, fun b hb => ?_, q⟩
    obtain rfl : b = s1.heap.objs.size := by simpa using hb
    exact I1.fpOk (Nat.le_refl _) (I1.hok.fresh (Nat.le_refl _))
/-- walking a list or a tuple: one invariant -/
theorem for_seq {K : PySem.W.Frag} {a : Addr} {xs : List V} {g : TG} {tb : TS} {D : Ends} {σ : St} {H H0 : Hp} (ha : SqL K H0 a xs ∨ SqT K H0 a xs) (Pv : Nat → St → Hp → Prop) (h0 : Pv 0 σ H) (hl : ∀ i σ H1, i ≤ xs.length → Pv i σ H1 → EXT.Ext H0 H1)
    (hs : ∀ i x σ H, xs[i]? = some x → Pv i σ H → g x σ H fun σ2 H2 => tb { D with nx := Pv (i + 1), ct := Pv (i + 1), bk := D.nx } σ2 H2) (hd : ∀ σ H, Pv xs.length σ H → D.nx σ H) :
    let G : It → Prop := fun J => ∃ W : Nat → Nat → St → Hp → Prop, (∃ m, W 0 m σ H) ∧ ∀ i m σ H, W i m σ H →
      ((J.stop i H ∧ D.nx σ H) ∨ (J.go i H ∧ ∃ N : St → Hp → Prop, (∀ σ' H', N σ' H' → ∃ m', m' < m ∧ W (i + 1) m' σ' H') ∧ ∀ x H', J.yld i H x H' → g x σ H' fun σ2 H2 => tb { D with nx := N, ct := N, bk := D.nx } σ2 H2))
    ((∃ xs, SqL K H a xs) ∧ G (Itl K a)) ∨ ((∃ xs, SqT K H a xs) ∧ G (Itt K a)) := by
  rcases ha with h | h
  · exact .inl ⟨⟨xs, (hl _ _ _ (Nat.zero_le _) h0).seq h⟩, for_list Pv h0 (fun i σ H1 hi p => (hl i σ H1 hi p).seq h) hs hd⟩
  · exact .inr ⟨⟨xs, (hl _ _ _ (Nat.zero_le _) h0).tup h⟩, for_tup Pv h0 (fun i σ H1 hi p => (hl i σ H1 hi p).tup h) hs hd⟩
end L2
namespace L2
open PySem PySem.Spec PyProof.Rows
/-- pairs of ints, by their first, then by their second -/
def geP (x y : Int × Int) : Bool := !SrtO.lexB x y
theorem ge_not (i j : Int) : (!decide (i < j)) = decide (j ≤ i) := by
  by_cases z : i < j
  · rw [decide_eq_true z, decide_eq_false (by omega)]
    rfl
  · rw [decide_eq_false z, decide_eq_true (by omega)]
    rfl
/-- t >= u of two pairs of ints -/
def rGeP (K : PySem.W.Frag) : R2 := fun x y H Q => ∃ (a b : Addr) (p q : Int × Int), x = .ref a ∧ y = .ref b ∧ SqT K H a [.int p.1, .int p.2] ∧ SqT K H b [.int q.1, .int q.2] ∧ Q (.bl (geP p q)) H
theorem pair_vals {i j : Int} {its : List Value} (r : Vals [V.int i, .int j] its) : ∃ t u, its = [.int i t, .int j u] := by
  obtain ⟨u1, u2, rfl, ⟨t, rfl⟩, ⟨u, rfl⟩⟩ := vals2 r
  exact ⟨t, u, rfl⟩
theorem op_geP {X : Cx} (hu : X.A.units < cLine) : OpR X (compareOp .GtE) (rGeP X.K) := by
  intro pins s σ H x y v u Q I rx ry h
  obtain ⟨a, b, p, q, rfl, rfl, ha, hb, k⟩ := h
  cases rx
  cases ry
  obtain ⟨its, r1, p1, _⟩ := I.tuple ha
  obtain ⟨its2, r2, p2, _⟩ := I.tuple hb
  obtain ⟨t1, t2, rfl⟩ := pair_vals r1
  obtain ⟨t3, t4, rfl⟩ := pair_vals r2
  have R := Ob.RcOp.tuples_ge (A := X.A) (s := s) (e := fun j => if j = 0 then (p.1 == q.1) else (p.2 == q.2)) (r := fun j => if j = 0 then decide (q.1 ≤ p.1) else decide (q.2 ≤ p.2)) p1 p2 hu (fun j h1 h2 => by
    match j, h1, h2 with
    | 0, _, _ => exact SeqAt.EqAt.int_int _ _ _ _
    | 1, _, _ => exact SeqAt.EqAt.int_int _ _ _ _) (fun j h1 h2 _ => by
    match j, h1, h2 with
    | 0, _, _ => exact Ob.RcOp.ge_int _ _ _ _
    | 1, _, _ => exact Ob.RcOp.ge_int _ _ _ _)
  have e : geP p q = Ob.lexAt (fun j => if j = 0 then (p.1 == q.1) else (p.2 == q.2)) (fun j => if j = 0 then decide (q.1 ≤ p.1) else decide (q.2 ≤ p.2)) (decide (2 ≥ 2)) 0 2 := by
    rw [Ob.lexAt_succ, Ob.lexAt_succ, Ob.lexAt_zero]
    unfold geP SrtO.lexB
    by_cases e1 : p.1 = q.1
    · rw [if_pos e1, ge_not]
      by_cases e2 : p.2 = q.2
      · have b1 : (p.1 == q.1) = true := beq_iff_eq.mpr e1
        have b2 : (p.2 == q.2) = true := beq_iff_eq.mpr e2
        have z : q.2 ≤ p.2 := by omega
        simp [b1, b2, z]
      · have b1 : (p.1 == q.1) = true := beq_iff_eq.mpr e1
        have b2 : (p.2 == q.2) = false := beq_eq_false_iff_ne.mpr e2
        simp [b1, b2]
    · have b1 : (p.1 == q.1) = false := beq_eq_false_iff_ne.mpr e1
      rw [if_neg e1, ge_not]
      simp [b1]
  rw [e] at k
  have z : wpAny (model X.prog X.w) X.A (compareOp .GtE (.ref a) (.ref b)) (EP X pins σ Q) X.xe s := R X.prog X.w X.xe (EP X pins σ Q) ⟨.bl _, H, I, rfl, k⟩
  exact z
/-- a op b op' c op'' d -/
def tChain3 (r r' r'' : R2) (ta tb tc td : TE) : TE := fun σ H Q => ta σ H fun x H1 => tb σ H1 fun y H2 => r x y H2 fun z H3 => ∃ k, z = .bl k ∧
  (if k = true then tc σ H3 fun w' H4 => r' y w' H4 fun z2 H5 => ∃ k2, z2 = .bl k2 ∧ (if k2 = true then td σ H5 fun w2 H6 => r'' w' w2 H6 Q else Q (.bl false) H5) else Q (.bl false) H3)
theorem pe_chain3 {X : Cx} {a b c d : Expr} {pos : Pos} {ta tb tc td : TE} {op op' op'' : CmpOp} {r r' r'' : R2} (ho : OpR X (compareOp op) r) (ho' : OpR X (compareOp op') r') (ho'' : OpR X (compareOp op'') r'') (ha : PE X a ta) (hb : PE X b tb) (hc : PE X c tc) (hd : PE X d td)
    (hm : lastMarks [op, op', op''] [b, c, d] = false := by with_unfolding_all rfl) : PE X (.Compare a [op, op', op''] [b, c, d] pos) (tChain3 r r' r'' ta tb tc td) := by
  refine ⟨fun pins s σ H Q I h => ?_⟩
  refine Compare_chain (thn (ha.run pins s σ H _ I h) fun v s1 ⟨x, H1, I1, r1, q1⟩ => chain_link (thn (hb.run pins s1 σ H1 _ I1 q1) fun u s2 ⟨y, H2, I2, r2, q2⟩ =>
    thn (ho pins s2 σ H2 x y v u _ I2 r1 r2 q2) fun d s3 ⟨z, H3, I3, r3, k, e, q3⟩ => ?_)) hm
  subst e
  cases r3
  refine wpAny_truthy_bool ?_
  cases k with
  | false => exact ite_ff ⟨.bl false, H3, I3, rfl, q3⟩
  | true =>
    refine ite_tt (chain_link (thn (hc.run pins s3 σ H3 _ I3 q3) fun w' s4 ⟨z', H4, I4, r4, q4⟩ => thn (ho' pins s4 σ H4 y z' u w' _ I4 r2 r4 q4) fun d5 s5 ⟨z5, H5, I5, r5, k5, e5, q5⟩ => ?_))
    subst e5
    cases r5
    refine wpAny_truthy_bool ?_
    cases k5 with
    | false => exact ite_ff ⟨.bl false, H5, I5, rfl, q5⟩
    | true => exact ite_tt (chain_last (thn (hd.run pins s5 σ H5 _ I5 q5) fun w2 s6 ⟨z6, H6, I6, r6, q6⟩ => ho'' pins s6 σ H6 z' z6 w' w2 Q I6 r4 r6 q6))
theorem pt_chain3 {X : Cx} {a b c d : Expr} {pos : Pos} {ta tb tc td : TE} {op op' op'' : CmpOp} {r r' r'' : R2} (ho : OpR X (compareOp op) r) (ho' : OpR X (compareOp op') r') (ho'' : OpR X (compareOp op'') r'') (ha : PE X a ta) (hb : PE X b tb) (hc : PE X c tc) (hd : PE X d td)
    (hm : lastMarks [op, op', op''] [b, c, d] = false := by with_unfolding_all rfl) : PT X (.Compare a [op, op', op''] [b, c, d] pos) (tTest (tChain3 r r' r'' ta tb tc td)) := by
  refine ⟨fun pins s σ H Q I h => ?_⟩
  refine isTrue_chain (thn (ha.run pins s σ H _ I h) fun v s1 ⟨x, H1, I1, r1, q1⟩ => test_link (thn (hb.run pins s1 σ H1 _ I1 q1) fun u s2 ⟨y, H2, I2, r2, q2⟩ =>
    thn (ho pins s2 σ H2 x y v u _ I2 r1 r2 q2) fun d s3 ⟨z, H3, I3, r3, k, e, q3⟩ => ?_)) hm
  subst e
  cases r3
  refine wpAny_truthy_bool ?_
  cases k with
  | false =>
    obtain ⟨k', e', q'⟩ := q3
    cases e'
    exact ite_ff ⟨H3, I3, q'⟩
  | true =>
    refine ite_tt (test_link (thn (hc.run pins s3 σ H3 _ I3 q3) fun w' s4 ⟨z', H4, I4, r4, q4⟩ => thn (ho' pins s4 σ H4 y z' u w' _ I4 r2 r4 q4) fun d5 s5 ⟨z5, H5, I5, r5, k5, e5, q5⟩ => ?_))
    subst e5
    cases r5
    refine wpAny_truthy_bool ?_
    cases k5 with
    | false =>
      obtain ⟨k', e', q'⟩ := q5
      cases e'
      exact ite_ff ⟨H5, I5, q'⟩
    | true =>
      refine ite_tt (test_last (thn (hd.run pins s5 σ H5 _ I5 q5) fun w2 s6 ⟨z6, H6, I6, r6, q6⟩ => thn (ho'' pins s6 σ H6 z' z6 w' w2 _ I6 r4 r6 q6) fun d7 s7 ⟨z7, H7, I7, r7, k7, e7, q7⟩ => ?_))
      subst e7
      cases r7
      exact wpAny_truthy_bool ⟨H7, I7, q7⟩
end L2
namespace L2
open PySem PySem.Spec PyProof.Rows RZ
/-- zip of two tuples, the second not longer than the first -/
theorem for_zipM {K : PySem.W.Frag} {a b : Addr} {xs ys : List V} {g : TG} {tb : TS} {D : Ends} {σ : L2.St} {H : Hp} (hl : ys.length ≤ xs.length) (Pv : Nat → L2.St → Hp → Prop) (h0 : Pv 0 σ H) (hq : ∀ i σ H, Pv i σ H → SqT K H a xs ∧ SqT K H b ys)
    (hs : ∀ (i : Nat) (x y : V) (T : Addr) (σ : L2.St) (H : Hp), xs[i]? = some x → ys[i]? = some y → Pv i σ H → H T = none → g (.ref T) σ (upd H T (.tup [x, y])) fun σ2 H2 => tb { D with nx := Pv (i + 1), ct := Pv (i + 1), bk := D.nx } σ2 H2)
    (hd : ∀ σ H, Pv ys.length σ H → D.nx σ H) :
    ∃ W : Nat → Nat → L2.St → Hp → Prop, (∃ m, W 0 m σ H) ∧ ∀ i m σ H, W i m σ H →
      ((ItzT K a b).stop i H ∧ D.nx σ H) ∨ ((ItzT K a b).go i H ∧ ∃ N : L2.St → Hp → Prop, (∀ σ' H', N σ' H' → ∃ m', m' < m ∧ W (i + 1) m' σ' H') ∧ ∀ v H', (ItzT K a b).yld i H v H' → g v σ H' fun σ2 H2 => tb { D with nx := N, ct := N, bk := D.nx } σ2 H2) := by
  refine ⟨fun i m σ H => m = ys.length - i ∧ i ≤ ys.length ∧ Pv i σ H, ⟨ys.length, rfl, Nat.zero_le _, h0⟩, ?_⟩
  rintro i m σ H ⟨rfl, hi, p⟩
  obtain ⟨qx, qy⟩ := hq i σ H p
  by_cases hlt : i < ys.length
  · have hlx : i < xs.length := by omega
    refine .inr ⟨⟨xs, ys, _, _, qx, qy, List.getElem?_eq_getElem hlx, List.getElem?_eq_getElem hlt⟩, Pv (i + 1), fun σ' H' p' => ⟨ys.length - (i + 1), by omega, rfl, hlt, p'⟩, fun v H' y => ?_⟩
    obtain ⟨T, x', y', rfl, hT, rfl, f1, f2⟩ := y
    exact hs i x' y' T σ H (f1 xs qx) (f2 ys qy) p hT
  · obtain rfl : i = ys.length := by omega
    exact .inl ⟨⟨xs, ys, qx, qy, Or.inr (Nat.le_refl _)⟩, hd σ H p⟩
end L2
namespace L2
open PySem PySem.Spec PyProof.Rows
section
variable {X : Cx} {CX : CXT} {k : Nat} {f C : Addr} {fd : FuncData} {ps : List Str} {sp : Sp} {E : St → XK} {x : Str} {p pos : Pos} {e : Expr} {es : List Expr} {t : TA}
/-- C(..) in a try's body: what it lets out may speak of the slots -/
theorem run_makeS {pins : List (Addr × Obj)} {σ : St} {H : Hp} {s : Shared} {Q : VK} {us : List Value} {vs : List V} (M : Mk X.K C f) (F : FnOk X.prog X.w X.K X.mg X.base CX k f fd ps sp) (hr : Room (k + 1) X.A) (hb : Binds X.K fd ps [])
    (hx : PassesAt CX X σ (E σ)) (I : Inv X pins σ H s) (r : Vals vs us)
    (h : ∀ x dx, H x = none → H dx = none → dx ≠ x → sp (.ref x :: vs) (upd (upd H dx (.own x)) x (.ins C dx [])) (fun v H2 => v = .non ∧ Q (.ref x) H2) (E σ)) :
    wpAny (model X.prog X.w) X.A (call (.ref C) us) (EP X pins σ Q) X.xe s := by
  have hq := h (s.heap.objs.size + 1) s.heap.objs.size (I.hok.fresh (Nat.le_succ _)) (I.hok.fresh (Nat.le_refl _)) (Nat.ne_of_lt (Nat.lt_succ_self _))
  have I2 := Inv.made (C := C) I
  have r2 : Vals (V.ref (s.heap.objs.size + 1) :: vs) (Value.ref (s.heap.objs.size + 1) :: us) := .cons rfl r
  have hl : (Value.ref (s.heap.objs.size + 1) :: us).length = ps.length := by
    have l1 := r2.length
    rw [F.len _ _ _ _ hq] at l1
    exact l1.symm
  have bb := hb _ (Value.ref (s.heap.objs.size + 1) :: us) I2.kIn (by rw [List.append_nil]; exact hl)
  rw [List.append_nil] at bb
  refine wpAny_call (make_map (f := f) I.kIn M.makes M.init (beq_iff_eq.mp M.fn) (codeAny_mono (F.run _ X.stack _ _ ⟨Value.ref (s.heap.objs.size + 1) :: us, []⟩ (Value.ref (s.heap.objs.size + 1) :: us) _ _ (E σ) (hr.make C us []) (I2.env0.make C us []) bb r2 hq) fun r s' hq' => ?_))
  cases r with
  | error e => exact hx pins _ _ e s' I2 hq'
  | ok fl =>
    cases fl with
    | ret u =>
      obtain ⟨v, H', I3, rv, ev, q3⟩ := I2.after hq'
      subst ev
      exact ⟨rv, ⟨V.ref (s.heap.objs.size + 1), H', I3, rfl, q3⟩⟩
    | next => exact False.elim hq'
    | brk => exact False.elim hq'
    | cont => exact False.elim hq'
def tMakeS (C : Addr) (sp : Sp) (E : St → XK) (t : TA) : TE := fun σ H Q => t σ H fun vs H1 => ∀ x dx, H1 x = none → H1 dx = none → dx ≠ x →
  sp (.ref x :: vs) (upd (upd H1 dx (.own x)) x (.ins C dx [])) (fun v H2 => v = .non ∧ Q (.ref x) H2) (E σ)
theorem pe_makeS (M : Mk X.K C f) (F : FnOk X.prog X.w X.K X.mg X.base CX k f fd ps sp) (hr : Room (k + 1) X.A) (hg : Gl X x) (hm : X.mg x = some (.ref C)) (hb : Binds X.K fd ps []) (hx : ∀ σ, PassesAt CX X σ (E σ))
    (ha : PA X (e :: es) t) (hdb : (x == ("__debug__" : Str)) = false := by decide) (he : starEach (e :: es) X.env = (false, eval e X.env) :: starEach es X.env := by rfl) (hpl : (backTo pos (starEach es X.env)).any (·.1) = false := by rfl) :
    PE X (.Call (.Name x p) (e :: es) [] pos) (tMakeS C sp E t) := by
  refine ⟨fun pins s σ H Q I h => ?_⟩
  refine wpAny_Call_Name_kw (ld_glob I hg hm ?_ hdb)
  refine PySem.W.callWith_K (h₀ := X.base) I.ok.mod.kin M.kp (thn (ha.run pos pins s σ H _ I h) fun us s1 ⟨vs, H1, I1, r, q⟩ => ⟨I1.kIn, ?_⟩) he hpl
  exact run_makeS M F hr hb (hx σ) I1 r q
end
end L2
/-! ### sum of a tuple of ints -/
namespace L2
open PySem PySem.Spec PyProof.Rows
def rSumT (K : PySem.W.Frag) : List V → Hp → VK → Prop := fun vs H Q => ∃ (a : Addr) (ns : List Int), vs = [V.ref a] ∧ SqT K H a (ns.map V.int) ∧ Q (.int ns.sum) H
theorem preSum_at (ns : List Int) : ∀ k, k ≤ ns.length → preSum (fun i => (ns[i]?).getD 0) k = (ns.take k).sum
  | 0, _ => by simp [preSum]
  | k + 1, h => by
    rw [preSum, preSum_at ns k (by omega), List.take_add_one, List.getElem?_eq_getElem (by omega : k < ns.length), List.sum_append]
    simp
theorem vals_ints_at : ∀ {ns : List Int} {its : List Value} {i : Nat} {v : Value}, Vals (ns.map V.int) its → its[i]? = some v → ∃ t, v = .int ((ns[i]?).getD 0) t
  | [], _, i, v, .nil, h => by simp at h
  | n :: ns, _, 0, v, .cons r t, h => by
    simp only [List.getElem?_cons_zero, Option.some.injEq] at h
    subst h
    obtain ⟨t, e⟩ := r
    exact ⟨t, e⟩
  | n :: ns, _, i + 1, v, .cons r t, h => by
    simp only [List.getElem?_cons_succ] at h
    simpa using vals_ints_at t h
theorem cr_sumT {X : Cx} (hc : X.calm = true) : CallR X (.builtin "sum") (rSumT X.K) := by
  intro pins s σ H xs us Q I hv h
  obtain ⟨a, ns, rfl, hq, q⟩ := h
  cases hv with
  | cons r t =>
    cases t
    cases r
    obtain ⟨its, rv, p, hz⟩ := I.tuple hq
    have p' : s.heap.IsTuple a its.toArray := p
    obtain ⟨o, ho, p2⟩ := id p'
    have hne : a ≠ s.heap.objs.size := Nat.ne_of_lt (Heap.lt_size ho)
    have hl := rv.length
    rw [List.length_map] at hl
    refine call_sum_walkG (wpAny_pyIter_tuple p' ⟨s.heap.objs.size, [s.heap.objs.size, a], [s.heap.objs.size], _, _, _, fun i => (ns[i]?).getD 0, rfl, Walks.tuple (A := X.A.in1) (I.ok.hd hc) _ a hne its.toArray, ⟨⟨_, Heap.get?_push_size _ rfl, rfl, rfl⟩, ⟨o, Heap.get?_push_of_some _ ho, p2⟩⟩, fun b hb => ?_, fun i v hi => ?_, fun h' tk t' hk => ?_⟩)
    · have h1 := Heap.lt_size ho
      simp only [List.mem_cons, List.not_mem_nil, or_false] at hb
      show b < (s.heap.push _).objs.size
      rw [PyProof.Rows.size_push']
      rcases hb with e | e
      · rw [e]
        exact Nat.lt_succ_self _
      · rw [e]
        exact Nat.lt_succ_of_lt h1
    · refine vals_ints_at rv ?_
      simpa using hi
    · refine ⟨.int (preSum (fun i => (ns[i]?).getD 0) its.toArray.size), H, I.kept (t' := tk) fun b o e => hk b o (fun m => ?_) (Heap.get?_push_of_some _ e), ⟨_, rfl⟩, ?_⟩
      · have h1 := Heap.lt_size e
        rw [List.mem_singleton.mp m] at h1
        exact Nat.lt_irrefl _ h1
      · have e : preSum (fun i => (ns[i]?).getD 0) its.toArray.size = ns.sum := by
          rw [List.size_toArray, ← hl, preSum_at ns _ (Nat.le_refl _), List.take_length]
        rw [e]
        exact q
end L2
/-! ### walks with an invariant on the heap alone: the inner for of a comprehension; zip in a generator expression -/
namespace L2
open PySem PySem.Spec PyProof.Rows
theorem passes_no {X : Cx} : Passes (L2.CX X.prog X.w) X (fun _ _ _ => False) := fun pins σ H s e s' I h => by
  obtain ⟨a, B, H', cls, d, _, _, _, _, _, _, _, h⟩ := h
  exact h.elim
section
variable {K : PySem.W.Frag} {a b : Addr} {xs ys : List V} {H0 : Hp} {B : V → Hp → (Hp → Prop) → Prop} {Nx : Hp → Prop}
theorem w_tup (Pv : Nat → Hp → Prop) (h0 : Pv 0 H0) (hl : ∀ i H, i ≤ xs.length → Pv i H → SqT K H a xs) (hs : ∀ i x H, xs[i]? = some x → Pv i H → B x H (Pv (i + 1))) (hd : ∀ H, Pv xs.length H → Nx H) :
    ∃ W : Nat → Nat → Hp → Prop, (∃ m, W 0 m H0) ∧ ∀ i m H, W i m H → ((Itt K a).stop i H ∧ Nx H) ∨ ((Itt K a).go i H ∧ ∃ N : Hp → Prop, (∀ H', N H' → ∃ m', m' < m ∧ W (i + 1) m' H') ∧ ∀ x H', (Itt K a).yld i H x H' → B x H' N) := by
  refine ⟨fun i m H => m = xs.length - i ∧ i ≤ xs.length ∧ Pv i H, ⟨xs.length, rfl, Nat.zero_le _, h0⟩, ?_⟩
  rintro i m H ⟨rfl, hi, p⟩
  have q := hl i H hi p
  by_cases hlt : i < xs.length
  · refine .inr ⟨⟨xs, _, q, List.getElem?_eq_getElem hlt⟩, Pv (i + 1), fun H' p' => ⟨_, by omega, rfl, hlt, p'⟩, fun x H' y => ?_⟩
    obtain ⟨rfl, y⟩ := y
    exact hs i x _ (y xs q) p
  · have e : i = xs.length := by omega
    subst e
    exact .inl ⟨⟨xs, q, Nat.le_refl _⟩, hd H p⟩
theorem w_list (Pv : Nat → Hp → Prop) (h0 : Pv 0 H0) (hl : ∀ i H, i ≤ xs.length → Pv i H → SqL K H a xs) (hs : ∀ i x H, xs[i]? = some x → Pv i H → B x H (Pv (i + 1))) (hd : ∀ H, Pv xs.length H → Nx H) :
    ∃ W : Nat → Nat → Hp → Prop, (∃ m, W 0 m H0) ∧ ∀ i m H, W i m H → ((Itl K a).stop i H ∧ Nx H) ∨ ((Itl K a).go i H ∧ ∃ N : Hp → Prop, (∀ H', N H' → ∃ m', m' < m ∧ W (i + 1) m' H') ∧ ∀ x H', (Itl K a).yld i H x H' → B x H' N) := by
  refine ⟨fun i m H => m = xs.length - i ∧ i ≤ xs.length ∧ Pv i H, ⟨xs.length, rfl, Nat.zero_le _, h0⟩, ?_⟩
  rintro i m H ⟨rfl, hi, p⟩
  have q := hl i H hi p
  by_cases hlt : i < xs.length
  · refine .inr ⟨⟨xs, _, q, List.getElem?_eq_getElem hlt⟩, Pv (i + 1), fun H' p' => ⟨_, by omega, rfl, hlt, p'⟩, fun x H' y => ?_⟩
    obtain ⟨rfl, y⟩ := y
    exact hs i x _ (y xs q) p
  · have e : i = xs.length := by omega
    subst e
    exact .inl ⟨⟨xs, q, Nat.le_refl _⟩, hd H p⟩
theorem w_range {lo : Int} {n : Nat} (Pv : Nat → Hp → Prop) (h0 : Pv 0 H0) (hs : ∀ i H, i < n → Pv i H → B (.int (lo + i)) H (Pv (i + 1))) (hd : ∀ H, Pv n H → Nx H) :
    ∃ W : Nat → Nat → Hp → Prop, (∃ m, W 0 m H0) ∧ ∀ i m H, W i m H → ((Itr lo n).stop i H ∧ Nx H) ∨ ((Itr lo n).go i H ∧ ∃ N : Hp → Prop, (∀ H', N H' → ∃ m', m' < m ∧ W (i + 1) m' H') ∧ ∀ x H', (Itr lo n).yld i H x H' → B x H' N) := by
  refine ⟨fun i m H => m = n - i ∧ i ≤ n ∧ Pv i H, ⟨n, rfl, Nat.zero_le _, h0⟩, ?_⟩
  rintro i m H ⟨rfl, hi, p⟩
  by_cases hlt : i < n
  · refine .inr ⟨hlt, Pv (i + 1), fun H' p' => ⟨_, by omega, rfl, hlt, p'⟩, fun x H' y => ?_⟩
    obtain ⟨rfl, rfl⟩ := y
    exact hs i _ hlt p
  · have e : i = n := by omega
    subst e
    exact .inl ⟨Nat.le_refl _, hd H p⟩
end
end L2
namespace GXP
open PySem PySem.Spec PyProof.Rows L2 RZ
section
variable {K : PySem.W.Frag} {a b : Addr} {xs ys : List V} {g : TG} {tt : TT} {te : TE} {vs : List Nat} {σ : L2.St} {cy : Cy} {Qe : List V → Hp → Prop} {H0 : Hp}
/-- zip of two tuples of one length -/
theorem gx_zipT (hn : xs.length = ys.length) (Pv : Nat → List V → Hp → Prop) (h0 : Pv 0 [] H0) (hl : ∀ i zs H, Pv i zs H → SqT K H a xs ∧ SqT K H b ys)
    (hs : ∀ i x y T zs H, xs[i]? = some x → ys[i]? = some y → Pv i zs H → H T = none → g (.ref T) (wipe σ vs) (upd H T (.tup [x, y])) fun σ2 H2 => wipe σ2 vs = wipe σ vs ∧ tt σ2 H2 fun b H3 => if b = true then te σ2 H3 fun y H4 => cy zs y H4 (Pv (i + 1)) else Pv (i + 1) zs H3)
    (hd : ∀ zs H, Pv ys.length zs H → Qe zs H) : ∃ W m, W 0 m [] H0 ∧ Turns (ItzT K a b) g tt te vs σ cy Qe W := by
  refine ⟨fun i m zs H => m = ys.length - i ∧ i ≤ ys.length ∧ Pv i zs H, ys.length, ⟨rfl, Nat.zero_le _, h0⟩, ?_⟩
  rintro i m zs H ⟨rfl, hi, p⟩
  obtain ⟨qx, qy⟩ := hl i zs H p
  by_cases hlt : i < ys.length
  · have hlx : i < xs.length := by omega
    refine .inr ⟨⟨xs, ys, _, _, qx, qy, List.getElem?_eq_getElem hlx, List.getElem?_eq_getElem hlt⟩, by omega, Pv (i + 1), fun zs' H' p' => ⟨_, by omega, rfl, hlt, p'⟩, fun v H' y => ?_⟩
    obtain ⟨T, x', y', rfl, hT, rfl, f1, f2⟩ := y
    exact hs i x' y' T zs H (f1 xs qx) (f2 ys qy) p hT
  · have e : i = ys.length := by omega
    subst e
    exact .inl ⟨⟨xs, ys, qx, qy, Or.inr (Nat.le_refl _)⟩, hd zs H p⟩
end
end GXP
/-! ### enumerate of a list or a tuple -/
namespace L2
open PySem PySem.Spec PyProof.Rows
theorem wp_if {α : Type} {M : Model} {A : Around} {E : Value → Shared → Prop} {s : Shared} {c : Bool} {x y : Sem α} {Q : α → Shared → Prop} (h1 : wpAny M A x Q E s) (h2 : wpAny M A y Q E s) : wpAny M A (if c = true then x else y) Q E s := by
  cases c
  · exact h2
  · exact h1
theorem call_enumerate_tup {prog : Program} {w : World} {A : Around} {E : Value → Shared → Prop} {s : Shared} {t : Addr} {items : Array Value} {Q : Value → Shared → Prop} (hI : s.heap.IsTuple t items)
    (hQ : ∀ (h' : Heap) (e : Addr), s.heap.objs.size ≤ e → e ≠ s.heap.objs.size → IsEnum h' e s.heap.objs.size 0 Value.none → h'.IsTupleIter s.heap.objs.size t 0 → (∀ (b : Addr) (o : Obj), s.heap.get? b = some o → h'.get? b = some o) → Q (.ref e) { s with heap := h' }) :
    wpAny (model prog w) A (call (.type "enumerate") [.ref t]) Q E s := by
  refine callType_codes (Q₁ := fun obj s1 => s1.TypeIs obj "enumerate" ∧ Q obj s1) F.called_enumerate (F.typeCall_enumerate_1 _) F.entry_object_init (codeAny_of_tree ?_) fun obj s1 h1 =>
    ⟨h1.1, F.args_object_init_2 obj _, object_init_meets F.called_enumerate.init.lookup F.called_enumerate.made (by decide) prog w A.in1 _ s1 ⟨h1.1, rfl, h1.2⟩⟩
  have pl : plainId "enumerate.__new__" = true := by decide +kernel
  show wpAny _ A.in1.in1 (do checkBuiltinCall "enumerate.__new__" ⟨[.type "enumerate", .ref t], []⟩; again (.builtin "enumerate.__new__" ⟨[.type "enumerate", .ref t], []⟩)) _ _ s
  refine wpAny_bind (wpAny_of_eq (F.newCall_enumerate_1 _) (wpAny_pure ⟨plainId_quiet pl _, codeAny_builtin F.entry_enumerate_new ?_⟩))
  rw [Around.under_plainId pl]
  unfold Builtin.«enumerate.__new__»
  have hsub : isSubtype (Value.type "enumerate") (Value.type "enumerate") = pure true := by rfl
  wp_walk using wpAny_pyIter_tuple hI
  refine wpAny_stack_any fun st => wpAny_pure ?_
  refine wp_if ?_ ?_
  all_goals
    refine wpAny_bind (wpAny_of_eq (show _ = pure (Value.ref t, none) from rfl) ?_)
    wp_walk using wpAny_pyIter_tuple hI
  all_goals
    have o1 : ((s.heap.push { cls := .type "tuple_iterator", data := .fields #[.ref t, .int 0 0] }).push { cls := .type "enumerate", data := .fields #[.none, .bool false, .ref s.heap.objs.size, rawInt 0, .none, .none] }).get? (s.heap.push { cls := .type "tuple_iterator", data := .fields #[.ref t, .int 0 0] }).objs.size = some { cls := .type "enumerate", data := .fields #[.none, .bool false, .ref s.heap.objs.size, rawInt 0, .none, .none] } := Heap.get?_push_size _ rfl
    refine ⟨⟨_, o1, rfl⟩, ?_⟩
    have g2 : ((s.heap.push { cls := .type "tuple_iterator", data := .fields #[.ref t, .int 0 0] }).push { cls := .type "enumerate", data := .fields #[.none, .bool false, .ref s.heap.objs.size, rawInt 0, .none, .none] }).get? s.heap.objs.size = some { cls := .type "tuple_iterator", data := .fields #[.ref t, .int 0 0] } := Heap.get?_push_of_some _ (Heap.get?_push_size _ rfl)
    have hz : (s.heap.push { cls := .type "tuple_iterator", data := .fields #[.ref t, .int 0 0] }).objs.size = s.heap.objs.size + 1 := PyProof.Rows.size_push' _ _
    have hq := hQ _ _ (by rw [hz]; exact Nat.le_succ _) (by rw [hz]; exact Nat.succ_ne_self _) o1 ⟨_, g2, rfl, rfl⟩ fun b o e => Heap.get?_push_of_some _ (Heap.get?_push_of_some _ e)
    exact hq
/-- enumerate of a tuple of n things -/
def IteT (K : PySem.W.Frag) (a : Addr) (n : Nat) : It where
  go := fun i H => ∃ xs x, SqT K H a xs ∧ xs[i]? = some x ∧ xs.length = n
  yld := fun i H v H' => ∃ T x, v = V.ref T ∧ H T = none ∧ H' = upd H T (.tup [V.int (i : Int), x]) ∧ ∀ xs : List V, SqT K H a xs → xs[i]? = some x
  stop := fun i H => ∃ xs, SqT K H a xs ∧ xs.length = n ∧ n ≤ i
theorem vals_get : ∀ {xs : List V} {its : List Value} {i : Nat} {u : Value}, Vals xs its → its[i]? = some u → ∃ x, xs[i]? = some x ∧ RelV x u
  | _, _, i, u, .nil, h => by simp at h
  | _, _, 0, u, .cons r t, h => by
    simp only [List.getElem?_cons_zero, Option.some.injEq] at h
    subst h
    exact ⟨_, rfl, r⟩
  | _, _, i + 1, u, .cons r t, h => by
    simp only [List.getElem?_cons_succ] at h
    obtain ⟨x, h1, h2⟩ := vals_get t h
    exact ⟨x, by simpa using h1, h2⟩
theorem turn_enumT {P : Program} {w : World} {K : PySem.W.Frag} {elts : List Expr} {kk : Nat} {tpos : Pos} {a e it : Addr} {n : Nat} :
    Turn P w K (.Tuple elts kk tpos) (IteT K a n) [e, it] e fun i h => (∃ old, IsEnum h e it (i : Int) old) ∧ h.IsTupleIter it a i ∧ e ≠ it ∧ i ≤ n := by
  have ne_of : ∀ {h : Heap} {i : Nat} {old : Value} {items : Array Value}, IsEnum h e it (i : Int) old → h.IsTupleIter it a i → h.IsTuple a items → e ≠ it → a ≠ it ∧ e ∉ [it, a] := fun he hi ha hne => by
    obtain ⟨o, ho, hc, hd⟩ := hi
    obtain ⟨o2, ho2, hc2, _⟩ := ha
    refine ⟨fun z => ?_, fun m => ?_⟩
    · rw [z, ho] at ho2
      cases ho2
      rw [hc] at hc2
      exact absurd (Value.type.inj hc2) (by decide)
    · simp only [List.mem_cons, List.not_mem_nil, or_false] at m
      rcases m with m | m
      · exact hne m
      · have he2 : _ = some _ := he
        rw [m] at he2
        have he3 := he2.symm.trans ho2
        cases he3
        exact absurd (Value.type.inj hc2) (by decide)
  refine ⟨List.mem_cons_self, fun i h tn b hb => ?_, fun i h h' tn hk => ?_, fun X hP hw hK hcalm i pins s σ H E I hfp tn go => ?_, fun X hP hw hK hcalm i pins s σ H E I hfp tn st => ?_, fun A i s Q E tn q => ?_⟩
  · obtain ⟨⟨old, he⟩, ⟨o, ho, hc, hd⟩, hne, hn⟩ := tn
    simp only [List.mem_cons, List.not_mem_nil, or_false] at hb
    rcases hb with rfl | rfl
    · exact ⟨_, he, fun v z => by cases z⟩
    · exact ⟨o, ho, fun v z => by rw [hd] at z; cases z⟩
  · obtain ⟨⟨old, he⟩, ⟨o, ho, hc, hd⟩, hne, hn⟩ := tn
    exact ⟨⟨old, hk e (by simp) _ he⟩, ⟨o, hk it (by simp) _ ho, hc, hd⟩, hne, hn⟩
  · subst hP
    subst hw
    subst hK
    obtain ⟨xs, x, hq, hx, hlen⟩ := go
    obtain ⟨its, rv, p, hz⟩ := I.tuple hq
    have p' : s.heap.IsTuple a its.toArray := p
    obtain ⟨⟨old, he⟩, hi, hne, hn⟩ := tn
    obtain ⟨h1, h2⟩ := ne_of he hi p' hne
    have W := WalksT.enumerateD (prog := X.prog) (w := X.w) (A := X.A) (Draws.tuple (A := X.A.in1) (I.ok.hd hcalm) it a h1 its.toArray) e hne h2 (by simp)
    have hl := rv.length
    have hlt := (List.getElem?_eq_some_iff.mp hx).1
    refine W.item i s _ E (by rw [List.size_toArray]; omega) ⟨⟨old, he⟩, hi, p'⟩ (fun T vals h' tk hv hT hTup hmid hk => ⟨_, rfl, ?_⟩)
    obtain ⟨t, x', hx', rfl⟩ := hv
    have hTw := W.apart _ _ _ hmid
    refine W.go elts kk tpos i T { s with heap := h', toks := tk } _ E hmid (fun h2 hst hk2 => ?_)
    obtain ⟨⟨old2, he2⟩, hi2, _⟩ := hst
    obtain ⟨x2, hx2, hr⟩ := vals_get rv (by simpa using hx')
    have ex : x2 = x := Option.some.inj (hx2.symm.trans hx)
    subst ex
    obtain ⟨oT, hoT, hcT, nT, hdT⟩ := hTup
    have hn0 : ∀ b ∈ [e, it], b ≠ T := fun b hb z => by
      refine absurd hT (Nat.not_le_of_lt ?_)
      rw [← z]
      simp only [List.mem_cons, List.not_mem_nil, or_false] at hb
      rcases hb with rfl | rfl
      · exact Heap.lt_size he
      · obtain ⟨o, ho, _⟩ := hi
        exact Heap.lt_size ho
    refine ⟨.ref T, upd H T (.tup [V.int (i : Int), x2]), I.turnedNew (ch := [e, it]) (fun b o hb eo => hk2 b o hb (hk b o hb eo)) hfp hT
      (show ObjOk X.prog X.w _ _ _ (.tup [V.int (i : Int), x2]) from ⟨by rw [sizeLine_eq]; simp, [.int (i : Int) t, x'], .cons ⟨t, rfl⟩ (.cons hr .nil), oT, hk2 _ _ hTw hoT, hcT, nT, hdT⟩), rfl, ⟨T, x2, rfl, I.hok.fresh hT, rfl, fun ys hys => by rw [I.tuple_inj hys hq]; exact hx⟩, ⟨⟨old2, he2⟩, hi2, hne, by omega⟩, fun b hb => ?_⟩
    rw [upd_ne (hn0 b hb)]
    exact (hfp b hb).1
  · subst hP
    subst hw
    subst hK
    obtain ⟨xs, hq, hlen, hle⟩ := st
    obtain ⟨its, rv, p, hz⟩ := I.tuple hq
    have p' : s.heap.IsTuple a its.toArray := p
    obtain ⟨⟨old, he⟩, hi, hne, hn⟩ := tn
    obtain ⟨h1, h2⟩ := ne_of he hi p' hne
    have W := WalksT.enumerateD (prog := X.prog) (w := X.w) (A := X.A) (Draws.tuple (A := X.A.in1) (I.ok.hd hcalm) it a h1 its.toArray) e hne h2 (by simp)
    have hl := rv.length
    have ei : i = its.toArray.size := by rw [List.size_toArray]; omega
    refine W.done s _ E ⟨⟨old, by rw [← ei]; exact he⟩, by rw [← ei]; exact hi, p'⟩ (fun h' tk hk => ⟨rfl, I.turnedL (ch := [e, it]) hk hfp⟩)
  · obtain ⟨⟨old, he⟩, _⟩ := tn
    exact wpAny_pyIter_enum he q
/-- enumerate(l), l a tuple -/
def iEnumT (K : PySem.W.Frag) (ta : TA) : TI := fun σ H R => ta σ H fun vs H1 => ∃ a xs, vs = [.ref a] ∧ SqT K H1 a xs ∧ R (IteT K a xs.length) H1
theorem pi_enumT {X : Cx} {e : Expr} {ta : TA} {p pos tpos : Pos} {elts : List Expr} {kk : Nat} (hcalm : X.calm = true) (hg : Gl X "enumerate") (hm : X.mg "enumerate" = none) (ha : PA X [e] ta)
    (he : starEach [e] X.env = (false, eval e X.env) :: starEach [] X.env := by rfl) : PI X (.Tuple elts kk tpos) (.Call (.Name "enumerate" p) [e] [] pos) (iEnumT X.K ta) := by
  refine ⟨fun pins s σ H R I h => ?_⟩
  refine wpAny_Call_Name_kw (ld_blt I hg hm (by decide +kernel : bootBuiltins "enumerate" = some (.type "enumerate")) (PyProof.Rows.callWith_type1 (thn (ha.run pos pins s σ H _ I h) fun us s1 ⟨vs, H1, I1, r, a, xs, ev, hq, q⟩ => ?_) he (by rfl)))
  subst ev
  cases r with
  | cons r t =>
    cases t
    cases r
    obtain ⟨its, rv, p', hz⟩ := I1.tuple hq
    refine call_enumerate_tup (show s1.heap.IsTuple a its.toArray from p') fun h' e1 hle hne hE hT hk => ?_
    have I2 : Inv X pins σ H1 { s1 with heap := h' } := I1.kept (t' := s1.toks) hk
    refine wpAny_pyIter_enum hE ⟨e1, [e1, s1.heap.objs.size], _, _, H1, rfl, I2, turn_enumT, ⟨⟨_, hE⟩, hT, hne, Nat.zero_le _⟩, fun b hb => ?_, q⟩
    simp only [List.mem_cons, List.not_mem_nil, or_false] at hb
    rcases hb with rfl | rfl
    · exact I1.fpOk hle (I1.hok.fresh hle)
    · exact I1.fpOk (Nat.le_refl _) (I1.hok.fresh (Nat.le_refl _))
/-- a walk that counts the things of a list or a tuple that stood in H0 -/
structure EnumW (J : It) (H0 : Hp) (xs : List V) : Prop where
  go : ∀ i H, EXT.Ext H0 H → i < xs.length → J.go i H
  stop : ∀ H, EXT.Ext H0 H → J.stop xs.length H
  yld : ∀ i H v H', EXT.Ext H0 H → J.yld i H v H' → ∃ T x, v = V.ref T ∧ H T = none ∧ H' = upd H T (.tup [V.int (i : Int), x]) ∧ xs[i]? = some x
theorem enumW_list {K : PySem.W.Frag} {H0 : Hp} {a : Addr} {xs : List V} (h : SqL K H0 a xs) : EnumW (Ite K a) H0 xs :=
  ⟨fun i H s hi => ⟨xs, _, s.seq h, List.getElem?_eq_getElem hi⟩, fun H s => ⟨xs, s.seq h, Nat.le_refl _⟩, fun i H v H' s ⟨T, x, e1, e2, e3, e4⟩ => ⟨T, x, e1, e2, e3, e4 xs (s.seq h)⟩⟩
theorem enumW_tup {K : PySem.W.Frag} {H0 : Hp} {a : Addr} {xs : List V} (h : SqT K H0 a xs) : EnumW (IteT K a xs.length) H0 xs :=
  ⟨fun i H s hi => ⟨xs, _, s.tup h, List.getElem?_eq_getElem hi, rfl⟩, fun H s => ⟨xs, s.tup h, rfl, Nat.le_refl _⟩, fun i H v H' s ⟨T, x, e1, e2, e3, e4⟩ => ⟨T, x, e1, e2, e3, e4 xs (s.tup h)⟩⟩
/-- enumerate(l), l a list or a tuple -/
def iEnumS (K : PySem.W.Frag) (ta : TA) : TI := fun σ H R => ta σ H fun vs H1 => ∃ a xs H0, vs = [.ref a] ∧ EXT.Ext H0 H1 ∧ (SqL K H0 a xs ∨ SqT K H0 a xs) ∧ ∀ J, EnumW J H0 xs → R J H1
theorem pi_enumS {X : Cx} {e : Expr} {ta : TA} {p pos tpos : Pos} {elts : List Expr} {kk : Nat} (hcalm : X.calm = true) (hg : Gl X "enumerate") (hm : X.mg "enumerate" = none) (ha : PA X [e] ta)
    (he : starEach [e] X.env = (false, eval e X.env) :: starEach [] X.env := by rfl) : PI X (.Tuple elts kk tpos) (.Call (.Name "enumerate" p) [e] [] pos) (iEnumS X.K ta) := by
  refine ⟨fun pins s σ H R I h => ?_⟩
  refine wpAny_Call_Name_kw (ld_blt I hg hm (by decide +kernel : bootBuiltins "enumerate" = some (.type "enumerate")) (PyProof.Rows.callWith_type1 (thn (ha.run pos pins s σ H _ I h) fun us s1 ⟨vs, H1, I1, r, a, xs, H0, ev, hE0, hq, q⟩ => ?_) he (by rfl)))
  subst ev
  cases r with
  | cons r t =>
    cases t
    cases r
    rcases hq with hq | hq
    · obtain ⟨its, rv, p', hz⟩ := I1.list (hE0.seq hq)
      refine call_enumerate_list p'.isList fun h' hE hT hsz hk => ?_
      have I2 : Inv X pins σ H1 { s1 with heap := h' } := I1.kept (t' := s1.toks) hk
      have hle : s1.heap.objs.size ≤ s1.heap.objs.size + 1 := Nat.le_succ _
      refine wpAny_pyIter_enum hE ⟨s1.heap.objs.size + 1, [s1.heap.objs.size + 1, s1.heap.objs.size], _, _, H1, rfl, I2, turn_enum a _ _, ⟨⟨_, hE⟩, hT, Nat.succ_ne_self _⟩, fun b hb => ?_, q _ (enumW_list hq)⟩
      simp only [List.mem_cons, List.not_mem_nil, or_false] at hb
      rcases hb with rfl | rfl
      · exact I1.fpOk hle (I1.hok.fresh hle)
      · exact I1.fpOk (Nat.le_refl _) (I1.hok.fresh (Nat.le_refl _))
    · obtain ⟨its, rv, p', hz⟩ := I1.tuple (hE0.tup hq)
      refine call_enumerate_tup (show s1.heap.IsTuple a its.toArray from p') fun h' e1 hle hne hE hT hk => ?_
      have I2 : Inv X pins σ H1 { s1 with heap := h' } := I1.kept (t' := s1.toks) hk
      refine wpAny_pyIter_enum hE ⟨e1, [e1, s1.heap.objs.size], _, _, H1, rfl, I2, turn_enumT, ⟨⟨_, hE⟩, hT, hne, Nat.zero_le _⟩, fun b hb => ?_, q _ (enumW_tup hq)⟩
      simp only [List.mem_cons, List.not_mem_nil, or_false] at hb
      rcases hb with rfl | rfl
      · exact I1.fpOk hle (I1.hok.fresh hle)
      · exact I1.fpOk (Nat.le_refl _) (I1.hok.fresh (Nat.le_refl _))
section
variable {J : It} {H0 : Hp} {xs : List V}
theorem w_enum {B : V → Hp → (Hp → Prop) → Prop} {Nx : Hp → Prop} {H1 : Hp} (w : EnumW J H0 xs) (Pv : Nat → Hp → Prop) (h0 : Pv 0 H1) (hl : ∀ i H, i ≤ xs.length → Pv i H → EXT.Ext H0 H)
    (hs : ∀ i x T H, xs[i]? = some x → Pv i H → H T = none → B (.ref T) (upd H T (.tup [V.int (i : Int), x])) (Pv (i + 1))) (hd : ∀ H, Pv xs.length H → Nx H) :
    ∃ W : Nat → Nat → Hp → Prop, (∃ m, W 0 m H1) ∧ ∀ i m H, W i m H → (J.stop i H ∧ Nx H) ∨ (J.go i H ∧ ∃ N : Hp → Prop, (∀ H', N H' → ∃ m', m' < m ∧ W (i + 1) m' H') ∧ ∀ x H', J.yld i H x H' → B x H' N) := by
  refine ⟨fun i m H => m = xs.length - i ∧ i ≤ xs.length ∧ Pv i H, ⟨xs.length, rfl, Nat.zero_le _, h0⟩, ?_⟩
  rintro i m H ⟨rfl, hi, p⟩
  have s := hl i H hi p
  by_cases hlt : i < xs.length
  · refine .inr ⟨w.go i H s hlt, Pv (i + 1), fun H' p' => ⟨_, by omega, rfl, hlt, p'⟩, fun v H' y => ?_⟩
    obtain ⟨T, x, rfl, hT, rfl, hx⟩ := w.yld i H v H' s y
    exact hs i x T H hx p hT
  · have e : i = xs.length := by omega
    subst e
    exact .inl ⟨w.stop H s, hd H p⟩
theorem for_enum {g : TG} {tb : TS} {D : Ends} {σ0 : St} {H1 : Hp} (w : EnumW J H0 xs) (Pv : Nat → St → Hp → Prop) (h0 : Pv 0 σ0 H1) (hl : ∀ i σ H, i ≤ xs.length → Pv i σ H → EXT.Ext H0 H)
    (hs : ∀ i x T σ H, xs[i]? = some x → Pv i σ H → H T = none → g (.ref T) σ (upd H T (.tup [V.int (i : Int), x])) fun σ2 H2 => tb { D with nx := Pv (i + 1), ct := Pv (i + 1), bk := D.nx } σ2 H2) (hd : ∀ σ H, Pv xs.length σ H → D.nx σ H) :
    ∃ W : Nat → Nat → St → Hp → Prop, (∃ m, W 0 m σ0 H1) ∧ ∀ i m σ H, W i m σ H →
      (J.stop i H ∧ D.nx σ H) ∨ (J.go i H ∧ ∃ N : St → Hp → Prop, (∀ σ' H', N σ' H' → ∃ m', m' < m ∧ W (i + 1) m' σ' H') ∧ ∀ x H', J.yld i H x H' → g x σ H' fun σ2 H2 => tb { D with nx := N, ct := N, bk := D.nx } σ2 H2) := by
  refine ⟨fun i m σ H => m = xs.length - i ∧ i ≤ xs.length ∧ Pv i σ H, ⟨xs.length, rfl, Nat.zero_le _, h0⟩, ?_⟩
  rintro i m σ H ⟨rfl, hi, p⟩
  have s := hl i σ H hi p
  by_cases hlt : i < xs.length
  · refine .inr ⟨w.go i H s hlt, Pv (i + 1), fun σ' H' p' => ⟨_, by omega, rfl, hlt, p'⟩, fun v H' y => ?_⟩
    obtain ⟨T, x, rfl, hT, rfl, hx⟩ := w.yld i H v H' s y
    exact hs i x T σ H hx p hT
  · have e : i = xs.length := by omega
    subst e
    exact .inl ⟨w.stop H s, hd σ H p⟩
end
/-- a walk over a list or a tuple that stood in H0 -/
structure SeqW (J : It) (H0 : Hp) (xs : List V) : Prop where
  go : ∀ i H, EXT.Ext H0 H → i < xs.length → J.go i H
  stop : ∀ H, EXT.Ext H0 H → J.stop xs.length H
  yld : ∀ i H v H', EXT.Ext H0 H → J.yld i H v H' → H' = H ∧ xs[i]? = some v
theorem seqW_list {K : PySem.W.Frag} {H : Hp} {a : Addr} {xs : List V} (h : SqL K H a xs) : SeqW (Itl K a) H xs := ⟨fun i H s hi => ⟨xs, _, s.seq h, List.getElem?_eq_getElem hi⟩, fun H s => ⟨xs, s.seq h, Nat.le_refl _⟩, fun i H v H' s y => ⟨y.1, y.2 xs (s.seq h)⟩⟩
theorem seqW_tup {K : PySem.W.Frag} {H : Hp} {a : Addr} {xs : List V} (h : SqT K H a xs) : SeqW (Itt K a) H xs := ⟨fun i H s hi => ⟨xs, _, s.tup h, List.getElem?_eq_getElem hi⟩, fun H s => ⟨xs, s.tup h, Nat.le_refl _⟩, fun i H v H' s y => ⟨y.1, y.2 xs (s.tup h)⟩⟩
/-- a list or a tuple, walked alike -/
def iSeqW (K : PySem.W.Frag) (tl : TE) : TI := fun σ H R => tl σ H fun x H1 => ∃ a xs H0, x = .ref a ∧ EXT.Ext H0 H1 ∧ (SqL K H0 a xs ∨ SqT K H0 a xs) ∧ ∀ J, SeqW J H0 xs → R J H1
theorem pi_seqW {X : Cx} {tg l : Expr} {tl : TE} (hl : PE X l tl) : PI X tg l (iSeqW X.K tl) := by
  refine ⟨fun pins s σ H R I h => ?_⟩
  refine thn (hl.run pins s σ H _ I h) fun v s1 ⟨x, H1, I1, r1, a, xs, H0, e, hE0, hq, q⟩ => ?_
  subst e
  cases r1
  rcases hq with hq | hq
  · obtain ⟨its, rv, p, hz⟩ := I1.list (hE0.seq hq)
    refine wpAny_pyIter_list p.isList ⟨s1.heap.objs.size, [s1.heap.objs.size], _, _, H1, rfl, I1.kept (t' := s1.toks) fun b o e => Heap.get?_push_of_some _ e, turn_list a _, ⟨_, Heap.get?_push_size _ rfl, rfl, rfl⟩, fun b hb => ?_, q _ (seqW_list hq)⟩
    obtain rfl : b = s1.heap.objs.size := by simpa using hb
    exact I1.fpOk (Nat.le_refl _) (I1.hok.fresh (Nat.le_refl _))
  · obtain ⟨its, rv, p, hz⟩ := I1.tuple (hE0.tup hq)
    refine wpAny_pyIter_tuple (show s1.heap.IsTuple a its.toArray from p) ⟨s1.heap.objs.size, [s1.heap.objs.size], _, _, H1, rfl, I1.kept (t' := s1.toks) fun b o e => Heap.get?_push_of_some _ e, turn_tuple a _, ⟨_, Heap.get?_push_size _ rfl, rfl, rfl⟩, fun b hb => ?_, q _ (seqW_tup hq)⟩
    obtain rfl : b = s1.heap.objs.size := by simpa using hb
    exact I1.fpOk (Nat.le_refl _) (I1.hok.fresh (Nat.le_refl _))
theorem w_seq {J : It} {H0 : Hp} {xs : List V} {B : V → Hp → (Hp → Prop) → Prop} {Nx : Hp → Prop} {H1 : Hp} (w : SeqW J H0 xs) (Pv : Nat → Hp → Prop) (h0 : Pv 0 H1) (hl : ∀ i H, i ≤ xs.length → Pv i H → EXT.Ext H0 H)
    (hs : ∀ i x H, xs[i]? = some x → Pv i H → B x H (Pv (i + 1))) (hd : ∀ H, Pv xs.length H → Nx H) :
    ∃ W : Nat → Nat → Hp → Prop, (∃ m, W 0 m H1) ∧ ∀ i m H, W i m H → (J.stop i H ∧ Nx H) ∨ (J.go i H ∧ ∃ N : Hp → Prop, (∀ H', N H' → ∃ m', m' < m ∧ W (i + 1) m' H') ∧ ∀ x H', J.yld i H x H' → B x H' N) := by
  refine ⟨fun i m H => m = xs.length - i ∧ i ≤ xs.length ∧ Pv i H, ⟨xs.length, rfl, Nat.zero_le _, h0⟩, ?_⟩
  rintro i m H ⟨rfl, hi, p⟩
  have s := hl i H hi p
  by_cases hlt : i < xs.length
  · refine .inr ⟨w.go i H s hlt, Pv (i + 1), fun H' p' => ⟨_, by omega, rfl, hlt, p'⟩, fun v H' y => ?_⟩
    obtain ⟨rfl, hx⟩ := w.yld i H v H' s y
    exact hs i v _ hx p
  · have e : i = xs.length := by omega
    subst e
    exact .inl ⟨w.stop H s, hd H p⟩
end L2
/-! ### o[i] of a list, by values; sorted of a tuple of ints -/
namespace AUG
open PySem PySem.Spec PyProof.Rows L2
section
variable {X : Cx}
def rGetL (K : PySem.W.Frag) : V → V → Hp → VK → Prop := fun x y H Q => ∃ p xs i v, x = .ref p ∧ y = .int i ∧ 0 ≤ i ∧ SqL K H p xs ∧ xs[i.toNat]? = some v ∧ Q v H
theorem get_list : PGet X (rGetL X.K) := by
  intro pins s σ H x y v u Q I rx ry h
  obtain ⟨p, xs, i, z, rfl, rfl, h0, hq, he, q⟩ := h
  cases rx
  obtain ⟨t, rfl⟩ := ry
  obtain ⟨its, r, pl, hz⟩ := I.list hq
  obtain ⟨w, ew, rw'⟩ := r.get he
  have hl := r.length
  have hn := line63
  have hlt := (List.getElem?_eq_some_iff.mp he).1
  exact wpAny_getItem_list pl.isList h0 (by omega) (by simpa using ew) ⟨z, H, I, rw', q⟩
theorem sorted_tup {prog : Program} {w : World} {A : Around} {E : Value → Shared → Prop} {s : Shared} {t : Addr} {vs : List Value} {ns : List Int} {Q : Value → Shared → Prop} (ht : IsTup s.heap t vs.toArray) (hI : IntsAre vs ns) (h64 : vs.length < 64)
    (h : ∀ (h1 h' : Heap) (e : Nat) (out : Array Value) (ns' : List Int), (∀ b o, s.heap.get? b = some o → h1.get? b = some o) → (∀ b o, h1.get? b = some o → h'.get? b = some o) → h'.get? h1.objs.size = some (seqObj "list" out e) → IntsAre out.toList ns' → ns'.Perm ns → ns'.Pairwise (· ≤ ·) → Q (.ref h1.objs.size) { s with heap := h' }) :
    wpAny (model prog w) A (call (.builtin "sorted") [.ref t]) Q E s := by
  obtain ⟨o, ho, hc, n, hd⟩ := ht
  have hz : vs.length ≤ sizeLine := by rw [sizeLine_eq]; omega
  refine Calls.call_function_entry kind_sorted plain_sorted entry_sorted (args_sorted1 _) ?_
  unfold Builtin.«sorted»
  refine wpAny_bind (m := checkCount "sorted" 1 1 _) (wpAny_pure ?_)
  refine wpAny_bind (wpAny_collect_seq (T := "tuple") t (.inr rfl) ho hc hd (fun h1 k1 => ?_) (by simpa using hz))
  show wpAny _ _ _ _ _ _
  have e0 : vs.toArray.toList = vs := rfl
  rw [e0]
  refine wpAny_bind (wpAny_newList (s := { s with heap := h1 }) ?_ hz)
  have hoL : (h1.push (seqObj "list" vs.toArray 0)).get? h1.objs.size = some (seqObj "list" vs.toArray 0) := Heap.get?_push_size _ rfl
  show wpAny _ _ _ _ _ { s with heap := h1.push (seqObj "list" vs.toArray 0) }
  refine wpAny_bind (wpAny_holding (wpAny_call_entry slot_list_sort ⟨_, hoL, rfl⟩ entry_list_sort (list_sort_tree (s := { s with heap := h1.push (seqObj "list" vs.toArray 0) }) hoL hI h64 fun out ns' a1 a2 a3 => ⟨_, rfl, ?_⟩) (args_list_sort _)))
  obtain ⟨e, he⟩ := sortedHeap_at (out := out) hoL
  refine wpAny_pure ⟨_, rfl, h h1 _ e out ns' k1 (fun b o hb1 => ?_) he a1 a2 a3⟩
  have hlt := Heap.lt_size hb1
  rw [sortedHeap_old (Nat.ne_of_lt hlt) (by rw [size_push']; exact Nat.lt_succ_of_lt hlt)]
  exact Heap.get?_push_of_some _ hb1
/-- sorted(t), ints -/
def rSortedTu (K : PySem.W.Frag) : List V → Hp → VK → Prop := fun vs H Q => ∃ (a : Addr) (ns : List Int), vs = [V.ref a] ∧ SqT K H a (ns.map V.int) ∧ ns.length < 64 ∧
  ∀ (ns' : List Int) (p : Addr), ns'.Perm ns → ns'.Pairwise (· ≤ ·) → H p = none → Q (.ref p) (upd H p (.lst (ns'.map V.int)))
theorem cr_sortedTu : CallR X (.builtin "sorted") (rSortedTu X.K) := by
  intro pins s σ H vs us Q I r h
  obtain ⟨a, ns, rfl, hs, h64, q⟩ := h
  obtain ⟨its, rv, ht, _⟩ := I.tuple hs
  rw [Vals.ref1 r]
  have hi := rv.ints
  refine sorted_tup ht hi (by rw [hi.length]; exact h64) fun g h' e out ns' k1 kp he h1 h2 h3 => ?_
  have hlen : (ns'.map V.int).length ≤ sizeLine := by rw [List.length_map, h2.length_eq]; exact small64 h64
  have I1 : Inv X pins σ H { s with heap := g } := I.kept (t' := s.toks) k1
  exact ⟨.ref _, upd H g.objs.size (.lst (ns'.map V.int)), I1.laid (t' := s.toks) kp (Nat.le_refl _) ⟨hlen, out.toList, e, vals_of_ints h1, he⟩, rfl, q ns' _ h2 h3 (I1.hok.fresh (Nat.le_refl _))⟩
/-- an int's truth -/
theorem tru_int : TruR X (fun x H Q => ∃ i : Int, x = .int i ∧ Q (i != 0) H) := by
  intro pins s σ H x v Q I rx h
  obtain ⟨i, rfl, q⟩ := h
  exact tru_ok pins s σ H (.int i) v Q I rx ⟨_, rfl, q⟩
def tTruI (ta : TE) : TT := fun σ H Q => ta σ H fun x H' => ∃ i : Int, x = .int i ∧ Q (i != 0) H'
theorem pt_truthI {a : Expr} {ta : TE} (ha : PE X a ta) (he : ∀ whole, isTrue a X.env whole = (do let v ← whole; standAt a.pos; holding [v] (truthy v))) : PT X a (tTruI ta) :=
  ⟨fun pins s σ H Q I h => isTrue_plain (thn (ha.run pins s σ H _ I h) fun v s1 ⟨x, H1, I1, r1, q1⟩ => tru_int pins s1 σ H1 x v Q I1 r1 q1) (he _)⟩
end
end AUG
/-! ### a tuple times a number from 0 on; enumerate in a generator expression -/
namespace L2
open PySem PySem.Spec PyProof.Rows
theorem tuple_mul1 (l : Addr) (items : Array Value) (n : Nat) (dd : Option Addr) (sl : Array (Option Value)) (u : Tok) :
    Meets (Builtin.«tuple.__mul__» ⟨[.ref l, .int 1 u], []⟩) (fun _ R s => s.heap.get? l = some { cls := .type "tuple", dict := dd, data := .seq items n, slots := sl } ∧ R (.ok (.ret (Value.ref l))) s) :=
  .of_wp fun prog w A R s h => by
    obtain ⟨hp, g, d, tk, os⟩ := s
    obtain ⟨hl, h⟩ := h
    have f1 := AutoSeq1.idx_int
    wp_walk using wpAny_loadPart' hl
    exact ⟨_, rfl, h⟩
theorem tuple_mul0 (l : Addr) (items : Array Value) (n : Nat) (dd : Option Addr) (sl : Array (Option Value)) (u : Tok) (hne : items.isEmpty = false) :
    Meets (Builtin.«tuple.__mul__» ⟨[.ref l, .int 0 u], []⟩) (fun _ R s => s.heap.get? l = some { cls := .type "tuple", dict := dd, data := .seq items n, slots := sl } ∧
      R (.ok (.ret (Value.ref s.heap.objs.size))) { s with heap := s.heap.push { cls := Value.type "tuple", data := Data.seq #[] }, toks := s.toks }) :=
  .of_wp fun prog w A R s h => by
    obtain ⟨hp, g, d, tk, os⟩ := s
    obtain ⟨hl, h⟩ := h
    have f1 := AutoSeq1.idx_int
    wp_walk using wpAny_loadPart' hl
    exact ⟨_, rfl, h⟩
/-- t * k, t a tuple that is not (): t itself for 1 -/
def rRepA (K : PySem.W.Frag) : R2 := fun x y H Q => ∃ l k xs, x = .ref l ∧ y = .int k ∧ SqT K H l xs ∧ xs ≠ [] ∧ 0 ≤ k ∧ k ≤ 1000 ∧ xs.length ≤ 1000 ∧ (k = 1 → Q (.ref l) H) ∧ (k ≠ 1 → ∀ p, H p = none → Q (.ref p) (upd H p (.tup (List.replicate k.toNat xs).flatten)))
theorem op_repA {X : Cx} : OpR X (binaryOp .Mult) (rRepA X.K) := by
  intro pins s σ H x y v u Q I rx ry h
  obtain ⟨l, k, xs, rfl, rfl, hT, hne, h0, h2, hz, q1, q2⟩ := h
  by_cases k2 : 2 ≤ k
  · exact op_repT pins s σ H _ _ v u Q I rx ry ⟨l, k, xs, rfl, rfl, hT, hne, k2, h2, hz, q2 (by omega)⟩
  cases rx
  obtain ⟨t, rfl⟩ := ry
  obtain ⟨its, r, ⟨⟨cls, dd, data, sl⟩, ho, hc, n, hd⟩, hs⟩ := I.tuple hT
  simp only at hc hd
  subst hc hd
  have hle : its.length = xs.length := r.length.symm
  have hn : its ≠ [] := fun e => hne (by
    rw [e] at hle
    exact List.eq_nil_of_length_eq_zero hle.symm)
  have hi : its.toArray.isEmpty = false := by
    cases its with
    | nil => exact absurd rfl hn
    | cons a b => rfl
  by_cases k1 : k = 1
  · subst k1
    exact wpAny_binaryOp_repeat_ref (T := "tuple") (U := "int") (by decide) ⟨_, ho, rfl⟩ (fun s' => typeIs_int s' 1 t) noFill_tuple_mul F.fills_int_mul F.slot_int_rmul repeat_tuple F.slot_int_index.lookup
      (call_meets F.slot_int_rmul (typeIs_int s 1 t) F.entry_int_rmul (F.args_int_rmul_2 _ _) (int_rmul_tuple 1 t l its.toArray n dd sl)
        ⟨ho, rfl, ⟨_, ho, rfl⟩, call_meets F.slot_tuple_mul ⟨_, ho, rfl⟩ F.entry_tuple_mul (F.args_tuple_mul_2 _ _) (tuple_mul1 l its.toArray n dd sl t) ⟨ho, ⟨.ref l, H, I, rfl, q1 rfl⟩⟩⟩)
  · obtain rfl : k = 0 := by omega
    refine wpAny_binaryOp_repeat_ref (T := "tuple") (U := "int") (by decide) ⟨_, ho, rfl⟩ (fun s' => typeIs_int s' 0 t) noFill_tuple_mul F.fills_int_mul F.slot_int_rmul repeat_tuple F.slot_int_index.lookup
      (call_meets F.slot_int_rmul (typeIs_int s 0 t) F.entry_int_rmul (F.args_int_rmul_2 _ _) (int_rmul_tuple 0 t l its.toArray n dd sl)
        ⟨ho, rfl, ⟨_, ho, rfl⟩, call_meets F.slot_tuple_mul ⟨_, ho, rfl⟩ F.entry_tuple_mul (F.args_tuple_mul_2 _ _) (tuple_mul0 l its.toArray n dd sl t hi) ⟨ho, ?_⟩⟩)
    refine ⟨.ref s.heap.objs.size, _, I.laid (t' := s.toks) (o := .tup []) (fun b ob q => Heap.get?_push_of_some _ q) (Nat.le_refl _) ?_, rfl, q2 (by decide) _ (I.hok.fresh (Nat.le_refl _))⟩
    exact ⟨Nat.zero_le _, [], .nil, IsTup.new _ _⟩
end L2
namespace GXP
open PySem PySem.Spec PyProof.Rows L2
section
variable {J : It} {H0 : Hp} {xs : List V} {g : TG} {tt : TT} {te : TE} {vs : List Nat} {σ : L2.St} {cy : Cy} {Qe : List V → Hp → Prop} {H1 : Hp}
theorem gx_enum (w : EnumW J H0 xs) (Pv : Nat → List V → Hp → Prop) (h0 : Pv 0 [] H1) (hl : ∀ i ys H, i ≤ xs.length → Pv i ys H → EXT.Ext H0 H)
    (hs : ∀ i x T ys H, xs[i]? = some x → Pv i ys H → H T = none → g (.ref T) (wipe σ vs) (upd H T (.tup [V.int (i : Int), x])) fun σ2 H2 => wipe σ2 vs = wipe σ vs ∧ tt σ2 H2 fun b H3 => if b = true then te σ2 H3 fun y H4 => cy ys y H4 (Pv (i + 1)) else Pv (i + 1) ys H3)
    (hd : ∀ ys H, Pv xs.length ys H → Qe ys H) : ∃ W m, W 0 m [] H1 ∧ Turns J g tt te vs σ cy Qe W := by
  refine ⟨fun i m ys H => m = xs.length - i ∧ i ≤ xs.length ∧ Pv i ys H, xs.length, ⟨rfl, Nat.zero_le _, h0⟩, ?_⟩
  rintro i m ys H ⟨rfl, hi, p⟩
  have s := hl i ys H hi p
  by_cases hlt : i < xs.length
  · refine .inr ⟨w.go i H s hlt, by omega, Pv (i + 1), fun ys' H' p' => ⟨_, by omega, rfl, hlt, p'⟩, fun v H' y => ?_⟩
    obtain ⟨T, x, rfl, hT, rfl, hx⟩ := w.yld i H v H' s y
    exact hs i x T ys H hx p hT
  · have e : i = xs.length := by omega
    subst e
    exact .inl ⟨w.stop H s, hd ys H p⟩
end
end GXP
namespace K04
def gs (n d : Int) : Int := if d < 0 then -((Nat.gcd n.natAbs d.natAbs : Nat) : Int) else ((Nat.gcd n.natAbs d.natAbs : Nat) : Int)
def F (n d : Int) : Int × Int := (n.fdiv (gs n d), d.fdiv (gs n d))
theorem gs_ne {n d : Int} (h : d ≠ 0) : gs n d ≠ 0 := by
  have h1 : Nat.gcd n.natAbs d.natAbs ≠ 0 := fun e => by
    have := (Nat.gcd_eq_zero_iff.mp e).2
    omega
  unfold gs
  split <;> omega
theorem gs_abs (n d : Int) : (gs n d).natAbs = Nat.gcd n.natAbs d.natAbs := by
  unfold gs
  split <;> omega
theorem gs_dvd1 (n d : Int) : gs n d ∣ n := by
  rw [← Int.natAbs_dvd_natAbs, gs_abs]
  exact Nat.gcd_dvd_left _ _
theorem gs_dvd2 (n d : Int) : gs n d ∣ d := by
  rw [← Int.natAbs_dvd_natAbs, gs_abs]
  exact Nat.gcd_dvd_right _ _
theorem gs_le (n : Int) {d : Int} (h : d ≠ 0) : (gs n d).natAbs ≤ d.natAbs := by
  rw [gs_abs]
  exact Nat.gcd_le_right _ (by omega)
theorem fdiv_of {n g m : Int} (hg : g ≠ 0) (h : n = g * m) : n.fdiv g = m := by
  rw [h, Int.mul_fdiv_cancel_left _ hg]
theorem gs_sign (n : Int) {d : Int} (h : d ≠ 0) : (0 < gs n d ∧ 0 < d) ∨ (gs n d < 0 ∧ d < 0) := by
  have h0 := gs_ne (n := n) h
  unfold gs at *
  split
  · rename_i hd
    rw [if_pos hd] at h0
    omega
  · rename_i hd
    rw [if_neg hd] at h0
    omega
theorem F_parts (n : Int) {d : Int} (h : d ≠ 0) : ∃ a b : Int, F n d = (a, b) ∧ n = gs n d * a ∧ d = gs n d * b ∧ 0 < b := by
  obtain ⟨a, ha⟩ := gs_dvd1 n d
  obtain ⟨b, hb⟩ := gs_dvd2 n d
  have hg := gs_ne (n := n) h
  refine ⟨a, b, ?_, ha, hb, ?_⟩
  · unfold F
    rw [fdiv_of hg ha, fdiv_of hg hb]
  · rcases gs_sign n h with ⟨h1, h2⟩ | ⟨h1, h2⟩
    · rw [hb] at h2
      exact Int.pos_of_mul_pos_right h2 h1
    · rw [hb] at h2
      rcases Int.lt_trichotomy b 0 with hx | hx | hx
      · have := Int.mul_pos_of_neg_of_neg h1 hx
        omega
      · subst hx
        omega
      · exact hx
theorem gs_scale {k n d : Int} (hk : k ≠ 0) (hd : d ≠ 0) : gs (k * n) (k * d) = k * gs n d := by
  have e : Nat.gcd (k * n).natAbs (k * d).natAbs = k.natAbs * Nat.gcd n.natAbs d.natAbs := by
    rw [Int.natAbs_mul, Int.natAbs_mul, Nat.gcd_mul_left]
  have hkd : k * d ≠ 0 := Int.mul_ne_zero hk hd
  have a1 := gs_abs (k * n) (k * d)
  rw [e, ← gs_abs n d, ← Int.natAbs_mul] at a1
  rcases Int.natAbs_eq_natAbs_iff.mp a1 with h | h
  · exact h
  · exfalso
    have s1 := gs_sign (k * n) hkd
    have s2 := gs_sign n hd
    rw [h] at s1
    rcases Int.lt_or_gt_of_ne hk with hk | hk
    · rcases s2 with ⟨x, y⟩ | ⟨x, y⟩
      · have := Int.mul_neg_of_neg_of_pos hk x
        have := Int.mul_neg_of_neg_of_pos hk y
        omega
      · have := Int.mul_pos_of_neg_of_neg hk x
        have := Int.mul_pos_of_neg_of_neg hk y
        omega
    · rcases s2 with ⟨x, y⟩ | ⟨x, y⟩
      · have := Int.mul_pos hk x
        have := Int.mul_pos hk y
        omega
      · have := Int.mul_neg_of_pos_of_neg hk x
        have := Int.mul_neg_of_pos_of_neg hk y
        omega
theorem F_scale {k n d : Int} (hk : k ≠ 0) (hd : d ≠ 0) : F (k * n) (k * d) = F n d := by
  obtain ⟨a, b, e, ha, hb, _⟩ := F_parts n hd
  rw [e]
  have hg := gs_ne (n := n) hd
  have hkg : k * gs n d ≠ 0 := Int.mul_ne_zero hk hg
  unfold F
  rw [gs_scale hk hd, fdiv_of hkg (show k * n = k * gs n d * a by rw [Int.mul_assoc, ← ha]), fdiv_of hkg (show k * d = k * gs n d * b by rw [Int.mul_assoc, ← hb])]
theorem F_eq {n d n' d' : Int} (hd : d ≠ 0) (hd' : d' ≠ 0) (h : n * d' = n' * d) : F n d = F n' d' := by
  rw [← F_scale (k := d') hd' hd, ← F_scale (k := d) (n := n') (d := d') hd hd']
  rw [show d' * n = d * n' by rw [Int.mul_comm d' n, h, Int.mul_comm], Int.mul_comm d' d]
theorem F_cross (n : Int) {d : Int} (h : d ≠ 0) : (F n d).1 * d = n * (F n d).2 := by
  obtain ⟨a, b, e, ha, hb, _⟩ := F_parts n h
  rw [e]
  show a * d = n * b
  calc a * d = a * (gs n d * b) := by rw [← hb]
    _ = (gs n d * a) * b := by grind
    _ = n * b := by rw [← ha]
theorem F_pos (n : Int) {d : Int} (h : d ≠ 0) : 0 < (F n d).2 := by
  obtain ⟨a, b, e, ha, hb, p⟩ := F_parts n h
  rw [e]
  exact p
theorem F_le1 (n : Int) {d : Int} (h : d ≠ 0) : (F n d).1.natAbs ≤ n.natAbs := by
  obtain ⟨a, b, e, ha, hb, p⟩ := F_parts n h
  rw [e]
  have hg := gs_ne (n := n) h
  have h1 : 1 ≤ (gs n d).natAbs := by omega
  have h2 : n.natAbs = (gs n d).natAbs * a.natAbs := by
    rw [← Int.natAbs_mul, ← ha]
  rw [h2]
  exact Nat.le_mul_of_pos_left _ h1
theorem F_le2 (n : Int) {d : Int} (h : d ≠ 0) : (F n d).2.natAbs ≤ d.natAbs := by
  obtain ⟨a, b, e, ha, hb, p⟩ := F_parts n h
  rw [e]
  have hg := gs_ne (n := n) h
  have h1 : 1 ≤ (gs n d).natAbs := by omega
  have h2 : d.natAbs = (gs n d).natAbs * b.natAbs := by
    rw [← Int.natAbs_mul, ← hb]
  rw [h2]
  exact Nat.le_mul_of_pos_left _ h1
theorem F_zero (n : Int) {d : Int} (h : d ≠ 0) : (F n d).1 = 0 ↔ n = 0 := by
  have c := F_cross n h
  have p := F_pos n h
  constructor
  · intro e
    rw [e, Int.zero_mul] at c
    rcases Int.mul_eq_zero.mp c.symm with z | z
    · exact z
    · omega
  · intro e
    subst e
    rw [Int.zero_mul] at c
    rcases Int.mul_eq_zero.mp c with z | z
    · exact z
    · omega
/-! what the operations give -/
def addF (p q : Int × Int) : Int × Int := F (p.1 * q.2 + q.1 * p.2) (p.2 * q.2)
def subF (p q : Int × Int) : Int × Int := F (p.1 * q.2 - q.1 * p.2) (p.2 * q.2)
def mulF (p q : Int × Int) : Int × Int := F (p.1 * q.1) (p.2 * q.2)
def divF (p q : Int × Int) : Int × Int := F (p.1 * q.2) (p.2 * q.1)
theorem addF_F {a b c d : Int} (hb : b ≠ 0) (hd : d ≠ 0) : addF (F a b) (F c d) = F (a * d + c * b) (b * d) := by
  have c1 := F_cross a hb
  have c2 := F_cross c hd
  have p1 := F_pos a hb
  have p2 := F_pos c hd
  unfold addF
  refine F_eq (Int.ne_of_gt (Int.mul_pos p1 p2)) (Int.mul_ne_zero hb hd) ?_
  generalize F a b = p at *
  generalize F c d = q at *
  grind
theorem subF_F {a b c d : Int} (hb : b ≠ 0) (hd : d ≠ 0) : subF (F a b) (F c d) = F (a * d - c * b) (b * d) := by
  have c1 := F_cross a hb
  have c2 := F_cross c hd
  have p1 := F_pos a hb
  have p2 := F_pos c hd
  unfold subF
  refine F_eq (Int.ne_of_gt (Int.mul_pos p1 p2)) (Int.mul_ne_zero hb hd) ?_
  generalize F a b = p at *
  generalize F c d = q at *
  grind
theorem mulF_F {a b c d : Int} (hb : b ≠ 0) (hd : d ≠ 0) : mulF (F a b) (F c d) = F (a * c) (b * d) := by
  have c1 := F_cross a hb
  have c2 := F_cross c hd
  have p1 := F_pos a hb
  have p2 := F_pos c hd
  unfold mulF
  refine F_eq (Int.ne_of_gt (Int.mul_pos p1 p2)) (Int.mul_ne_zero hb hd) ?_
  generalize F a b = p at *
  generalize F c d = q at *
  grind
theorem divF_F {a b c d : Int} (hb : b ≠ 0) (hd : d ≠ 0) (hc : c ≠ 0) : divF (F a b) (F c d) = F (a * d) (b * c) := by
  have c1 := F_cross a hb
  have c2 := F_cross c hd
  have p1 := F_pos a hb
  have p2 := F_pos c hd
  have z := F_zero c hd
  unfold divF
  refine F_eq (Int.mul_ne_zero (Int.ne_of_gt p1) (fun e => hc (z.mp e))) (Int.mul_ne_zero hb hc) ?_
  generalize F a b = p at *
  generalize F c d = q at *
  grind
theorem F_one : F 1 1 = (1, 1) := by decide
theorem cmp_F {a b c d : Int} (hb : 0 < b) (hd : 0 < d) : ((F a b).1 * (F c d).2 < (F c d).1 * (F a b).2 ↔ a * d < c * b) := by
  have c1 := F_cross a (Int.ne_of_gt hb)
  have c2 := F_cross c (Int.ne_of_gt hd)
  have p1 := F_pos a (Int.ne_of_gt hb)
  have p2 := F_pos c (Int.ne_of_gt hd)
  generalize F a b = p at *
  generalize F c d = q at *
  have e : (p.1 * q.2 - q.1 * p.2) * (b * d) = (a * d - c * b) * (p.2 * q.2) := by grind
  have h1 : 0 < b * d := Int.mul_pos hb hd
  have h2 : 0 < p.2 * q.2 := Int.mul_pos p1 p2
  constructor
  · intro h
    have h3 : p.1 * q.2 - q.1 * p.2 < 0 := by omega
    have h4 := Int.mul_neg_of_neg_of_pos h3 h1
    rw [e] at h4
    rcases Int.lt_or_le (a * d - c * b) 0 with x | x
    · omega
    · have := Int.mul_nonneg x (Int.le_of_lt h2)
      omega
  · intro h
    have h3 : a * d - c * b < 0 := by omega
    have h4 := Int.mul_neg_of_neg_of_pos h3 h2
    rw [← e] at h4
    rcases Int.lt_or_le (p.1 * q.2 - q.1 * p.2) 0 with x | x
    · omega
    · have := Int.mul_nonneg x (Int.le_of_lt h1)
      omega
/-! powers -/
def pwF (n d : Int) (k : Nat) : Int × Int := F (n ^ k) (d ^ k)
theorem pow_ne {d : Int} (h : d ≠ 0) (k : Nat) : d ^ k ≠ 0 := Int.pow_ne_zero h
theorem pwF_mul {n d : Int} (h : d ≠ 0) (i j : Nat) : mulF (pwF n d i) (pwF n d j) = pwF n d (i + j) := by
  unfold pwF
  rw [mulF_F (pow_ne h i) (pow_ne h j), Int.pow_add, Int.pow_add]
theorem pwF_zero (n d : Int) : pwF n d 0 = (1, 1) := by
  unfold pwF
  rw [Int.pow_zero, Int.pow_zero]
  exact F_one
theorem pwF_one (n d : Int) : pwF n d 1 = F n d := by
  unfold pwF
  rw [Int.pow_succ, Int.pow_zero, Int.one_mul, Int.pow_succ, Int.pow_zero, Int.one_mul]
theorem pow_lt {n : Int} {b : Nat} (h : n.natAbs < 2 ^ b) : ∀ k : Nat, (n ^ k).natAbs < 2 ^ (b * k + 1)
  | 0 => by simp
  | k + 1 => by
    have ih := pow_lt h k
    rw [Int.pow_succ, Int.natAbs_mul]
    have h2 : (n ^ k).natAbs * n.natAbs < 2 ^ (b * k + 1) * 2 ^ b := Nat.mul_lt_mul'' ih h
    rw [← Nat.pow_add] at h2
    have e : b * (k + 1) + 1 = b * k + 1 + b := by
      rw [Nat.mul_add]
      omega
    rw [e]
    exact h2
theorem pwF_lt1 {n d : Int} (h : d ≠ 0) {b : Nat} (hn : n.natAbs < 2 ^ b) (k : Nat) : (pwF n d k).1.natAbs < 2 ^ (b * k + 1) :=
  Nat.lt_of_le_of_lt (F_le1 _ (pow_ne h k)) (pow_lt hn k)
theorem pwF_lt2 {n d : Int} (h : d ≠ 0) {b : Nat} (hd : d.natAbs < 2 ^ b) (k : Nat) : (pwF n d k).2.natAbs < 2 ^ (b * k + 1) :=
  Nat.lt_of_le_of_lt (F_le2 _ (pow_ne h k)) (pow_lt hd k)
/-- 1 / x of a power -/
theorem F_flip {a b : Int} (ha : a ≠ 0) (hb : b ≠ 0) : F (F a b).2 (F a b).1 = F b a := by
  have c := F_cross a hb
  have z := F_zero a hb
  have p := F_pos a hb
  refine F_eq (fun e => ha (z.mp e)) ha ?_
  rw [Int.mul_comm, ← c, Int.mul_comm]
/-! gcd by remainders -/
theorem gcd_step (a b : Int) : Nat.gcd b.natAbs (a.fmod b).natAbs = Nat.gcd a.natAbs b.natAbs := by
  have e : a = a.fmod b + b * a.fdiv b := by
    have := Int.mul_fdiv_add_fmod a b
    omega
  have h : Int.gcd b (a.fmod b) = Int.gcd a b := by
    rw [Int.gcd_comm a b]
    conv => rhs; rw [e]
    rw [Int.gcd_add_mul_left_right]
  exact h
theorem fmod_small {a b : Int} (h : b ≠ 0) : (a.fmod b).natAbs < b.natAbs := by
  rcases Int.lt_or_gt_of_ne h with h | h
  · have e := Int.neg_fmod_neg a b
    have h1 := Int.fmod_nonneg_of_pos (-a) (show 0 < -b by omega)
    have h2 := Int.fmod_lt_of_pos (-a) (show 0 < -b by omega)
    omega
  · have h1 := Int.fmod_nonneg_of_pos a h
    have h2 := Int.fmod_lt_of_pos a h
    omega
end K04
/-! ### series of rationals -/
namespace SM
/-- the first j products of a and b that give to the power n -/
def ps (a b : Nat → Rat) (n : Nat) : Nat → Rat
  | 0 => 0
  | j + 1 => ps a b n j + a j * b (n - j)
def cv (a b : Nat → Rat) (n : Nat) : Rat := ps a b n (n + 1)
def sh (a : Nat → Rat) : Nat → Rat := fun k => a (k + 1)
/-- the derivative -/
def dv (a : Nat → Rat) : Nat → Rat := fun k => ((k + 1 : Nat) : Rat) * a (k + 1)
theorem ps_congr {a b c d : Nat → Rat} {n : Nat} : ∀ j, (∀ k < j, a k = c k) → (∀ k < j, b (n - k) = d (n - k)) → ps a b n j = ps c d n j
  | 0, _, _ => rfl
  | j + 1, h, k => by rw [ps, ps, ps_congr j (fun i hi => h i (by omega)) (fun i hi => k i (by omega)), h j (by omega), k j (by omega)]
theorem cv_congr {a b c d : Nat → Rat} {n : Nat} (h : ∀ k ≤ n, a k = c k) (g : ∀ k ≤ n, b k = d k) : cv a b n = cv c d n := ps_congr _ (fun k hk => h k (by omega)) (fun k hk => g _ (by omega))
theorem ps_head (a b : Nat → Rat) (n : Nat) : ∀ j, ps a b (n + 1) (j + 1) = a 0 * b (n + 1) + ps (sh a) b n j
  | 0 => by
    show 0 + a 0 * b (n + 1 - 0) = a 0 * b (n + 1) + 0
    grind
  | j + 1 => by
    rw [ps, ps_head a b n j, ps]
    have : n + 1 - (j + 1) = n - j := by omega
    rw [this]
    show _ + a (j + 1) * b (n - j) = _ + (_ + a (j + 1) * b (n - j))
    grind
theorem cv_zero (a b : Nat → Rat) : cv a b 0 = a 0 * b 0 := by
  show 0 + a 0 * b 0 = a 0 * b 0
  grind
theorem cv_head (a b : Nat → Rat) (n : Nat) : cv a b (n + 1) = a 0 * b (n + 1) + cv (sh a) b n := ps_head a b n (n + 1)
theorem cv_last (a b : Nat → Rat) (n : Nat) : cv a b (n + 1) = cv a (sh b) n + a (n + 1) * b 0 := by
  have e : ps a b (n + 1) (n + 1) = ps a (sh b) n (n + 1) := by
    suffices h : ∀ j, j ≤ n + 1 → ps a b (n + 1) j = ps a (sh b) n j from h _ (Nat.le_refl _)
    intro j
    induction j with
    | zero => exact fun _ => rfl
    | succ j ih =>
      intro hj
      rw [ps, ps, ih (by omega)]
      have : n + 1 - j = (n - j) + 1 := by omega
      rw [this]
      rfl
  show ps a b (n + 1) (n + 1) + a (n + 1) * b (n + 1 - (n + 1)) = _
  rw [e, Nat.sub_self]
  rfl
theorem cv_comm : ∀ (n : Nat) (a b : Nat → Rat), cv a b n = cv b a n
  | 0, a, b => by rw [cv_zero, cv_zero, Rat.mul_comm]
  | n + 1, a, b => by
    rw [cv_last a b, cv_head b a, cv_comm n (sh b) a]
    grind
theorem cv_lin (a b c : Nat → Rat) (x : Rat) (n : Nat) : cv (fun k => x * a k + b k) c n = x * cv a c n + cv b c n := by
  suffices h : ∀ j, ps (fun k => x * a k + b k) c n j = x * ps a c n j + ps b c n j from h _
  intro j
  induction j with
  | zero => 
    show (0 : Rat) = x * 0 + 0
    grind
  | succ j ih =>
    rw [ps, ps, ps, ih]
    grind
theorem cv_smul (a b : Nat → Rat) (x : Rat) (n : Nat) : cv (fun k => x * a k) b n = x * cv a b n := by
  suffices h : ∀ j, ps (fun k => x * a k) b n j = x * ps a b n j from h _
  intro j
  induction j with
  | zero =>
    show (0 : Rat) = x * 0
    grind
  | succ j ih =>
    rw [ps, ps, ih]
    grind
theorem cv_add (a b c : Nat → Rat) (n : Nat) : cv (fun k => a k + b k) c n = cv a c n + cv b c n := by
  suffices h : ∀ j, ps (fun k => a k + b k) c n j = ps a c n j + ps b c n j from h _
  intro j
  induction j with
  | zero =>
    show (0 : Rat) = 0 + 0
    grind
  | succ j ih =>
    rw [ps, ps, ps, ih]
    grind
theorem cv_assoc : ∀ (n : Nat) (a b c : Nat → Rat), cv (cv a b) c n = cv a (cv b c) n
  | 0, a, b, c => by
    rw [cv_zero, cv_zero, cv_zero, cv_zero, Rat.mul_assoc]
  | n + 1, a, b, c => by
    rw [cv_head, cv_head a, cv_zero]
    have e : sh (cv a b) = fun k => a 0 * sh b k + cv (sh a) b k := funext fun k => cv_head a b k
    rw [e, cv_lin, cv_assoc n, cv_head b c]
    grind
theorem cv_smul2 (a b : Nat → Rat) (x : Rat) (n : Nat) : cv a (fun k => x * b k) n = x * cv a b n := by
  rw [cv_comm, cv_smul, cv_comm]
theorem cv_add2 (a b c : Nat → Rat) (n : Nat) : cv a (fun k => b k + c k) n = cv a b n + cv a c n := by
  rw [cv_comm, cv_add, cv_comm n b a, cv_comm n c a]
/-- the derivative of a product -/
theorem dv_cv : ∀ (n : Nat) (a b : Nat → Rat), dv (cv a b) n = cv (dv a) b n + cv a (dv b) n
  | 0, a, b => by
    show ((1 : Nat) : Rat) * cv a b 1 = _
    rw [cv_head, cv_zero, cv_zero, cv_zero]
    show ((1 : Nat) : Rat) * (a 0 * b 1 + a 1 * b 0) = ((1 : Nat) : Rat) * a 1 * b 0 + a 0 * (((1 : Nat) : Rat) * b 1)
    grind
  | n + 1, a, b => by
    have ih := dv_cv n (sh a) b
    show ((n + 1 + 1 : Nat) : Rat) * cv a b (n + 1 + 1) = _
    rw [cv_head a b, cv_head (dv a) b, cv_head a (dv b)]
    have e1 : ((n + 1 + 1 : Nat) : Rat) = ((n + 1 : Nat) : Rat) + 1 := by
      have : ((n + 1 + 1 : Nat) : Rat) = ((n + 1 : Nat) : Rat) + ((1 : Nat) : Rat) := Rat.natCast_add (n + 1) 1
      rw [this]
      rfl
    have e2 : sh (dv a) = fun k => dv (sh a) k + sh (sh a) k := funext fun k => by
      show ((k + 1 + 1 : Nat) : Rat) * a (k + 1 + 1) = ((k + 1 : Nat) : Rat) * a (k + 1 + 1) + a (k + 1 + 1)
      have : ((k + 1 + 1 : Nat) : Rat) = ((k + 1 : Nat) : Rat) + ((1 : Nat) : Rat) := Rat.natCast_add (k + 1) 1
      rw [this]
      have : ((1 : Nat) : Rat) = 1 := rfl
      rw [this]
      grind
    rw [e2, cv_add]
    have e3 : dv (cv (sh a) b) n = ((n + 1 : Nat) : Rat) * cv (sh a) b (n + 1) := rfl
    rw [e3] at ih
    have e4 : dv b (n + 1) = ((n + 1 + 1 : Nat) : Rat) * b (n + 1 + 1) := rfl
    have e5 : dv a 0 = a 1 := by
      show ((1 : Nat) : Rat) * a 1 = a 1
      have : ((1 : Nat) : Rat) = 1 := rfl
      rw [this]
      grind
    have e6 : cv (sh a) b (n + 1) = a 1 * b (n + 1) + cv (sh (sh a)) b n := cv_head (sh a) b n
    rw [e4, e5, e1]
    generalize ((n + 1 : Nat) : Rat) = N at *
    grind
/-! ### the exponential -/
def dl : Nat → Rat := fun k => if k = 0 then 1 else 0
theorem cv_dl (a : Nat → Rat) : ∀ n, cv dl a n = a n
  | 0 => by
    rw [cv_zero]
    show (1 : Rat) * a 0 = a 0
    grind
  | n + 1 => by
    rw [cv_head]
    have : sh dl = fun k => (0 : Rat) * dl k := funext fun k => by
      show (if k + 1 = 0 then (1 : Rat) else 0) = 0 * dl k
      rw [if_neg (by omega)]
      grind
    rw [this, cv_smul]
    show (1 : Rat) * a (n + 1) + 0 * _ = a (n + 1)
    grind
/-- f^k / k! -/
def tm (f : Nat → Rat) : Nat → Nat → Rat
  | 0 => dl
  | k + 1 => fun n => cv (tm f k) f n * (1 / ((k + 1 : Nat) : Rat))
theorem natc_ne (k : Nat) : ((k + 1 : Nat) : Rat) ≠ 0 := by
  intro h
  have : ((k + 1 : Nat) : Rat) = ((0 : Nat) : Rat) := h
  have := Rat.natCast_inj.mp this
  omega
theorem natc_succ (k : Nat) : ((k + 1 : Nat) : Rat) = (k : Rat) + 1 := by
  have : ((k + 1 : Nat) : Rat) = (k : Rat) + ((1 : Nat) : Rat) := Rat.natCast_add k 1
  rw [this]
  rfl
theorem tm_dv (f : Nat → Rat) : ∀ (k n : Nat), dv (tm f (k + 1)) n = cv (dv f) (tm f k) n
  | 0, n => by
    have h1 : tm f 1 = f := funext fun m => by
      show cv dl f m * (1 / ((1 : Nat) : Rat)) = f m
      rw [cv_dl]
      have : ((1 : Nat) : Rat) = 1 := rfl
      rw [this]
      grind
    rw [h1, cv_comm]
    show _ = cv dl (dv f) n
    rw [cv_dl]
  | k + 1, n => by
    have ih : dv (tm f (k + 1)) = cv (dv f) (tm f k) := funext fun m => tm_dv f k m
    have h0 := natc_ne (k + 1)
    have h1 : dv (tm f (k + 1 + 1)) n = dv (cv (tm f (k + 1)) f) n * (1 / ((k + 1 + 1 : Nat) : Rat)) := by
      show _ * (cv (tm f (k + 1)) f (n + 1) * _) = _ * cv (tm f (k + 1)) f (n + 1) * _
      grind
    rw [h1, dv_cv, ih, cv_assoc]
    have h2 : cv (tm f k) f = fun m => ((k + 1 : Nat) : Rat) * tm f (k + 1) m := funext fun m => by
      have := natc_ne k
      show cv (tm f k) f m = ((k + 1 : Nat) : Rat) * (cv (tm f k) f m * (1 / ((k + 1 : Nat) : Rat)))
      generalize ((k + 1 : Nat) : Rat) = N at *
      grind
    rw [h2, cv_smul2, cv_comm n (tm f (k + 1)) (dv f), natc_succ (k + 1)]
    rw [natc_succ (k + 1)] at h0
    generalize ((k + 1 : Nat) : Rat) = N at *
    grind
theorem tm_low {f : Nat → Rat} (h : f 0 = 0) : ∀ k n, n < k → tm f k n = 0
  | 0, n, hn => by omega
  | k + 1, n, hn => by
    show cv (tm f k) f n * _ = 0
    have : cv (tm f k) f n = 0 := by
      cases n with
      | zero =>
        rw [cv_zero, h]
        grind
      | succ n =>
        rw [cv_last, h]
        have e : cv (tm f k) (sh f) n = cv (fun m => (0 : Rat) * tm f k m) (sh f) n := cv_congr (fun m hm => by rw [tm_low h k m (by omega)]; grind) (fun _ _ => rfl)
        rw [e, cv_smul]
        grind
    rw [this]
    grind
/-- the sum of the first terms -/
def tot (f : Nat → Rat) : Nat → Nat → Rat
  | 0 => tm f 0
  | k + 1 => fun n => tot f k n + tm f (k + 1) n
theorem tot_dv (f : Nat → Rat) : ∀ (k n : Nat), dv (tot f (k + 1)) n = cv (dv f) (tot f k) n
  | 0, n => by
    have h0 : dv (tm f 0) n = 0 := by
      show _ * (if n + 1 = 0 then (1 : Rat) else 0) = 0
      rw [if_neg (by omega)]
      grind
    have h1 : dv (tot f 1) n = dv (tm f 0) n + dv (tm f 1) n := by
      show _ * (tm f 0 (n + 1) + tm f 1 (n + 1)) = _
      rw [Rat.mul_add]
      rfl
    rw [h1, h0, tm_dv]
    show 0 + cv (dv f) (tm f 0) n = cv (dv f) (tm f 0) n
    grind
  | k + 1, n => by
    have h1 : dv (tot f (k + 1 + 1)) n = dv (tot f (k + 1)) n + dv (tm f (k + 1 + 1)) n := by
      show _ * (tot f (k + 1) (n + 1) + tm f (k + 1 + 1) (n + 1)) = _
      rw [Rat.mul_add]
      rfl
    rw [h1, tot_dv f k, tm_dv]
    have h2 : tot f (k + 1) = fun m => tot f k m + tm f (k + 1) m := rfl
    rw [h2, cv_add2]
/-- e goes on by g: (n + 1) e (n + 1) is the n-th coefficient of g times e, below N -/
def Goes (g e : Nat → Rat) (N : Nat) : Prop := e 0 = 1 ∧ ∀ n < N, ((n + 1 : Nat) : Rat) * e (n + 1) = cv g e n
theorem goes_uniq {g e d : Nat → Rat} {N : Nat} (h : Goes g e N) (k : Goes g d N) : ∀ n ≤ N, e n = d n := by
  intro n
  induction n using Nat.strongRecOn with
  | _ n ih =>
    intro hn
    cases n with
    | zero => rw [h.1, k.1]
    | succ n =>
      have h1 := h.2 n (by omega)
      have k1 := k.2 n (by omega)
      have e1 : cv g e n = cv g d n := cv_congr (fun _ _ => rfl) fun m hm => ih m (by omega) (by omega)
      have := natc_ne n
      rw [e1, ← k1] at h1
      generalize ((n + 1 : Nat) : Rat) = X at *
      grind
theorem tot_goes {f : Nat → Rat} (h : f 0 = 0) (N : Nat) : Goes (dv f) (tot f N) N := by
  constructor
  · have : ∀ k, tot f k 0 = 1 := fun k => by
      induction k with
      | zero => rfl
      | succ k ih =>
        show tot f k 0 + tm f (k + 1) 0 = 1
        rw [ih, tm_low h (k + 1) 0 (by omega)]
        grind
    exact this N
  · intro n hn
    cases N with
    | zero => omega
    | succ N =>
      have h1 := tot_dv f N n
      have h2 : cv (dv f) (tot f N) n = cv (dv f) (tot f (N + 1)) n := cv_congr (fun _ _ => rfl) fun m hm => by
        show tot f N m = tot f N m + tm f (N + 1) m
        rw [tm_low h (N + 1) m (by omega)]
        grind
      rw [← h2, ← h1]
      rfl
/-- the slopes are told -/
theorem goes_slopes {g s e : Nat → Rat} {N : Nat} (h : Goes g e N) (k : Goes s e N) : ∀ n < N, g n = s n := by
  intro n
  induction n using Nat.strongRecOn with
  | _ n ih =>
    intro hn
    have h1 := h.2 n hn
    have k1 := k.2 n hn
    rw [h1] at k1
    have e1 : ps g e n n = ps s e n n := ps_congr _ (fun m hm => ih m hm (by omega)) fun _ _ => rfl
    have k2 : ps g e n n + g n * e (n - n) = ps s e n n + s n * e (n - n) := k1
    rw [e1, Nat.sub_self, h.1] at k2
    grind
end SM
/-! ### fractions as rationals, their sizes -/
namespace SM
open K04
def fq (r : Rat) : Int × Int := (r.num, (r.den : Int))
theorem den_ne (r : Rat) : (r.den : Int) ≠ 0 := by
  have := r.den_nz
  omega
theorem F_red (r : Rat) : F r.num (r.den : Int) = fq r := by
  have hg : gs r.num (r.den : Int) = 1 := by
    unfold gs
    rw [if_neg (by omega), Int.natAbs_natCast, r.reduced]
    rfl
  unfold F fq
  rw [hg, Int.fdiv_one, Int.fdiv_one]
theorem F_fq (n : Int) {d : Int} (h : d ≠ 0) : F n d = fq (Rat.divInt n d) := by
  rw [← F_red]
  refine F_eq h (den_ne _) ?_
  have := Rat.num_divInt_den (Rat.divInt n d)
  exact ((Rat.divInt_eq_divInt_iff (den_ne _) h).mp this).symm
theorem addF_fq (a b : Rat) : addF (fq a) (fq b) = fq (a + b) := by
  unfold addF fq
  rw [F_fq _ (Int.mul_ne_zero (den_ne a) (den_ne b)), ← Rat.divInt_add_divInt _ _ (den_ne a) (den_ne b), Rat.num_divInt_den, Rat.num_divInt_den]
  rfl
theorem subF_fq (a b : Rat) : subF (fq a) (fq b) = fq (a - b) := by
  unfold subF fq
  rw [F_fq _ (Int.mul_ne_zero (den_ne a) (den_ne b)), ← Rat.divInt_sub_divInt _ _ (den_ne a) (den_ne b), Rat.num_divInt_den, Rat.num_divInt_den]
  rfl
theorem mulF_fq (a b : Rat) : mulF (fq a) (fq b) = fq (a * b) := by
  unfold mulF fq
  rw [F_fq _ (Int.mul_ne_zero (den_ne a) (den_ne b)), ← Rat.divInt_mul_divInt, Rat.num_divInt_den, Rat.num_divInt_den]
  rfl
theorem num_ne {b : Rat} (h : b ≠ 0) : b.num ≠ 0 := fun e => h (Rat.num_eq_zero.mp e)
theorem divF_fq (a : Rat) {b : Rat} (h : b ≠ 0) : divF (fq a) (fq b) = fq (a / b) := by
  unfold divF fq
  rw [F_fq _ (Int.mul_ne_zero (den_ne a) (num_ne h)), ← Rat.divInt_mul_divInt, Rat.num_divInt_den]
  have e : Rat.divInt (b.den : Int) b.num = b⁻¹ := by
    rw [← Rat.inv_divInt, Rat.num_divInt_den]
  rw [e, ← Rat.div_def]
  rfl
theorem fq_one : fq 1 = (1, 1) := rfl
theorem fq_zero : fq 0 = (0, 1) := rfl
theorem fq_nat (k : Nat) : fq (k : Rat) = ((k : Int), 1) := rfl
theorem fq_inv (k : Nat) : fq (1 / ((k + 1 : Nat) : Rat)) = (1, ((k + 1 : Nat) : Int)) := by
  have h := divF_fq 1 (natc_ne k)
  rw [← h, fq_one, fq_nat]
  unfold divF
  show F (1 * 1) (1 * ((k + 1 : Nat) : Int)) = _
  rw [Int.one_mul, Int.one_mul]
  have hg : gs 1 ((k + 1 : Nat) : Int) = 1 := by
    unfold gs
    rw [if_neg (by omega)]
    simp
  unfold F
  rw [hg, Int.fdiv_one, Int.fdiv_one]
/-- r times m is an integer, at most X -/
def Iz (m X : Nat) (r : Rat) : Prop := ∃ N : Int, r * (m : Rat) = (N : Rat) ∧ N.natAbs ≤ X
section
variable {m n X Y c : Nat} {a b r : Rat}
theorem Iz.le (h : Iz m X r) (k : X ≤ Y) : Iz m Y r := by
  obtain ⟨N, e, l⟩ := h
  exact ⟨N, e, Nat.le_trans l k⟩
theorem Iz.mul (h : Iz m X a) (k : Iz n Y b) : Iz (m * n) (X * Y) (a * b) := by
  obtain ⟨N, e, l⟩ := h
  obtain ⟨M, f, g⟩ := k
  refine ⟨N * M, ?_, by rw [Int.natAbs_mul]; exact Nat.mul_le_mul l g⟩
  rw [Rat.natCast_mul, Rat.intCast_mul, ← e, ← f]
  grind
theorem Iz.add (h : Iz m X a) (k : Iz m Y b) : Iz m (X + Y) (a + b) := by
  obtain ⟨N, e, l⟩ := h
  obtain ⟨M, f, g⟩ := k
  refine ⟨N + M, ?_, Nat.le_trans (Int.natAbs_add_le N M) (Nat.add_le_add l g)⟩
  rw [Rat.intCast_add, ← e, ← f]
  grind
theorem Iz.sub (h : Iz m X a) (k : Iz m Y b) : Iz m (X + Y) (a - b) := by
  obtain ⟨N, e, l⟩ := h
  obtain ⟨M, f, g⟩ := k
  refine ⟨N - M, ?_, by omega⟩
  rw [Rat.intCast_sub, ← e, ← f]
  grind
theorem Iz.up (h : Iz m X r) (c : Nat) : Iz (m * c) (X * c) r := by
  obtain ⟨N, e, l⟩ := h
  refine ⟨N * c, ?_, by rw [Int.natAbs_mul, Int.natAbs_natCast]; exact Nat.mul_le_mul_right c l⟩
  rw [Rat.natCast_mul, Rat.intCast_mul, ← e, Rat.intCast_natCast]
  grind
theorem Iz.zero : Iz m 0 0 := ⟨0, by show (0 : Rat) * _ = 0; grind, Nat.le_refl _⟩
theorem Iz.inv (k : Nat) : Iz (k + 1) 1 (1 / ((k + 1 : Nat) : Rat)) := ⟨1, by
  have := natc_ne k
  show 1 / ((k + 1 : Nat) : Rat) * ((k + 1 : Nat) : Rat) = 1
  generalize ((k + 1 : Nat) : Rat) = N at *
  grind, Nat.le_refl _⟩
theorem Iz.nat (k : Nat) : Iz 1 k (k : Rat) := ⟨k, by
  show (k : Rat) * 1 = ((k : Int) : Rat)
  rw [Rat.intCast_natCast]
  grind, by omega⟩
theorem Iz.sizes (h : Iz m X r) (hm : m ≠ 0) : (fq r).1.natAbs ≤ X ∧ (fq r).2.natAbs ≤ m := by
  obtain ⟨N, e, l⟩ := h
  have hm' : (m : Int) ≠ 0 := by omega
  have h2 : r = Rat.divInt N (m : Int) := by
    have h3 : ((m : Nat) : Rat) ≠ 0 := fun z => hm (Rat.natCast_inj.mp (z : (m : Rat) = ((0 : Nat) : Rat)))
    rw [Rat.divInt_eq_div, ← e, Rat.intCast_natCast]
    grind
  rw [h2, ← F_fq N hm']
  refine ⟨Nat.le_trans (F_le1 N hm') l, ?_⟩
  have := F_le2 N hm'
  omega
theorem ps_iz {f g : Nat → Rat} {n : Nat} : ∀ j, (∀ k < j, Iz m X (f k * g (n - k))) → Iz m (j * X) (ps f g n j)
  | 0, _ => by
    rw [Nat.zero_mul]
    exact Iz.zero
  | j + 1, h => by
    rw [Nat.succ_mul]
    exact (ps_iz j fun k hk => h k (by omega)).add (h j (by omega))
end
def fact : Nat → Nat
  | 0 => 1
  | n + 1 => fact n * (n + 1)
theorem fact_pos : ∀ n, 0 < fact n
  | 0 => by decide
  | n + 1 => Nat.mul_pos (fact_pos n) (Nat.succ_pos n)
theorem fact_desc : ∀ k n, k ≤ n → n ≤ 12 → ∃ q, fact n = fact (n - k) * q ∧ q ≤ 12 ^ k
  | 0, n, _, _ => ⟨1, by rw [Nat.sub_zero, Nat.mul_one], Nat.le_refl _⟩
  | k + 1, n, h, h12 => by
    obtain ⟨q, e, l⟩ := fact_desc k n (by omega) h12
    refine ⟨(n - k) * q, ?_, ?_⟩
    · have e2 : n - k = (n - (k + 1)) + 1 := by omega
      have e3 : fact (n - k) = fact (n - (k + 1)) * (n - k) := by
        conv => lhs; rw [e2, fact]
        rw [← e2]
      rw [e, e3, Nat.mul_assoc]
    · rw [Nat.pow_succ, Nat.mul_comm (12 ^ k)]
      exact Nat.mul_le_mul (by omega) l
theorem fact_dvd : ∀ k n, fact n ∣ fact (n + k)
  | 0, n => Nat.dvd_refl _
  | k + 1, n => Nat.dvd_trans (fact_dvd k n) (by rw [← Nat.add_assoc, fact]; exact Nat.dvd_mul_right _ _)
def M1 : Nat := 12 ^ 13 * fact 12
/-- small enough to be multiplied and added up -/
def Sm (r : Rat) : Prop := (fq r).1.natAbs < 2 ^ 1900 ∧ (fq r).2.natAbs < 2 ^ 1900
def Gd (r : Rat) : Prop := Iz M1 (2 ^ 300) r
theorem M1_lt : M1 < 2 ^ 80 := by decide +kernel
theorem M1_ne : M1 ≠ 0 := by decide +kernel
theorem sm_of {m X : Nat} {r : Rat} (h : Iz m X r) (hm : m ≠ 0) (h1 : m < 2 ^ 1900) (h2 : X < 2 ^ 1900) : Sm r := by
  obtain ⟨a, b⟩ := h.sizes hm
  exact ⟨Nat.lt_of_le_of_lt a h2, Nat.lt_of_le_of_lt b h1⟩
theorem two_le {a b : Nat} (h : a ≤ b) : 2 ^ a ≤ 2 ^ b := Nat.pow_le_pow_right (by decide) h
theorem Gd.sm {r : Rat} (h : Gd r) : Sm r := sm_of h M1_ne (Nat.lt_of_lt_of_le M1_lt (two_le (by decide))) (Nat.pow_lt_pow_right (by decide) (by decide))
theorem gd_of {m X : Nat} {r : Rat} (h : Iz m X r) (hm : m ∣ M1) (hX : X ≤ 2 ^ 200) : Gd r := by
  obtain ⟨c, hc⟩ := hm
  have h1 := h.up c
  rw [← hc] at h1
  refine h1.le ?_
  have hc1 : c ≤ M1 := by
    have h0 : m ≠ 0 := fun z => M1_ne (by rw [hc, z, Nat.zero_mul])
    rw [hc]
    exact Nat.le_mul_of_pos_left c (by omega)
  have h2 : X * c ≤ 2 ^ 200 * 2 ^ 80 := Nat.mul_le_mul hX (Nat.le_of_lt (Nat.lt_of_le_of_lt hc1 M1_lt))
  rw [← Nat.pow_add] at h2
  exact Nat.le_trans h2 (two_le (by decide))
theorem MM_ne : M1 * M1 ≠ 0 := Nat.mul_ne_zero M1_ne M1_ne
theorem MM_lt : M1 * M1 < 2 ^ 1900 := by
  have := Nat.mul_lt_mul'' M1_lt M1_lt
  rw [← Nat.pow_add] at this
  exact Nat.lt_of_lt_of_le this (two_le (by decide))
theorem Gd.mul {a b : Rat} (h : Gd a) (k : Gd b) : Iz (M1 * M1) (2 ^ 600) (a * b) := by
  have := Iz.mul h k
  rw [← Nat.pow_add] at this
  exact this
theorem Gd.mul_sm {a b : Rat} (h : Gd a) (k : Gd b) : Sm (a * b) := sm_of (h.mul k) MM_ne MM_lt (Nat.pow_lt_pow_right (by decide) (by decide))
/-- sums of at most a thousand products -/
theorem ps_sm {a b : Nat → Rat} {n j : Nat} (hj : j ≤ 1000) (h : ∀ k < j, Gd (a k) ∧ Gd (b (n - k))) : Sm (ps a b n j) := by
  refine sm_of (ps_iz (m := M1 * M1) (X := 2 ^ 600) j fun k hk => (h k hk).1.mul (h k hk).2) MM_ne MM_lt ?_
  have : j * 2 ^ 600 ≤ 2 ^ 10 * 2 ^ 600 := Nat.mul_le_mul_right _ (Nat.le_trans hj (by decide))
  rw [← Nat.pow_add] at this
  exact Nat.lt_of_le_of_lt this (Nat.pow_lt_pow_right (by decide) (by decide))
theorem pf_dvd {n : Nat} (h : n ≤ 12) : 12 ^ n * fact n ∣ M1 := Nat.mul_dvd_mul (Nat.pow_dvd_pow 12 (by omega)) (by
  have := fact_dvd (12 - n) n
  rw [show n + (12 - n) = 12 by omega] at this
  exact this)
section
variable {f g s e : Nat → Rat} {N : Nat}
theorem dv_iz (hf : ∀ k ≤ N, Iz 12 36 (f k)) {k : Nat} (hk : k < N) (hN : N ≤ 12) : Iz 12 432 (dv f k) := by
  have h := (Iz.nat (k + 1)).mul (hf (k + 1) (by omega))
  rw [Nat.one_mul] at h
  exact h.le (by omega)
/-- the entries of the exponential -/
theorem exp_iz (hf : ∀ k ≤ N, Iz 12 36 (f k)) (hN : N ≤ 12) (h : Goes (dv f) e N) : ∀ n ≤ N, Iz (12 ^ n * fact n) (2 ^ (13 * n)) (e n) := by
  intro n
  induction n using Nat.strongRecOn with
  | _ n ih =>
    intro hn
    cases n with
    | zero =>
      rw [h.1]
      exact ⟨1, by show (1 : Rat) * ((1 : Nat) : Rat) = 1; have : ((1 : Nat) : Rat) = 1 := rfl; rw [this]; grind, Nat.le_refl _⟩
    | succ n =>
      have h1 := h.2 n (by omega)
      have h2 : Iz (12 ^ (n + 1) * fact n) ((n + 1) * (432 * 2 ^ (13 * n))) (cv (dv f) e n) := ps_iz (n + 1) fun k hk => by
        obtain ⟨q, hq, lq⟩ := fact_desc k n (by omega) (by omega)
        have a := (dv_iz hf (show k < N by omega) hN).mul (ih (n - k) (by omega) (by omega))
        have b := a.up (12 ^ k * q)
        have em : 12 * (12 ^ (n - k) * fact (n - k)) * (12 ^ k * q) = 12 ^ (n + 1) * fact n := by
          rw [hq, Nat.pow_succ]
          have : 12 ^ n = 12 ^ (n - k) * 12 ^ k := by rw [← Nat.pow_add]; congr 1; omega
          rw [this]
          ac_rfl
        rw [em] at b
        refine b.le ?_
        have l1 : 12 ^ k * q ≤ 2 ^ (13 * k) := by
          refine Nat.le_trans (Nat.mul_le_mul_left _ lq) ?_
          rw [← Nat.mul_pow, Nat.pow_mul]
          exact Nat.pow_le_pow_left (by decide) k
        rw [Nat.mul_assoc]
        refine Nat.mul_le_mul_left _ ?_
        refine Nat.le_trans (Nat.mul_le_mul_left _ l1) ?_
        rw [← Nat.pow_add]
        exact two_le (by omega)
      have h3 := h2.mul (Iz.inv n)
      have e3 : cv (dv f) e n * (1 / ((n + 1 : Nat) : Rat)) = e (n + 1) := by
        have := natc_ne n
        rw [← h1]
        generalize ((n + 1 : Nat) : Rat) = X at *
        grind
      rw [e3, Nat.mul_one, Nat.mul_assoc] at h3
      refine h3.le ?_
      rw [show 13 * (n + 1) = 13 + 13 * n by omega, Nat.pow_add, ← Nat.mul_assoc]
      exact Nat.mul_le_mul_right _ (Nat.le_trans (Nat.mul_le_mul_right 432 (show n + 1 ≤ 12 by omega)) (by decide))
theorem exp_gd (hf : ∀ k ≤ N, Iz 12 36 (f k)) (hN : N ≤ 12) (h : Goes (dv f) e N) {n : Nat} (hn : n ≤ N) : Gd (e n) := gd_of (exp_iz hf hN h n hn) (pf_dvd (by omega)) (two_le (by omega))
theorem tm_iz (hf : ∀ k ≤ N, Iz 12 36 (f k)) (hN : N ≤ 12) : ∀ k n, n ≤ N → Iz (12 ^ k * fact k) (468 ^ k) (tm f k n)
  | 0, n, _ => by
    show Iz 1 1 (if n = 0 then (1 : Rat) else 0)
    split
    · exact (Iz.nat 1)
    · exact Iz.zero.le (Nat.zero_le _)
  | k + 1, n, hn => by
    have h2 : Iz (12 ^ k * fact k * 12) ((n + 1) * (468 ^ k * 36)) (cv (tm f k) f n) := ps_iz (n + 1) fun j hj => (tm_iz hf hN k j (by omega)).mul (hf (n - j) (by omega))
    have h3 := h2.mul (Iz.inv k)
    have em : 12 ^ k * fact k * 12 * (k + 1) = 12 ^ (k + 1) * fact (k + 1) := by
      rw [fact, Nat.pow_succ]
      ac_rfl
    rw [em, Nat.mul_one] at h3
    refine h3.le ?_
    rw [Nat.pow_succ, show (468 : Nat) = 13 * 36 from rfl, ← Nat.mul_assoc, Nat.mul_comm (n + 1), Nat.mul_assoc]
    exact Nat.mul_le_mul_left _ (Nat.mul_le_mul_right _ (by omega))
theorem tm_gd (hf : ∀ k ≤ N, Iz 12 36 (f k)) (hN : N ≤ 12) {k n : Nat} (hk : k ≤ 12) (hn : n ≤ N) : Gd (tm f k n) := gd_of (tm_iz hf hN k n hn) (pf_dvd hk) (by
  refine Nat.le_trans (Nat.pow_le_pow_right (by decide) hk) ?_
  decide +kernel)
theorem slope_iz (he : ∀ k ≤ N, Iz 12 36 (e k)) (hN : N ≤ 12) (h : Goes s e N) : ∀ n < N, Iz (12 ^ (n + 1)) (1024 ^ (n + 1)) (s n) := by
  intro n
  induction n using Nat.strongRecOn with
  | _ n ih =>
    intro hn
    have h1 := h.2 n hn
    have h2 : s n = ((n + 1 : Nat) : Rat) * e (n + 1) - ps s e n n := by
      have k2 : ((n + 1 : Nat) : Rat) * e (n + 1) = ps s e n n + s n * e (n - n) := h1
      rw [Nat.sub_self, h.1] at k2
      rw [k2]
      grind
    rw [h2]
    have a1 := (dv_iz he hn hN).up (12 ^ n)
    have a2 : Iz (12 ^ (n + 1)) (n * (36 * 1024 ^ n)) (ps s e n n) := ps_iz n fun k hk => by
      have b := ((ih k hk (by omega)).mul (he (n - k) (by omega))).up (12 ^ (n - 1 - k))
      have em : 12 ^ (k + 1) * 12 * 12 ^ (n - 1 - k) = 12 ^ (n + 1) := by
        rw [← Nat.pow_succ, ← Nat.pow_add]
        congr 1
        omega
      rw [em] at b
      refine b.le ?_
      have l1 : 12 ^ (n - 1 - k) ≤ 1024 ^ (n - 1 - k) := Nat.pow_le_pow_left (by decide) _
      have l2 : 1024 ^ (k + 1) * 36 * 12 ^ (n - 1 - k) ≤ 1024 ^ (k + 1) * 36 * 1024 ^ (n - 1 - k) := Nat.mul_le_mul_left _ l1
      refine Nat.le_trans l2 (Nat.le_of_eq ?_)
      have e2 : (1024 : Nat) ^ n = 1024 ^ (k + 1) * 1024 ^ (n - 1 - k) := by
        rw [← Nat.pow_add]
        congr 1
        omega
      rw [e2]
      ac_rfl
    rw [show 12 * 12 ^ n = 12 ^ (n + 1) by rw [Nat.pow_succ, Nat.mul_comm]] at a1
    refine (a1.sub a2).le ?_
    have l1 : (12 : Nat) ^ n ≤ 1024 ^ n := Nat.pow_le_pow_left (by decide) n
    have l2 : n * (36 * 1024 ^ n) ≤ 12 * (36 * 1024 ^ n) := Nat.mul_le_mul_right _ (by omega)
    rw [Nat.pow_succ]
    omega
theorem slope_gd (he : ∀ k ≤ N, Iz 12 36 (e k)) (hN : N ≤ 12) (h : Goes s e N) {n : Nat} (hn : n < N) : Gd (s n) := gd_of (slope_iz he hN h n hn) (Nat.dvd_trans (Nat.pow_dvd_pow 12 (show n + 1 ≤ 13 by omega)) (Nat.dvd_mul_right _ _)) (by
  rw [show (1024 : Nat) = 2 ^ 10 from rfl, ← Nat.pow_mul]
  exact two_le (by omega))
end
end SM
namespace SM
theorem goes_congr {g h e d : Nat → Rat} {N : Nat} (G : Goes g e N) (k1 : ∀ k < N, h k = g k) (k2 : ∀ k ≤ N, d k = e k) : Goes h d N := by
  refine ⟨by rw [k2 0 (Nat.zero_le _)]; exact G.1, fun n hn => ?_⟩
  have e1 : cv h d n = cv g e n := cv_congr (fun k hk => k1 k (by omega)) (fun k hk => k2 k (by omega))
  rw [e1, k2 (n + 1) hn]
  exact G.2 n hn
theorem slopes_ex {e : Nat → Rat} (h0 : e 0 = 1) : ∀ N, ∃ s, Goes s e N
  | 0 => ⟨fun _ => 0, h0, fun n hn => by omega⟩
  | N + 1 => by
    obtain ⟨s, _, hs⟩ := slopes_ex h0 N
    refine ⟨fun k => if k = N then ((N + 1 : Nat) : Rat) * e (N + 1) - ps s e N N else s k, h0, fun n hn => ?_⟩
    by_cases hN : n = N
    · subst hN
      have e1 : ps (fun k => if k = n then ((n + 1 : Nat) : Rat) * e (n + 1) - ps s e n n else s k) e n n = ps s e n n := ps_congr _ (fun k hk => if_neg (by omega)) fun _ _ => rfl
      show _ = ps _ e n n + (if n = n then ((n + 1 : Nat) : Rat) * e (n + 1) - ps s e n n else s n) * e (n - n)
      rw [e1, if_pos rfl, Nat.sub_self, h0]
      grind
    · rw [hs n (by omega)]
      exact cv_congr (fun k hk => (if_neg (by omega)).symm) fun _ _ => rfl
theorem nat_sm {r : Rat} (h : Gd r) {k : Nat} (hk : k ≤ 1000) : Sm ((k : Rat) * r) := by
  have h1 := (Iz.nat k).mul h
  rw [Nat.one_mul] at h1
  refine sm_of h1 M1_ne (Nat.lt_of_lt_of_le M1_lt (two_le (by decide))) ?_
  have : k * 2 ^ 300 ≤ 2 ^ 10 * 2 ^ 300 := Nat.mul_le_mul_right _ (Nat.le_trans hk (by decide))
  rw [← Nat.pow_add] at this
  exact Nat.lt_of_le_of_lt this (Nat.pow_lt_pow_right (by decide) (by decide))
theorem div_sm {r : Rat} (h : Gd r) {k : Nat} (hk : k ≤ 1000) : Sm (r / ((k + 1 : Nat) : Rat)) := by
  have h1 := Iz.mul h (Iz.inv k)
  have e : r * (1 / ((k + 1 : Nat) : Rat)) = r / ((k + 1 : Nat) : Rat) := by
    have := natc_ne k
    generalize ((k + 1 : Nat) : Rat) = X at *
    grind
  rw [e, Nat.mul_one] at h1
  refine sm_of h1 (Nat.mul_ne_zero M1_ne (by omega)) ?_ (Nat.pow_lt_pow_right (by decide) (by decide))
  have : M1 * (k + 1) ≤ 2 ^ 80 * 2 ^ 10 := Nat.mul_le_mul (Nat.le_of_lt M1_lt) (by omega)
  rw [← Nat.pow_add] at this
  exact Nat.lt_of_le_of_lt this (Nat.pow_lt_pow_right (by decide) (by decide))
theorem gd12 {r : Rat} (h : Iz 12 36 r) : Gd r := gd_of h (Nat.dvd_trans (by decide : 12 ∣ 12 ^ 13) (Nat.dvd_mul_right _ _)) (Nat.le_trans (by decide : 36 ≤ 2 ^ 10) (two_le (by decide)))
theorem tot_sm {f : Nat → Rat} {N n : Nat} (hf : ∀ k ≤ N, Iz 12 36 (f k)) (hN : N ≤ 12) (hn : n ≤ N) : ∀ k, k ≤ 12 → Sm (tot f k n) := fun k hk => by
  have h : ∀ k, k ≤ 12 → Iz M1 ((k + 1) * 2 ^ 300) (tot f k n) := fun k => by
    induction k with
    | zero =>
      intro _
      rw [Nat.one_mul]
      exact tm_gd hf hN (Nat.zero_le _) hn
    | succ k ih =>
      intro hk
      have := (ih (by omega)).add (tm_gd hf hN hk hn)
      rw [Nat.succ_mul]
      exact this
  refine sm_of (h k hk) M1_ne (Nat.lt_of_lt_of_le M1_lt (two_le (by decide))) ?_
  have : (k + 1) * 2 ^ 300 ≤ 2 ^ 10 * 2 ^ 300 := Nat.mul_le_mul_right _ (by omega)
  rw [← Nat.pow_add] at this
  exact Nat.lt_of_le_of_lt this (Nat.pow_lt_pow_right (by decide) (by decide))
end SM
namespace KP
open PySem PySem.Spec PyProof.Rows L2 EXT SDT GXP AUG
open SM (fq ps cv dv tm tot Goes Iz Sm)
def topS (i : Nat) : Stmt := PySem.Challenge.pw_spinfield_k43_series.main.body.getD i (.Pass ⟨0, 0, 0, 0⟩)
abbrev s_fraction : Stmt := topS 2
abbrev n_fraction : List Str := ["numerator", "denominator", "divisor"]
theorem sc_fraction : FnScope n_fraction ["numerator", "denominator"] (defScope s_fraction) := ⟨rfl, rfl, rfl, by decide +kernel, rfl, by decide +kernel, by decide +kernel⟩
abbrev s_add : Stmt := topS 3
abbrev n_add : List Str := ["a", "b"]
theorem sc_add : FnScope n_add ["a", "b"] (defScope s_add) := ⟨rfl, rfl, rfl, by decide +kernel, rfl, by decide +kernel, by decide +kernel⟩
abbrev s_subtract : Stmt := topS 4
abbrev n_subtract : List Str := ["a", "b"]
theorem sc_subtract : FnScope n_subtract ["a", "b"] (defScope s_subtract) := ⟨rfl, rfl, rfl, by decide +kernel, rfl, by decide +kernel, by decide +kernel⟩
abbrev s_multiply : Stmt := topS 5
abbrev n_multiply : List Str := ["a", "b"]
theorem sc_multiply : FnScope n_multiply ["a", "b"] (defScope s_multiply) := ⟨rfl, rfl, rfl, by decide +kernel, rfl, by decide +kernel, by decide +kernel⟩
abbrev s_divide : Stmt := topS 6
abbrev n_divide : List Str := ["a", "b"]
theorem sc_divide : FnScope n_divide ["a", "b"] (defScope s_divide) := ⟨rfl, rfl, rfl, by decide +kernel, rfl, by decide +kernel, by decide +kernel⟩
abbrev s_series_product : Stmt := topS 8
abbrev n_series_product : List Str := ["first", "second", "order"]
theorem sc_series_product : FnScope n_series_product ["first", "second"] (defScope s_series_product) := ⟨rfl, rfl, rfl, by decide +kernel, rfl, by decide +kernel, by decide +kernel⟩
abbrev s_sum_of_products : Stmt := topS 9
abbrev n_sum_of_products : List Str := ["first", "second", "order", "total", "k"]
theorem sc_sum_of_products : FnScope n_sum_of_products ["first", "second", "order"] (defScope s_sum_of_products) := ⟨rfl, rfl, rfl, by decide +kernel, rfl, by decide +kernel, by decide +kernel⟩
abbrev s_exponential : Stmt := topS 10
abbrev n_exponential : List Str := ["series", "entries", "steps", "order"]
theorem sc_exponential : FnScope n_exponential ["series"] (defScope s_exponential) := ⟨rfl, rfl, rfl, by decide +kernel, rfl, by decide +kernel, by decide +kernel⟩
abbrev s_logarithm : Stmt := topS 11
abbrev n_logarithm : List Str := ["series", "slopes", "steps", "order", "known", "k", "slope"]
theorem sc_logarithm : FnScope n_logarithm ["series"] (defScope s_logarithm) := ⟨rfl, rfl, rfl, by decide +kernel, rfl, by decide +kernel, by decide +kernel⟩
abbrev s_with_factors : Stmt := topS 12
abbrev n_with_factors : List Str := ["series", "k", "entry"]
theorem sc_with_factors : FnScope n_with_factors ["series"] (defScope s_with_factors) := ⟨rfl, rfl, rfl, by decide +kernel, rfl, by decide +kernel, by decide +kernel⟩
abbrev s_law_cell : Stmt := topS 14
abbrev n_law_cell : List Str := ["script", "k"]
theorem sc_law_cell : FnScope n_law_cell ["script", "k"] (defScope s_law_cell) := ⟨rfl, rfl, rfl, by decide +kernel, rfl, by decide +kernel, by decide +kernel⟩
abbrev s_law_mix : Stmt := topS 15
abbrev n_law_mix : List Str := ["cell", "k", "number"]
theorem sc_law_mix : FnScope n_law_mix ["cell", "k"] (defScope s_law_mix) := ⟨rfl, rfl, rfl, by decide +kernel, rfl, by decide +kernel, by decide +kernel⟩
abbrev s_law_row : Stmt := topS 16
abbrev n_law_row : List Str := ["cell", "count", "bound", "found", "rest", "k"]
theorem sc_law_row : FnScope n_law_row ["cell", "count", "bound"] (defScope s_law_row) := ⟨rfl, rfl, rfl, by decide +kernel, rfl, by decide +kernel, by decide +kernel⟩
abbrev s_law_tuples : Stmt := topS 17
abbrev n_law_tuples : List Str := ["thing", "part"]
theorem sc_law_tuples : FnScope n_law_tuples ["thing"] (defScope s_law_tuples) := ⟨rfl, rfl, rfl, by decide +kernel, rfl, by decide +kernel, by decide +kernel⟩
abbrev s_law_gcd : Stmt := topS 18
abbrev n_law_gcd : List Str := ["a", "b"]
theorem sc_law_gcd : FnScope n_law_gcd ["a", "b"] (defScope s_law_gcd) := ⟨rfl, rfl, rfl, by decide +kernel, rfl, by decide +kernel, by decide +kernel⟩
abbrev s_law_frac : Stmt := topS 19
abbrev n_law_frac : List Str := ["a", "b", "common"]
theorem sc_law_frac : FnScope n_law_frac ["a", "b"] (defScope s_law_frac) := ⟨rfl, rfl, rfl, by decide +kernel, rfl, by decide +kernel, by decide +kernel⟩
abbrev s_law_add : Stmt := topS 20
abbrev n_law_add : List Str := ["p", "q"]
theorem sc_law_add : FnScope n_law_add ["p", "q"] (defScope s_law_add) := ⟨rfl, rfl, rfl, by decide +kernel, rfl, by decide +kernel, by decide +kernel⟩
abbrev s_law_mul : Stmt := topS 21
abbrev n_law_mul : List Str := ["p", "q"]
theorem sc_law_mul : FnScope n_law_mul ["p", "q"] (defScope s_law_mul) := ⟨rfl, rfl, rfl, by decide +kernel, rfl, by decide +kernel, by decide +kernel⟩
abbrev s_law_series : Stmt := topS 24
abbrev n_law_series : List Str := ["cell", "order", "digit"]
theorem sc_law_series : FnScope n_law_series ["cell", "order"] (defScope s_law_series) := ⟨rfl, rfl, rfl, by decide +kernel, rfl, by decide +kernel, by decide +kernel⟩
abbrev s_law_series_product : Stmt := topS 25
abbrev n_law_series_product : List Str := ["first", "second", "found", "i", "j"]
theorem sc_law_series_product : FnScope n_law_series_product ["first", "second"] (defScope s_law_series_product) := ⟨rfl, rfl, rfl, by decide +kernel, rfl, by decide +kernel, by decide +kernel⟩
abbrev s_law : Stmt := topS 26
abbrev n_law : List Str := ["script", "cell", "order", "first", "second", "told", "low", "total", "term", "k", "entry", "i", "grown", "unit", "shrunk"]
theorem sc_law : FnScope n_law ["script"] (defScope s_law) := ⟨rfl, rfl, rfl, by decide +kernel, rfl, by decide +kernel, by decide +kernel⟩
structure Top (K : PySem.W.Frag) (mg : Str → Option Value) : Type where
  f_fraction : Addr
  d_fraction : FuncData
  F_fraction : Fun K "fraction" "fraction" s_fraction f_fraction d_fraction
  b_fraction : Binds K d_fraction ["numerator", "denominator"] []
  g_fraction : mg "fraction" = some (.ref f_fraction)
  f_add : Addr
  d_add : FuncData
  F_add : Fun K "add" "add" s_add f_add d_add
  b_add : Binds K d_add ["a", "b"] []
  g_add : mg "add" = some (.ref f_add)
  f_subtract : Addr
  d_subtract : FuncData
  F_subtract : Fun K "subtract" "subtract" s_subtract f_subtract d_subtract
  b_subtract : Binds K d_subtract ["a", "b"] []
  g_subtract : mg "subtract" = some (.ref f_subtract)
  f_multiply : Addr
  d_multiply : FuncData
  F_multiply : Fun K "multiply" "multiply" s_multiply f_multiply d_multiply
  b_multiply : Binds K d_multiply ["a", "b"] []
  g_multiply : mg "multiply" = some (.ref f_multiply)
  f_divide : Addr
  d_divide : FuncData
  F_divide : Fun K "divide" "divide" s_divide f_divide d_divide
  b_divide : Binds K d_divide ["a", "b"] []
  g_divide : mg "divide" = some (.ref f_divide)
  f_series_product : Addr
  d_series_product : FuncData
  c_series_product : Addr
  P_series_product : Addr
  F_series_product : FunC K "series_product" "series_product" s_series_product f_series_product d_series_product c_series_product
  b_series_product : Binds K d_series_product ["first", "second"] []
  g_series_product : mg "series_product" = some (.ref f_series_product)
  f_sum_of_products : Addr
  d_sum_of_products : FuncData
  F_sum_of_products : Fun K "_sum_of_products" "_sum_of_products" s_sum_of_products f_sum_of_products d_sum_of_products
  b_sum_of_products : Binds K d_sum_of_products ["first", "second", "order"] []
  g_sum_of_products : mg "_sum_of_products" = some (.ref f_sum_of_products)
  f_exponential : Addr
  d_exponential : FuncData
  F_exponential : Fun K "exponential" "exponential" s_exponential f_exponential d_exponential
  b_exponential : Binds K d_exponential ["series"] []
  g_exponential : mg "exponential" = some (.ref f_exponential)
  f_logarithm : Addr
  d_logarithm : FuncData
  c_logarithm : Addr
  P_logarithm : Addr
  F_logarithm : FunC K "logarithm" "logarithm" s_logarithm f_logarithm d_logarithm c_logarithm
  b_logarithm : Binds K d_logarithm ["series"] []
  g_logarithm : mg "logarithm" = some (.ref f_logarithm)
  f_with_factors : Addr
  d_with_factors : FuncData
  F_with_factors : Fun K "_with_factors" "_with_factors" s_with_factors f_with_factors d_with_factors
  b_with_factors : Binds K d_with_factors ["series"] []
  g_with_factors : mg "_with_factors" = some (.ref f_with_factors)
  f_law_cell : Addr
  d_law_cell : FuncData
  F_law_cell : Fun K "_law_cell" "_law_cell" s_law_cell f_law_cell d_law_cell
  b_law_cell : Binds K d_law_cell ["script", "k"] []
  g_law_cell : mg "_law_cell" = some (.ref f_law_cell)
  f_law_mix : Addr
  d_law_mix : FuncData
  F_law_mix : Fun K "_law_mix" "_law_mix" s_law_mix f_law_mix d_law_mix
  b_law_mix : Binds K d_law_mix ["cell", "k"] []
  g_law_mix : mg "_law_mix" = some (.ref f_law_mix)
  f_law_row : Addr
  d_law_row : FuncData
  F_law_row : Fun K "_law_row" "_law_row" s_law_row f_law_row d_law_row
  b_law_row : Binds K d_law_row ["cell", "count", "bound"] []
  g_law_row : mg "_law_row" = some (.ref f_law_row)
  f_law_tuples : Addr
  d_law_tuples : FuncData
  F_law_tuples : Fun K "_law_tuples" "_law_tuples" s_law_tuples f_law_tuples d_law_tuples
  b_law_tuples : Binds K d_law_tuples ["thing"] []
  g_law_tuples : mg "_law_tuples" = some (.ref f_law_tuples)
  f_law_gcd : Addr
  d_law_gcd : FuncData
  F_law_gcd : Fun K "_law_gcd" "_law_gcd" s_law_gcd f_law_gcd d_law_gcd
  b_law_gcd : Binds K d_law_gcd ["a", "b"] []
  g_law_gcd : mg "_law_gcd" = some (.ref f_law_gcd)
  f_law_frac : Addr
  d_law_frac : FuncData
  F_law_frac : Fun K "_law_frac" "_law_frac" s_law_frac f_law_frac d_law_frac
  b_law_frac : Binds K d_law_frac ["a", "b"] []
  g_law_frac : mg "_law_frac" = some (.ref f_law_frac)
  f_law_add : Addr
  d_law_add : FuncData
  F_law_add : Fun K "_law_add" "_law_add" s_law_add f_law_add d_law_add
  b_law_add : Binds K d_law_add ["p", "q"] []
  g_law_add : mg "_law_add" = some (.ref f_law_add)
  f_law_mul : Addr
  d_law_mul : FuncData
  F_law_mul : Fun K "_law_mul" "_law_mul" s_law_mul f_law_mul d_law_mul
  b_law_mul : Binds K d_law_mul ["p", "q"] []
  g_law_mul : mg "_law_mul" = some (.ref f_law_mul)
  f_law_series : Addr
  d_law_series : FuncData
  F_law_series : Fun K "_law_series" "_law_series" s_law_series f_law_series d_law_series
  b_law_series : Binds K d_law_series ["cell", "order"] []
  g_law_series : mg "_law_series" = some (.ref f_law_series)
  f_law_series_product : Addr
  d_law_series_product : FuncData
  F_law_series_product : Fun K "_law_series_product" "_law_series_product" s_law_series_product f_law_series_product d_law_series_product
  b_law_series_product : Binds K d_law_series_product ["first", "second"] []
  g_law_series_product : mg "_law_series_product" = some (.ref f_law_series_product)
  g_gcd : mg "gcd" = some (.builtin "math.gcd")
  m_abs : mg "abs" = none
  m_all : mg "all" = none
  m_bool : mg "bool" = none
  m_enumerate : mg "enumerate" = none
  m_int : mg "int" = none
  m_isinstance : mg "isinstance" = none
  m_len : mg "len" = none
  m_range : mg "range" = none
  m_tuple : mg "tuple" = none
structure Tb {K : PySem.W.Frag} {mg : Str → Option Value} (T : Top K mg) (base : Heap) : Prop where
  t_series_product : LamX.TabB base mg T.c_series_product T.P_series_product
  t_logarithm : LamX.TabB base mg T.c_logarithm T.P_logarithm
/-- the tables stand -/
structure Tg {K : PySem.W.Frag} {mg : Str → Option Value} (T : Top K mg) (H : Hp) : Prop where
  t_series_product : GxR.TabG H T.P_series_product
  t_logarithm : GxR.TabG H T.P_logarithm
theorem Tg.ext {K : PySem.W.Frag} {mg : Str → Option Value} {T : Top K mg} {H H1 : Hp} (G : Tg T H) (s : Ext H H1) : Tg T H1 := ⟨s.tab G.t_series_product, s.tab G.t_logarithm⟩
theorem sl2 : (2 : Nat) ≤ sizeLine := by rw [sizeLine_eq]; decide
theorem sl_of {n : Nat} (h : n ≤ 1000000) : n ≤ sizeLine := by rw [sizeLine_eq]; omega
theorem sl_lt {n : Nat} (h : n < 1000000) : n < sizeLine := by rw [sizeLine_eq]; omega
end KP
namespace KP
open PySem PySem.Spec PyProof.Rows L2 EXT SDT GXP AUG
open SM (fq ps cv dv tm tot Goes Iz Sm)
section
variable {P : Program} {w : World} {K : PySem.W.Frag} {mg : Str → Option Value} {base : Heap}
/-! ### small rules -/
/-- // by a divisor that is not 0, below 2 ^ 9000 -/
def CDivZ (_ j : Int) : Prop := j ≠ 0 ∧ j.natAbs.log2 < 9000
theorem op_fdivZ {X : Cx} : OpR X (binaryOp .FloorDiv) (rI CDivZ fun i j => .int (i.fdiv j)) := opI fun i j _ _ _ _ _ hc q =>
  floordiv_int hc.1 q (.inl (PyProof.noPylong_of_log2 hc.2))
theorem log_lt {j : Int} {b : Nat} (hb : j.natAbs < 2 ^ b) (h0 : 0 < b) (h9 : b ≤ 9000) : j.natAbs.log2 < 9000 := Nat.lt_of_lt_of_le (PySem.Flt.log2_lt_of h0 hb) h9
theorem same_upd {H : Hp} {p : Addr} {o : HO} (h : H p = none) : Same H (upd H p o) := fun b x e => by
  rw [upd_ne (ne_of_none e h)]
  exact e
theorem _root_.L2.Same.new {H H1 : Hp} {p : Addr} {o : HO} (s : Same H H1) (h : H1 p = none) : Same H (upd H1 p o) := s.trans (same_upd h)
theorem _root_.L2.Same.tup {K : PySem.W.Frag} {H H' : Hp} {a : Addr} {xs : List V} (e : Same H H') (h : SqT K H a xs) : SqT K H' a xs := e.ext.tup h
theorem iteB {c : Bool} {A B : Prop} (h1 : c = true → A) (h2 : c = false → B) : if c = true then A else B := by
  cases c
  · exact iteF (h2 rfl)
  · exact iteT (h1 rfl)
theorem take_snoc {α : Type} {l : List α} {i : Nat} {x : α} (h : l[i]? = some x) : l.take (i + 1) = l.take i ++ [x] := by
  rw [List.take_add_one, h]
  rfl
open K04
/-- the pair p stands as a tuple at a -/
def Fr (K : PySem.W.Frag) (H : Hp) (a : Addr) (p : Int × Int) : Prop := SqT K H a [.int p.1, .int p.2]
theorem _root_.L2.Same.fr {H H' : Hp} {a : Addr} {p : Int × Int} (e : Same H H') (h : Fr K H a p) : Fr K H' a p := Same.tup e h
/-- hands back a new tuple of p -/
def NewF (H : Hp) (Q : VK) (p : Int × Int) : Prop := ∀ a H', Same H H' → H a = none → H' a = some (.tup [.int p.1, .int p.2]) → Q (.ref a) H'
def small (z : Int) : Prop := z.natAbs < 2 ^ 4000
theorem small_log {z : Int} (h : small z) : z.natAbs.log2 < 9000 := log_lt h (by decide) (by decide)
def spFrac : Sp := fun vs H Q _ => ∃ n d : Int, vs = [.int n, .int d] ∧ d ≠ 0 ∧ small d ∧ NewF H Q (F n d)
theorem gs_small {n d : Int} (h : d ≠ 0) (hs : small d) : CDivZ 0 (gs n d) := ⟨gs_ne h, small_log (Nat.lt_of_le_of_lt (gs_le n h) hs)⟩
theorem ok_fraction (T : Top K mg) : FnOk P w K mg base CX0 1 T.f_fraction T.d_fraction ["numerator", "denominator"] spFrac := by
  refine T.F_fraction.ok sc_fraction (fun vs H Q E h => ?_) (fun cdv A outer s H vs Q E hr h => ?_)
  · obtain ⟨n, d, rfl, _⟩ := h
    rfl
  · obtain ⟨n, d, rfl, hd, hs, q⟩ := h
    refine ⟨_, (pss_cons (ps_set (i := 2) sc_fraction.nd rfl (by first | exact .inl rfl | exact .inr rfl) (pe_callBfun cr_gcd (by rfl) T.g_gcd (pa_cons (pv 0) (pa_cons (pv 1) pa_nil))))
      (pss_cons (ps_if (pt_cmpR op_lt (pv 1) pe_int (nomark _)) (pss_one (ps_set (i := 2) sc_fraction.nd rfl (by first | exact .inl rfl | exact .inr rfl) (pe_un un_neg (pv 2)))) pss_nil)
      (pss_one (ps_ret (pe_tup (pa_cons (pe_op op_fdivZ (pv 0) (pv 2)) (pa_cons (pe_op op_fdivZ (pv 1) (pv 2)) pa_nil))))))), ?_⟩
    refine ⟨_, rfl, _, rfl, n, d, rfl, ?_⟩
    refine ⟨_, rfl, _, _, rfl, rfl, _, rfl, ?_⟩
    have g0 := gs_small (n := n) hd hs
    refine ite2 (fun e => ?_) (fun e => ?_)
    · have e := of_decide_eq_true e
      have eg : gs n d = -((Nat.gcd n.natAbs d.natAbs : Nat) : Int) := by
        unfold gs
        rw [if_pos e]
      have q : NewF H Q (n.fdiv (gs n d), d.fdiv (gs n d)) := q
      rw [eg] at q g0
      refine ⟨_, rfl, _, rfl, ?_⟩
      refine ⟨_, rfl, _, rfl, _, _, rfl, rfl, g0, _, rfl, _, rfl, _, _, rfl, rfl, g0, sl2, fun p hp => ?_⟩
      exact q p _ (same_upd hp) hp upd_same
    · have e : ¬ d < 0 := fun z => e (decide_eq_true z)
      have eg : gs n d = ((Nat.gcd n.natAbs d.natAbs : Nat) : Int) := by
        unfold gs
        rw [if_neg e]
      have q : NewF H Q (n.fdiv (gs n d), d.fdiv (gs n d)) := q
      rw [eg] at q g0
      refine ⟨_, rfl, _, rfl, _, _, rfl, rfl, g0, _, rfl, _, rfl, _, _, rfl, rfl, g0, sl2, fun p hp => ?_⟩
      exact q p _ (same_upd hp) hp upd_same
/-- two fractions come in, a new one goes out -/
def spOp2 (K : PySem.W.Frag) (ok : (Int × Int) → (Int × Int) → Prop) (f : (Int × Int) → (Int × Int) → (Int × Int)) : Sp := fun vs H Q _ => ∃ (a b : Addr) (p q : Int × Int), vs = [.ref a, .ref b] ∧ Fr K H a p ∧ Fr K H b q ∧ ok p q ∧ NewF H Q (f p q)
def mid (z : Int) : Prop := z.natAbs < 2 ^ 1900
theorem mid_mul {x y : Int} (hx : mid x) (hy : mid y) : CMulW x y := wide_mul hx hy (by decide) (by decide) (by decide)
theorem mid_small {x y : Int} (hx : mid x) (hy : mid y) : small (x * y) := Nat.lt_of_lt_of_le (wide_lt hx hy) (Nat.pow_le_pow_right (by decide) (by decide))
def okA (p q : Int × Int) : Prop := mid p.1 ∧ mid p.2 ∧ mid q.1 ∧ mid q.2 ∧ p.2 ≠ 0 ∧ q.2 ≠ 0
def okD (p q : Int × Int) : Prop := mid p.1 ∧ mid p.2 ∧ mid q.1 ∧ mid q.2 ∧ p.2 ≠ 0 ∧ q.1 ≠ 0
theorem ok_add (T : Top K mg) : FnOk P w K mg base CX0 2 T.f_add T.d_add ["a", "b"] (spOp2 K okA addF) := by
  refine T.F_add.ok sc_add (fun vs H Q E h => ?_) (fun cdv A outer s H vs Q E hr h => ?_)
  · obtain ⟨a, b, p, q, rfl, _⟩ := h
    rfl
  · obtain ⟨a, b, p, q, rfl, hp, hq, ⟨m1, m2, m3, m4, n1, n2⟩, k⟩ := h
    refine ⟨_, (pss_one (ps_ret (pe_call (ok_fraction T) (hr.mono (by decide)) (by rfl) T.g_fraction T.F_fraction.kp T.b_fraction .nil pass0 (pa_cons (pe_op op_add (pe_op op_mulW (pe_ix ix_tup (pv 0) pe_int (fun _ _ => rfl)) (pe_ix ix_tup (pv 1) pe_int (fun _ _ => rfl))) (pe_op op_mulW (pe_ix ix_tup (pv 1) pe_int (fun _ _ => rfl)) (pe_ix ix_tup (pv 0) pe_int (fun _ _ => rfl)))) (pa_cons (pe_op op_mulW (pe_ix ix_tup (pv 0) pe_int (fun _ _ => rfl)) (pe_ix ix_tup (pv 1) pe_int (fun _ _ => rfl))) pa_nil))))), ?_⟩
    refine ⟨_, rfl, a, _, _, _, rfl, rfl, hp, atI_nat (j := 0) rfl, _, rfl, b, _, _, _, rfl, rfl, hq, atI_nat (j := 1) rfl, _, _, rfl, rfl, mid_mul m1 m4, ?_⟩
    refine ⟨_, rfl, b, _, _, _, rfl, rfl, hq, atI_nat (j := 0) rfl, _, rfl, a, _, _, _, rfl, rfl, hp, atI_nat (j := 1) rfl, _, _, rfl, rfl, mid_mul m3 m2, ?_⟩
    refine ⟨_, _, rfl, rfl, ?_⟩
    refine ⟨_, rfl, a, _, _, _, rfl, rfl, hp, atI_nat (j := 1) rfl, _, rfl, b, _, _, _, rfl, rfl, hq, atI_nat (j := 1) rfl, _, _, rfl, rfl, mid_mul m2 m4, ?_⟩
    exact ⟨_, _, rfl, Int.mul_ne_zero n1 n2, mid_small m2 m4, k⟩
theorem ok_subtract (T : Top K mg) : FnOk P w K mg base CX0 2 T.f_subtract T.d_subtract ["a", "b"] (spOp2 K okA subF) := by
  refine T.F_subtract.ok sc_subtract (fun vs H Q E h => ?_) (fun cdv A outer s H vs Q E hr h => ?_)
  · obtain ⟨a, b, p, q, rfl, _⟩ := h
    rfl
  · obtain ⟨a, b, p, q, rfl, hp, hq, ⟨m1, m2, m3, m4, n1, n2⟩, k⟩ := h
    refine ⟨_, (pss_one (ps_ret (pe_call (ok_fraction T) (hr.mono (by decide)) (by rfl) T.g_fraction T.F_fraction.kp T.b_fraction .nil pass0 (pa_cons (pe_op op_sub (pe_op op_mulW (pe_ix ix_tup (pv 0) pe_int (fun _ _ => rfl)) (pe_ix ix_tup (pv 1) pe_int (fun _ _ => rfl))) (pe_op op_mulW (pe_ix ix_tup (pv 1) pe_int (fun _ _ => rfl)) (pe_ix ix_tup (pv 0) pe_int (fun _ _ => rfl)))) (pa_cons (pe_op op_mulW (pe_ix ix_tup (pv 0) pe_int (fun _ _ => rfl)) (pe_ix ix_tup (pv 1) pe_int (fun _ _ => rfl))) pa_nil))))), ?_⟩
    refine ⟨_, rfl, a, _, _, _, rfl, rfl, hp, atI_nat (j := 0) rfl, _, rfl, b, _, _, _, rfl, rfl, hq, atI_nat (j := 1) rfl, _, _, rfl, rfl, mid_mul m1 m4, ?_⟩
    refine ⟨_, rfl, b, _, _, _, rfl, rfl, hq, atI_nat (j := 0) rfl, _, rfl, a, _, _, _, rfl, rfl, hp, atI_nat (j := 1) rfl, _, _, rfl, rfl, mid_mul m3 m2, ?_⟩
    refine ⟨_, _, rfl, rfl, ?_⟩
    refine ⟨_, rfl, a, _, _, _, rfl, rfl, hp, atI_nat (j := 1) rfl, _, rfl, b, _, _, _, rfl, rfl, hq, atI_nat (j := 1) rfl, _, _, rfl, rfl, mid_mul m2 m4, ?_⟩
    exact ⟨_, _, rfl, Int.mul_ne_zero n1 n2, mid_small m2 m4, k⟩
theorem ok_multiply (T : Top K mg) : FnOk P w K mg base CX0 2 T.f_multiply T.d_multiply ["a", "b"] (spOp2 K okA mulF) := by
  refine T.F_multiply.ok sc_multiply (fun vs H Q E h => ?_) (fun cdv A outer s H vs Q E hr h => ?_)
  · obtain ⟨a, b, p, q, rfl, _⟩ := h
    rfl
  · obtain ⟨a, b, p, q, rfl, hp, hq, ⟨m1, m2, m3, m4, n1, n2⟩, k⟩ := h
    refine ⟨_, (pss_one (ps_ret (pe_call (ok_fraction T) (hr.mono (by decide)) (by rfl) T.g_fraction T.F_fraction.kp T.b_fraction .nil pass0 (pa_cons (pe_op op_mulW (pe_ix ix_tup (pv 0) pe_int (fun _ _ => rfl)) (pe_ix ix_tup (pv 1) pe_int (fun _ _ => rfl))) (pa_cons (pe_op op_mulW (pe_ix ix_tup (pv 0) pe_int (fun _ _ => rfl)) (pe_ix ix_tup (pv 1) pe_int (fun _ _ => rfl))) pa_nil))))), ?_⟩
    refine ⟨_, rfl, a, _, _, _, rfl, rfl, hp, atI_nat (j := 0) rfl, _, rfl, b, _, _, _, rfl, rfl, hq, atI_nat (j := 0) rfl, _, _, rfl, rfl, mid_mul m1 m3, ?_⟩
    refine ⟨_, rfl, a, _, _, _, rfl, rfl, hp, atI_nat (j := 1) rfl, _, rfl, b, _, _, _, rfl, rfl, hq, atI_nat (j := 1) rfl, _, _, rfl, rfl, mid_mul m2 m4, ?_⟩
    exact ⟨_, _, rfl, Int.mul_ne_zero n1 n2, mid_small m2 m4, k⟩
theorem ok_divide (T : Top K mg) : FnOk P w K mg base CX0 2 T.f_divide T.d_divide ["a", "b"] (spOp2 K okD divF) := by
  refine T.F_divide.ok sc_divide (fun vs H Q E h => ?_) (fun cdv A outer s H vs Q E hr h => ?_)
  · obtain ⟨a, b, p, q, rfl, _⟩ := h
    rfl
  · obtain ⟨a, b, p, q, rfl, hp, hq, ⟨m1, m2, m3, m4, n1, n2⟩, k⟩ := h
    refine ⟨_, (pss_one (ps_ret (pe_call (ok_fraction T) (hr.mono (by decide)) (by rfl) T.g_fraction T.F_fraction.kp T.b_fraction .nil pass0 (pa_cons (pe_op op_mulW (pe_ix ix_tup (pv 0) pe_int (fun _ _ => rfl)) (pe_ix ix_tup (pv 1) pe_int (fun _ _ => rfl))) (pa_cons (pe_op op_mulW (pe_ix ix_tup (pv 0) pe_int (fun _ _ => rfl)) (pe_ix ix_tup (pv 1) pe_int (fun _ _ => rfl))) pa_nil))))), ?_⟩
    refine ⟨_, rfl, a, _, _, _, rfl, rfl, hp, atI_nat (j := 0) rfl, _, rfl, b, _, _, _, rfl, rfl, hq, atI_nat (j := 1) rfl, _, _, rfl, rfl, mid_mul m1 m4, ?_⟩
    refine ⟨_, rfl, a, _, _, _, rfl, rfl, hp, atI_nat (j := 1) rfl, _, rfl, b, _, _, _, rfl, rfl, hq, atI_nat (j := 0) rfl, _, _, rfl, rfl, mid_mul m2 m3, ?_⟩
    exact ⟨_, _, rfl, Int.mul_ne_zero n1 n2, mid_small m2 m3, k⟩
/-! ### the law's own reckoning -/
def spGcd : Sp := fun vs H Q _ => ∃ a b : Int, vs = [.int a, .int b] ∧ Q (.int ((Nat.gcd a.natAbs b.natAbs : Nat) : Int)) H
theorem ok_law_gcd (T : Top K mg) : FnOk P w K mg base CX0 1 T.f_law_gcd T.d_law_gcd ["a", "b"] spGcd := by
  refine T.F_law_gcd.ok sc_law_gcd (fun vs H Q E h => ?_) (fun cdv A outer s H vs Q E hr h => ?_)
  · obtain ⟨a, b, rfl, _⟩ := h
    rfl
  · obtain ⟨a, b, rfl, q⟩ := h
    refine ⟨_, (pss_cons (ps_while PassesOwn.never (pt_truth (pv 1) (by intro _; rfl)) (pss_one (ps_par (i := 0) (j := 1) rfl sc_law_gcd.nd rfl rfl (by decide) rfl rfl (pa_cons (pv 1) (pa_cons (pe_op op_modN (pv 0) (pv 1)) pa_nil)) (by rfl))))
      (pss_one (ps_ret (pe_callB call_abs (by rfl) T.m_abs (by decide +kernel) (pa_cons (pv 0) pa_nil))))), ?_⟩
    refine while_by (fun σ H1 => H1 = H ∧ ∃ x y : Int, σ = [some (.int x), some (.int y)] ∧ Nat.gcd x.natAbs y.natAbs = Nat.gcd a.natAbs b.natAbs) (fun σ _ => match σ with | [_, some (.int y)] => y.natAbs | _ => 0)
      ⟨rfl, a, b, rfl, rfl⟩ ?_ ?_
    · rintro σ H1 ⟨rfl, x, y, rfl, e⟩
      refine ⟨_, rfl, _, rfl, iteB (fun ey => ?_) (fun ey => ?_)⟩
      · have ey : y ≠ 0 := by simpa using ey
        refine ⟨_, rfl, _, rfl, _, rfl, _, _, rfl, rfl, ey, _, _, rfl, ⟨rfl, y, x.fmod y, rfl, ?_⟩, ?_⟩
        · rw [gcd_step]
          exact e
        · exact fmod_small ey
      · have ey : y = 0 := by simpa using ey
        subst ey
        refine ⟨_, rfl, x, rfl, ?_⟩
        have e2 : (if x < 0 then -x else x) = ((Nat.gcd a.natAbs b.natAbs : Nat) : Int) := by
          rw [← e, Int.natAbs_zero, Nat.gcd_zero_right]
          split <;> omega
        rw [e2]
        exact q
    · rintro σ H1 Q1 Q2 hq ⟨v, hv, k, hk, h⟩
      exact ⟨v, hv, k, hk, hq _ _ h⟩
theorem ok_law_frac (T : Top K mg) : FnOk P w K mg base CX0 2 T.f_law_frac T.d_law_frac ["a", "b"] spFrac := by
  refine T.F_law_frac.ok sc_law_frac (fun vs H Q E h => ?_) (fun cdv A outer s H vs Q E hr h => ?_)
  · obtain ⟨n, d, rfl, _⟩ := h
    rfl
  · obtain ⟨n, d, rfl, hd, hs, q⟩ := h
    refine ⟨_, (pss_cons (ps_set (i := 2) sc_law_frac.nd rfl (by first | exact .inl rfl | exact .inr rfl) (pe_call (ok_law_gcd T) (hr.mono (by decide)) (by rfl) T.g_law_gcd T.F_law_gcd.kp T.b_law_gcd .nil pass0 (pa_cons (pv 0) (pa_cons (pv 1) pa_nil))))
      (pss_cons (ps_if (pt_cmpR op_lt (pv 1) pe_int (nomark _)) (pss_one (ps_set (i := 2) sc_law_frac.nd rfl (by first | exact .inl rfl | exact .inr rfl) (pe_un un_neg (pv 2)))) pss_nil)
      (pss_one (ps_ret (pe_tup (pa_cons (pe_op op_fdivZ (pv 0) (pv 2)) (pa_cons (pe_op op_fdivZ (pv 1) (pv 2)) pa_nil))))))), ?_⟩
    refine ⟨_, rfl, _, rfl, n, d, rfl, ?_⟩
    refine ⟨_, rfl, _, _, rfl, rfl, _, rfl, ?_⟩
    have g0 := gs_small (n := n) hd hs
    refine ite2 (fun e => ?_) (fun e => ?_)
    · have e := of_decide_eq_true e
      have eg : gs n d = -((Nat.gcd n.natAbs d.natAbs : Nat) : Int) := by
        unfold gs
        rw [if_pos e]
      have q : NewF H Q (n.fdiv (gs n d), d.fdiv (gs n d)) := q
      rw [eg] at q g0
      refine ⟨_, rfl, _, rfl, ?_⟩
      refine ⟨_, rfl, _, rfl, _, _, rfl, rfl, g0, _, rfl, _, rfl, _, _, rfl, rfl, g0, sl2, fun p hp => ?_⟩
      exact q p _ (same_upd hp) hp upd_same
    · have e : ¬ d < 0 := fun z => e (decide_eq_true z)
      have eg : gs n d = ((Nat.gcd n.natAbs d.natAbs : Nat) : Int) := by
        unfold gs
        rw [if_neg e]
      have q : NewF H Q (n.fdiv (gs n d), d.fdiv (gs n d)) := q
      rw [eg] at q g0
      refine ⟨_, rfl, _, rfl, _, _, rfl, rfl, g0, _, rfl, _, rfl, _, _, rfl, rfl, g0, sl2, fun p hp => ?_⟩
      exact q p _ (same_upd hp) hp upd_same
theorem ok_law_mul (T : Top K mg) : FnOk P w K mg base CX0 3 T.f_law_mul T.d_law_mul ["p", "q"] (spOp2 K okA mulF) := by
  refine T.F_law_mul.ok sc_law_mul (fun vs H Q E h => ?_) (fun cdv A outer s H vs Q E hr h => ?_)
  · obtain ⟨a, b, p, q, rfl, _⟩ := h
    rfl
  · obtain ⟨a, b, p, q, rfl, hp, hq, ⟨m1, m2, m3, m4, n1, n2⟩, k⟩ := h
    refine ⟨_, (pss_one (ps_ret (pe_call (ok_law_frac T) (hr.mono (by decide)) (by rfl) T.g_law_frac T.F_law_frac.kp T.b_law_frac .nil pass0 (pa_cons (pe_op op_mulW (pe_ix ix_tup (pv 0) pe_int (fun _ _ => rfl)) (pe_ix ix_tup (pv 1) pe_int (fun _ _ => rfl))) (pa_cons (pe_op op_mulW (pe_ix ix_tup (pv 0) pe_int (fun _ _ => rfl)) (pe_ix ix_tup (pv 1) pe_int (fun _ _ => rfl))) pa_nil))))), ?_⟩
    refine ⟨_, rfl, a, _, _, _, rfl, rfl, hp, atI_nat (j := 0) rfl, _, rfl, b, _, _, _, rfl, rfl, hq, atI_nat (j := 0) rfl, _, _, rfl, rfl, mid_mul m1 m3, ?_⟩
    refine ⟨_, rfl, a, _, _, _, rfl, rfl, hp, atI_nat (j := 1) rfl, _, rfl, b, _, _, _, rfl, rfl, hq, atI_nat (j := 1) rfl, _, _, rfl, rfl, mid_mul m2 m4, ?_⟩
    exact ⟨_, _, rfl, Int.mul_ne_zero n1 n2, mid_small m2 m4, k⟩
/-! ### the law's cell of the script -/
def cellZ (ns : List Int) (k : Nat) : Int := ns.getD k 0
def spCellZ (K : PySem.W.Frag) : Sp := fun vs H Q _ => ∃ (l : Addr) (ns : List Int) (k : Nat), vs = [.ref l, .int (k : Int)] ∧ SqL K H l (ns.map V.int) ∧ Q (.int (cellZ ns k)) H
theorem ok_law_cell (T : Top K mg) : FnOk P w K mg base CX0 1 T.f_law_cell T.d_law_cell ["script", "k"] (spCellZ K) := by
  refine T.F_law_cell.ok sc_law_cell (fun vs H Q E h => ?_) (fun cdv A outer s H vs Q E hr h => ?_)
  · obtain ⟨l, ns, k, rfl, _⟩ := h
    rfl
  · obtain ⟨l, ns, k, rfl, hS, q⟩ := h
    refine ⟨_, (pss_cons (ps_if (pt_cmpR op_lt (pv 1) (pe_callB call_len_seq (by rfl) T.m_len (by decide +kernel) (pa_cons (pv 0) pa_nil)) (nomark _)) (pss_one (ps_ret (pe_callTy call_int1 (by rfl) T.m_int (by decide +kernel) (pa_cons (pe_ix ix_list (pv 0) (pv 1) (fun _ _ => rfl)) pa_nil)))) pss_nil)
      (pss_one (ps_ret pe_int))), ?_⟩
    refine ⟨_, rfl, _, rfl, l, _, rfl, .inl hS, _, _, rfl, rfl, _, rfl, ?_⟩
    refine ite2 (fun e => ?_) (fun e => ?_)
    · have hk : k < ns.length := by
        have := of_decide_eq_true e
        rw [List.length_map] at this
        omega
      refine ⟨_, rfl, _, rfl, l, _, _, .int ns[k], rfl, rfl, hS, ?_, .inl ⟨_, rfl, ?_⟩⟩
      · refine atI_nat ?_
        rw [List.getElem?_map, List.getElem?_eq_getElem hk]
        rfl
      · have : cellZ ns k = ns[k] := by
          unfold cellZ
          rw [List.getD_eq_getElem?_getD, List.getElem?_eq_getElem hk]
          rfl
        rw [← this]
        exact q
    · have hk : ¬ k < ns.length := fun z => e (by
        refine decide_eq_true ?_
        rw [List.length_map]
        omega)
      have : cellZ ns k = 0 := by
        unfold cellZ
        rw [List.getD_eq_getElem?_getD, List.getElem?_eq_none (by omega)]
        rfl
      show Q (.int 0) H
      rw [← this]
      exact q
/-! ### data that stands in the heap -/
mutual
theorem dp_same {K : PySem.W.Frag} {H H' : Hp} (s : Same H H') : ∀ {v : V} {d : PyData}, Dp K H v d → Dp K H' v d
  | _, _, .non => .non
  | _, _, .bl b => .bl b
  | _, _, .int i => .int i
  | _, _, .str x => .str x
  | _, _, .lst h t => .lst (s.seq h) (dpAll_same s t)
  | _, _, .tup h t => .tup (s.tup h) (dpAll_same s t)
theorem dpAll_same {K : PySem.W.Frag} {H H' : Hp} (s : Same H H') : ∀ {vs : List V} {ds : List PyData}, DpAll K H vs ds → DpAll K H' vs ds
  | _, _, .nil => .nil
  | _, _, .cons h t => .cons (dp_same s h) (dpAll_same s t)
end
theorem dpAll_len {K : PySem.W.Frag} {H : Hp} : ∀ {vs : List V} {ds : List PyData}, DpAll K H vs ds → vs.length = ds.length
  | _, _, .nil => rfl
  | _, _, .cons _ t => congrArg (· + 1) (dpAll_len t)
theorem dpAll_get {K : PySem.W.Frag} {H : Hp} : ∀ {vs : List V} {ds : List PyData} {i : Nat} {v : V}, DpAll K H vs ds → vs[i]? = some v → ∃ d, ds[i]? = some d ∧ d ∈ ds ∧ Dp K H v d
  | _, _, i, v, .nil, h => by simp at h
  | _, d :: ds, 0, v, .cons a t, h => by
    simp only [List.getElem?_cons_zero, Option.some.injEq] at h
    subst h
    exact ⟨d, rfl, List.mem_cons_self, a⟩
  | _, d :: ds, i + 1, v, .cons a t, h => by
    simp only [List.getElem?_cons_succ] at h
    obtain ⟨e, h1, h2, h3⟩ := dpAll_get t h
    exact ⟨e, by simpa using h1, List.mem_cons_of_mem _ h2, h3⟩
theorem dpAll_of {α : Type} {K : PySem.W.Frag} {H : Hp} {f : α → PyData} {R : V → α → Prop} (hR : ∀ v x, R v x → Dp K H v (f x)) : ∀ {vs : List V} {xs : List α}, Paired R vs xs → DpAll K H vs (xs.map f)
  | _, _, .nil => .nil
  | _, _, .cons h t => .cons (hR _ _ h) (dpAll_of hR t)
theorem sqt_ty {K : PySem.W.Frag} {H : Hp} {a : Addr} {xs : List V} (h : SqT K H a xs) : TyX K H (.ref a) (.type "tuple") := by
  rcases h with (h | ⟨o, h⟩) | ⟨o, its, n, h, hc, _⟩
  · exact .base (.tup h)
  · exact .fTuple h
  · exact .kTuple h hc
theorem sql_ty {K : PySem.W.Frag} {H : Hp} {a : Addr} {xs : List V} (h : SqL K H a xs) : TyX K H (.ref a) (.type "list") := by
  rcases h with (h | ⟨o, h⟩) | ⟨o, its, n, h, hc, _⟩
  · exact .base (.lst h)
  · exact .base (.frz h)
  · exact .kList h hc
/-- nested tuples of ints, at most n - 1 deep -/
def tupD : Nat → PyData → Prop
  | 0, _ => False
  | _ + 1, .int _ => True
  | n + 1, .tuple ds => ds.length < 1000000 ∧ ∀ x ∈ ds, tupD n x
  | _ + 1, _ => False
def spTup (K : PySem.W.Frag) (n : Nat) : Sp := fun vs H Q _ => ∃ v d, vs = [v] ∧ Dp K H v d ∧ tupD n d ∧ ∀ H', Same H H' → Q (.bl true) H'
theorem ok_law_tuples (T : Top K mg) : ∀ n, FnOk P w K mg base CX0 (n + 1) T.f_law_tuples T.d_law_tuples ["thing"] (spTup K n)
  | 0 => T.F_law_tuples.ok sc_law_tuples (fun vs H Q E h => by obtain ⟨v, d, _, _, h, _⟩ := h; exact h.elim) (fun cdv A outer s H vs Q E hr h => by obtain ⟨v, d, _, _, h, _⟩ := h; exact h.elim)
  | n + 1 => by
    have ih := ok_law_tuples T n
    refine T.F_law_tuples.ok sc_law_tuples (fun vs H Q E h => ?_) (fun cdv A outer s H vs Q E hr h => ?_)
    · obtain ⟨v, d, rfl, _⟩ := h
      rfl
    · obtain ⟨v, d, rfl, hd, ht, q⟩ := h
      refine ⟨_, (pss_cons (ps_if (pt_val (pe_callB call_isi (by rfl) T.m_isinstance (by decide +kernel) (pa_cons (pv 0) (pa_cons (pe_bltn (v := .ty "tuple") (by rfl) T.m_tuple boot_tuple rfl) pa_nil)))) (pss_one (ps_ret (pe_callB (cr_all rfl) (by rfl) T.m_all (by decide +kernel) (pa_cons (pe_lc (own := [("part", 1)]) (g := gName 1) (tt := tYes) rfl sc_law_tuples.nd (pi_tup (pv 0)) (blkOk_by (own := [("part", 1)]) (N := n_law_tuples) (sc := defScope s_law_tuples) (by decide +kernel)) (fun _ _ _ _ _ => (pg_name (i := 1) sc_law_tuples.nd rfl (by first | exact .inl rfl | exact .inr rfl))) (fun _ _ _ _ _ => pts_nil) (fun _ _ _ _ _ => (pe_call ih hr (by rfl) T.g_law_tuples T.F_law_tuples.kp T.b_law_tuples .nil pass0 (pa_cons (pv 1) pa_nil)))) pa_nil)))) pss_nil)
      (pss_one (ps_ret (pe_and (pe_callB call_isi (by rfl) T.m_isinstance (by decide +kernel) (pa_cons (pv 0) (pa_cons (pe_bltn (v := .ty "int") (by rfl) T.m_int boot_int rfl) pa_nil))) (pe_one (pe_not (pe_callB call_isi (by rfl) T.m_isinstance (by decide +kernel) (pa_cons (pv 0) (pa_cons (pe_bltn (v := .ty "bool") (by rfl) T.m_bool boot_bool rfl) pa_nil))))))))), ?_⟩
      cases d with
      | int i =>
        cases hd
        refine ⟨_, rfl, _, _, _, _, _, rfl, .ty _, .base (.int i), kit_ty (r := false) (by decide +kernel), _, rfl, iteF ?_⟩
        refine ⟨_, rfl, _, _, _, _, _, rfl, .ty _, .base (.int i), kit_ty (r := true) (by decide +kernel), _, rfl, iteT ?_⟩
        exact ⟨_, rfl, _, _, _, _, _, rfl, .ty _, .base (.int i), kit_ty (r := false) (by decide +kernel), _, rfl, q H (Same.refl H)⟩
      | tuple ds =>
        cases hd with
        | @tup a xs _ hx hds =>
        refine ⟨_, rfl, _, _, _, _, _, rfl, .ty _, sqt_ty hx, kit_ty (r := true) (by decide +kernel), _, rfl, iteT ?_⟩
        refine ⟨_, rfl, a, rfl, ⟨_, hx⟩, fun D hD => lc_tup (xs := xs) (fun i H' => Same H H' ∧ H' D = some (.lst ((List.replicate i true).map V.bl)) ∧ i ≤ xs.length) ⟨same_upd hD, upd_same, Nat.zero_le _⟩ (fun i H' _ h => h.1.tup hx) (fun i x H' hi hP => ?_) (fun H' hP => ?_)⟩
        · obtain ⟨s1, hl, hix⟩ := hP
          obtain ⟨d, _, hm, hdx⟩ := dpAll_get hds hi
          have hil : i < xs.length := (List.getElem?_eq_some_iff.mp hi).1
          have hlen := dpAll_len hds
          have hz := ht.1
          refine ⟨rfl, _, rfl, x, d, rfl, dp_same s1 hdx, ht.2 d hm, fun H2 s2 => ⟨_, s2 _ _ hl, ?_, fun b o e => ?_, ?_, hil⟩⟩
          · rw [List.length_map, List.length_replicate]
            exact sl_lt (by omega)
          · rw [upd_ne (ne_of_none e hD)]
            exact s2 _ _ (s1 _ _ e)
          · rw [upd_same, List.replicate_succ', List.map_append]
            rfl
        · obtain ⟨s1, hl, _⟩ := hP
          refine ⟨D, List.replicate xs.length true, rfl, SqL.of hl, ?_⟩
          have e : (List.replicate xs.length true).all id = true := by
            rw [List.all_eq_true]
            intro x hx
            rw [List.eq_of_mem_replicate hx]
            rfl
          rw [e]
          exact q H' s1
      | none => exact ht.elim
      | bool b => exact ht.elim
      | str x => exact ht.elim
      | list x => exact ht.elim
      | dict x => exact ht.elim
theorem pos_lit {z : Int} {n : Nat} (h : z = ((n + 1 : Nat) : Int)) : 0 < z := by omega
def spMix : Sp := fun vs H Q _ => ∃ c k : Int, vs = [.int c, .int k] ∧ ∀ m : Int, 0 ≤ m → Q (.int m) H
theorem ok_law_mix (T : Top K mg) : FnOk P w K mg base CX0 1 T.f_law_mix T.d_law_mix ["cell", "k"] spMix := by
  refine T.F_law_mix.ok sc_law_mix (fun vs H Q E h => ?_) (fun cdv A outer s H vs Q E hr h => ?_)
  · obtain ⟨c, k, rfl, _⟩ := h
    rfl
  · obtain ⟨c, k, rfl, q⟩ := h
    refine ⟨_, (pss_cons (ps_set (i := 2) sc_law_mix.nd rfl (by first | exact .inl rfl | exact .inr rfl) (pe_op op_mod (pe_callTy call_int1 (by rfl) T.m_int (by decide +kernel) (pa_cons (pe_op op_add (pe_op op_add (pe_op op_mul (pv 0) pe_int) (pe_op op_mul (pv 1) pe_int)) pe_int) pa_nil)) pe_int))
      (pss_cons (ps_set (i := 2) sc_law_mix.nd rfl (by first | exact .inl rfl | exact .inr rfl) (pe_op op_mod (pe_callTy call_int1 (by rfl) T.m_int (by decide +kernel) (pa_cons (pe_op op_add (pe_op op_add (pe_op op_mul (pv 2) pe_int) (pe_op op_mul (pv 1) pe_int)) pe_int) pa_nil)) pe_int))
      (pss_one (ps_ret (pe_op op_fdiv (pv 2) pe_int))))), ?_⟩
    refine ⟨_, rfl, _, _, rfl, rfl, .inr ⟨by decide, by decide⟩, _, rfl, _, _, rfl, rfl, .inr ⟨by decide, by decide⟩, _, _, rfl, rfl, _, _, rfl, rfl, .inl ⟨_, rfl, _, _, rfl, rfl, pos_lit rfl, ?_⟩⟩
    refine ⟨_, rfl, _, _, rfl, rfl, .inr ⟨by decide, by decide⟩, _, rfl, _, _, rfl, rfl, .inr ⟨by decide, by decide⟩, _, _, rfl, rfl, _, _, rfl, rfl, .inl ⟨_, rfl, _, _, rfl, rfl, pos_lit rfl, ?_⟩⟩
    refine ⟨_, rfl, _, _, rfl, rfl, ⟨by decide, by decide⟩, q _ ?_⟩
    refine Int.ediv_nonneg (Int.emod_nonneg _ (by decide)) (by decide)
/-- some n numbers from 0 up to below b -/
def spRow (K : PySem.W.Frag) : Sp := fun vs H Q _ => ∃ (c b : Int) (n : Nat), vs = [.int c, .int (n : Int), .int b] ∧ n ≤ 1000 ∧ 0 < b ∧ b < 1000 ∧
  ∀ l H' (rs : List Int), Ext H H' → H l = none → H' l = some (.lst (rs.map V.int)) → rs.length = n → (∀ r ∈ rs, 0 ≤ r ∧ r < b) → Q (.ref l) H'
theorem ok_law_row (T : Top K mg) : FnOk P w K mg base CX0 2 T.f_law_row T.d_law_row ["cell", "count", "bound"] (spRow K) := by
  refine T.F_law_row.ok sc_law_row (fun vs H Q E h => ?_) (fun cdv A outer s H vs Q E hr h => ?_)
  · obtain ⟨c, b, n, rfl, _⟩ := h
    rfl
  · obtain ⟨c, b, n, rfl, hn, hb, hb2, q⟩ := h
    refine ⟨_, (pss_cons (ps_set (i := 3) sc_law_row.nd rfl (by first | exact .inl rfl | exact .inr rfl) (pe_lst pa_nil))
      (pss_cons (ps_set (i := 4) sc_law_row.nd rfl (by first | exact .inl rfl | exact .inr rfl) (pe_callB call_abs (by rfl) T.m_abs (by decide +kernel) (pa_cons (pv 0) pa_nil)))
      (pss_cons (ps_for PassesOwn.never rfl (pi_range1 (by rfl) T.m_range (pa_cons (pv 1) pa_nil)) (pg_name (i := 5) sc_law_row.nd rfl (by first | exact .inl rfl | exact .inr rfl)) (pss_one (ps_if (pt_cmpR op_ge (pe_callB call_abs (by rfl) T.m_abs (by decide +kernel) (pa_cons (pv 0) pa_nil)) pe_int (nomark _)) (pss_cons (ps_expr (pe_bm PySem.F.plainAttrs_list PySem.F.slot_list_append PySem.F.type_list_append mt_append (pv 3) (pa_cons (pe_op op_mod (pe_callTy call_int1 (by rfl) T.m_int (by decide +kernel) (pa_cons (pv 4) pa_nil)) (pv 2)) pa_nil)))
      (pss_one (ps_set (i := 4) sc_law_row.nd rfl (by first | exact .inl rfl | exact .inr rfl) (pe_op op_fdivZ (pv 4) (pv 2))))) (pss_one (ps_expr (pe_bm PySem.F.plainAttrs_list PySem.F.slot_list_append PySem.F.type_list_append mt_append (pv 3) (pa_cons (pe_op op_mod (pe_callTy call_int1 (by rfl) T.m_int (by decide +kernel) (pa_cons (pe_call (ok_law_mix T) (hr.mono (by decide)) (by rfl) T.g_law_mix T.F_law_mix.kp T.b_law_mix .nil pass0 (pa_cons (pv 0) (pa_cons (pv 5) pa_nil))) pa_nil)) (pv 2)) pa_nil)))))))
      (pss_one (ps_ret (pv 3)))))), ?_⟩
    refine ⟨by rw [sizeLine_eq]; simp, fun l hl => ?_⟩
    refine ⟨_, rfl, c, rfl, ?_⟩
    refine ⟨_, rfl, _, rfl, by omega, by omega, for_range (n := n) (fun i σ H1 => (∃ (x : Int) (y : Option V) (rs : List Int), σ = [some (.int c), some (.int (n : Int)), some (.int b), some (.ref l), some (.int x), y] ∧ Ext H H1 ∧ H1 l = some (.lst (rs.map V.int)) ∧ rs.length = i ∧ ∀ r ∈ rs, 0 ≤ r ∧ r < b))
      ⟨_, _, [], rfl, ext_upd hl, upd_same, rfl, fun r m => by simp at m⟩ (fun i σ H1 hi hP => ?_) (fun σ H1 hP => ?_)⟩
    · obtain ⟨x, y, rs, rfl, s1, hl1, hlen, hrs⟩ := hP
      have step : ∀ m : Int, ∃ rs', rs' = rs ++ [m % b] ∧ rs'.length = i + 1 ∧ ∀ r ∈ rs', 0 ≤ r ∧ r < b := fun m => ⟨_, rfl, by rw [List.length_append, hlen]; rfl, fun r hr => by
        rcases List.mem_append.mp hr with hr | hr
        · exact hrs r hr
        · rw [List.mem_singleton.mp hr]
          exact ⟨Int.emod_nonneg _ (by omega), Int.emod_lt_of_pos _ hb⟩⟩
      have cnt : (rs.map V.int).length < sizeLine := sl_lt (by rw [List.length_map]; omega)
      have app : ∀ m : Int, rs.map V.int ++ [V.int (m % b)] = (rs ++ [m % b]).map V.int := fun m => by rw [List.map_append]; rfl
      refine ⟨_, rfl, c, rfl, _, _, rfl, rfl, _, rfl, iteB (fun z => ?_) (fun z => ?_)⟩
      · refine ⟨_, rfl, .inl ⟨rfl, _, SqL.of hl1⟩, _, rfl, .inl ⟨_, rfl, _, rfl, _, _, rfl, rfl, hb, l, _, _, rfl, rfl, hl1, cnt, ?_⟩⟩
        refine ⟨_, rfl, _, rfl, _, _, rfl, rfl, ⟨by omega, ?_⟩, ?_⟩
        · refine Nat.lt_of_lt_of_le (PySem.Flt.log2_lt_of (k := 10) (by decide) ?_) (by decide)
          omega
        · obtain ⟨rs', e1, e2, e3⟩ := step x
          subst e1
          exact ⟨_, _, _, rfl, s1.own hl, by rw [upd_same, app], e2, e3⟩
      · refine ⟨_, rfl, .inl ⟨rfl, _, SqL.of hl1⟩, _, rfl, _, rfl, c, _, rfl, fun m hm => .inl ⟨_, rfl, _, rfl, _, _, rfl, rfl, hb, l, _, _, rfl, rfl, hl1, cnt, ?_⟩⟩
        obtain ⟨rs', e1, e2, e3⟩ := step m
        subst e1
        exact ⟨_, _, _, rfl, s1.own hl, by rw [upd_same, app], e2, e3⟩
    · obtain ⟨x, y, rs, rfl, s1, hl1, hlen, hrs⟩ := hP
      exact ⟨_, rfl, q l H1 rs s1 hl hl1 hlen hrs⟩
/-! ### series in the heap -/
def co (rs : List Rat) : Nat → Rat := fun k => rs.getD k 0
def FrV (K : PySem.W.Frag) (H : Hp) (v : V) (r : Rat) : Prop := ∃ a, v = .ref a ∧ Fr K H a (fq r)
abbrev FrsV (K : PySem.W.Frag) (H : Hp) (vs : List V) (rs : List Rat) : Prop := Paired (FrV K H) vs rs
theorem frs_up {H H' : Hp} (s : Ext H H') {vs : List V} {rs : List Rat} (h : FrsV K H vs rs) : FrsV K H' vs rs := paired_imp (fun _ _ ⟨a, e, g⟩ => ⟨a, e, s.tup g⟩) h
theorem sqt_updL {H : Hp} {a g : Addr} {xs ys : List V} {o : HO} (hg : H g = some (.lst xs)) (h : SqT K H a ys) : SqT K (upd H g o) a ys := by
  rcases h with (h | ⟨o', h⟩) | h
  · exact .inl (.inl (by rw [upd_ne (ne_of h hg (by intro z; cases z))]; exact h))
  · exact .inl (.inr ⟨o', by rw [upd_ne (ne_of h hg (by intro z; cases z))]; exact h⟩)
  · exact .inr h
theorem frs_upd {H : Hp} {D : Addr} {o : HO} {acc ys : List V} {rs : List Rat} (hD : H D = some (.lst acc)) (h : FrsV K H ys rs) : FrsV K (upd H D o) ys rs := paired_imp (fun _ _ ⟨a, e, g⟩ => ⟨a, e, sqt_updL hD g⟩) h
theorem frs_at {H : Hp} {vs : List V} {rs : List Rat} (h : FrsV K H vs rs) {k : Nat} (hk : k < rs.length) : ∃ v, vs[k]? = some v ∧ FrV K H v (co rs k) := by
  have hl := Paired.length h
  have hv : k < vs.length := by omega
  obtain ⟨r, e, g⟩ := paired_at h (List.getElem?_eq_getElem hv)
  refine ⟨_, List.getElem?_eq_getElem hv, ?_⟩
  have : co rs k = r := by
    unfold co
    rw [List.getD_eq_getElem?_getD, e]
    rfl
  rw [this]
  exact g
def LT (K : PySem.W.Frag) (H : Hp) (a : Addr) (xs : List V) : Prop := SqL K H a xs ∨ SqT K H a xs
theorem LT.up {H H' : Hp} (s : Ext H H') {a : Addr} {xs : List V} (h : LT K H a xs) : LT K H' a xs := h.imp s.seq s.tup
theorem ix_any {H : Hp} {a : Addr} {xs : List V} {i : Int} {v : V} {Q : VK} (h : LT K H a xs) (h0 : 0 ≤ i) (hv : xs[i.toNat]? = some v) (q : Q v H) : rIx K (.ref a) (.int i) H Q := by
  have e : atI xs i = some v := by
    have := atI_nat hv
    rwa [Int.toNat_of_nonneg h0] at this
  rcases h with h | h
  · exact .inl ⟨a, xs, i, v, rfl, rfl, h, e, q⟩
  · exact .inr (.inl ⟨a, xs, i, v, rfl, rfl, h, e, q⟩)
theorem okA_of {a b : Rat} (h : Sm a) (k : Sm b) : okA (fq a) (fq b) := ⟨h.1, h.2, k.1, k.2, SM.den_ne a, SM.den_ne b⟩
theorem okD_of {a b : Rat} (h : Sm a) (k : Sm b) (n : b ≠ 0) : okD (fq a) (fq b) := ⟨h.1, h.2, k.1, k.2, SM.den_ne a, SM.num_ne n⟩
theorem sm_nat {k : Nat} (h : k ≤ 1000) : Sm (k : Rat) := SM.sm_of (SM.Iz.nat k) (by decide) (Nat.lt_of_lt_of_le (by decide : 1 < 2 ^ 10) (SM.two_le (by decide))) (Nat.lt_of_lt_of_le (show k < 2 ^ 10 by omega) (SM.two_le (by decide)))
theorem sm_zero : Sm 0 := sm_nat (k := 0) (by decide)
theorem sm_one : Sm 1 := sm_nat (k := 1) (by decide)
/-- the sum of products -/
def spSum (K : PySem.W.Frag) : Sp := fun vs H Q _ => ∃ (a b : Addr) (xs ys : List V) (rs ss : List Rat) (n : Nat), vs = [.ref a, .ref b, .int (n : Int)] ∧ LT K H a xs ∧ LT K H b ys ∧ FrsV K H xs rs ∧ FrsV K H ys ss ∧ n < rs.length ∧ n < ss.length ∧ n ≤ 100 ∧
  (∀ k ≤ n, SM.Gd (co rs k) ∧ SM.Gd (co ss (n - k))) ∧ NewF H Q (fq (cv (co rs) (co ss) n))
theorem ok_sum_of_products (T : Top K mg) : FnOk P w K mg base CX0 3 T.f_sum_of_products T.d_sum_of_products ["first", "second", "order"] (spSum K) := by
  refine T.F_sum_of_products.ok sc_sum_of_products (fun vs H Q E h => ?_) (fun cdv A outer s H vs Q E hr h => ?_)
  · obtain ⟨a, b, xs, ys, rs, ss, n, rfl, _⟩ := h
    rfl
  obtain ⟨a, b, xs, ys, rs, ss, n, rfl, ha, hb, hx, hy, n1, n2, n100, hg, q⟩ := h
  refine ⟨_, (pss_cons (ps_set (i := 3) sc_sum_of_products.nd rfl (by first | exact .inl rfl | exact .inr rfl) (pe_tup (pa_cons pe_int (pa_cons pe_int pa_nil))))
      (pss_cons (ps_for PassesOwn.never rfl (pi_range1 (by rfl) T.m_range (pa_cons (pe_op op_add (pv 2) pe_int) pa_nil)) (pg_name (i := 4) sc_sum_of_products.nd rfl (by first | exact .inl rfl | exact .inr rfl)) (pss_one (ps_set (i := 3) sc_sum_of_products.nd rfl (by first | exact .inl rfl | exact .inr rfl) (pe_call (ok_add T) (hr.mono (by decide)) (by rfl) T.g_add T.F_add.kp T.b_add .nil pass0 (pa_cons (pv 3) (pa_cons (pe_call (ok_multiply T) (hr.mono (by decide)) (by rfl) T.g_multiply T.F_multiply.kp T.b_multiply .nil pass0 (pa_cons (pe_ix ix_seq (pv 0) (pv 4) (fun _ _ => rfl)) (pa_cons (pe_ix ix_seq (pv 1) (pe_op op_sub (pv 2) (pv 4)) (fun _ _ => rfl)) pa_nil))) pa_nil))))))
      (pss_one (ps_ret (pv 3))))), ?_⟩
  refine ⟨sl2, fun t0 ht0 => ?_⟩
  have z1 : Fr K (upd H t0 (.tup [V.int 0, .int 1])) t0 (fq 0) := SqT.of upd_same
  have z2 := same_upd (o := .tup [V.int 0, .int 1]) ht0
  have z0 := ht0
  refine ⟨_, rfl, _, _, rfl, rfl, _, rfl, by omega, by omega, for_range (lo := 0) (n := ((n : Int) + 1).toNat) (fun i σ H1 => ∃ (t : Addr) (y : Option V), σ = [some (.ref a), some (.ref b), some (.int (n : Int)), some (.ref t), y] ∧ Same H H1 ∧ H t = none ∧ H1 t = some (.tup [.int (fq (ps (co rs) (co ss) n i)).1, .int (fq (ps (co rs) (co ss) n i)).2]))
    ⟨t0, none, rfl, z2, z0, upd_same⟩ (fun i σ H1 hi hP => ?_) (fun σ H1 hP => ?_)⟩
  · obtain ⟨t, y, rfl, s1, nt, ht⟩ := hP
    have hin : i ≤ n := by omega
    rw [Int.zero_add]
    have s1' := s1.ext
    obtain ⟨v, hv, va, rfl, hva⟩ := frs_at (frs_up s1' hx) (show i < rs.length by omega)
    obtain ⟨u, hu, ua, rfl, hua⟩ := frs_at (frs_up s1' hy) (show n - i < ss.length by omega)
    obtain ⟨g1, g2⟩ := hg i hin
    have e1 : ((i : Nat) : Int).toNat = i := Int.toNat_natCast i
    have e2 : ((n : Int) - (i : Int)).toNat = n - i := by omega
    have sp := SM.ps_sm (a := co rs) (b := co ss) (n := n) (j := i) (by omega) fun k hk => hg k (by omega)
    refine ⟨_, rfl, _, rfl, _, rfl, ix_any (ha.up s1') (Int.natCast_nonneg i) (by rw [e1]; exact hv) ⟨_, rfl, _, rfl, _, rfl, _, _, rfl, rfl, ix_any (hb.up s1') (by omega) (by rw [e2]; exact hu) ?_⟩⟩
    refine ⟨va, ua, _, _, rfl, hva, hua, okA_of g1.sm g2.sm, fun m H2 s2 nm hm => ?_⟩
    rw [SM.mulF_fq] at hm
    refine ⟨t, m, _, _, rfl, SqT.of (s2 _ _ ht), SqT.of hm, okA_of sp (g1.mul_sm g2), fun t2 H3 s3 nt2 ht2 => ?_⟩
    rw [SM.addF_fq] at ht2
    exact ⟨t2, _, rfl, (s1.trans s2).trans s3, (s1.trans s2).ext.free nt2, ht2⟩
  · obtain ⟨t, y, rfl, s1, nt, ht⟩ := hP
    have e : ((n : Int) + 1).toNat = n + 1 := by omega
    rw [e] at ht
    exact ⟨_, rfl, q t H1 s1 nt ht⟩
/-- a new list, a new tuple of fractions -/
def NewLs (K : PySem.W.Frag) (H : Hp) (Q : VK) (ts : List Rat) : Prop := ∀ p H' ys, Ext H H' → H p = none → H' p = some (.lst ys) → FrsV K H' ys ts → Q (.ref p) H'
def NewTs (K : PySem.W.Frag) (H : Hp) (Q : VK) (ts : List Rat) : Prop := ∀ p H' ys, Ext H H' → H p = none → H' p = some (.tup ys) → FrsV K H' ys ts → Q (.ref p) H'
def facR (rs : List Rat) : List Rat := (List.range rs.length).map fun (k : Nat) => (k : Rat) * co rs k
theorem facR_len (rs : List Rat) : (facR rs).length = rs.length := by
  unfold facR
  rw [List.length_map, List.length_range]
theorem co_map {f : Nat → Rat} {n k : Nat} (h : k < n) : co ((List.range n).map f) k = f k := by
  unfold co
  rw [List.getD_eq_getElem?_getD, List.getElem?_map, List.getElem?_range h]
  rfl
theorem map_snoc {α : Type} (f : Nat → α) (n : Nat) : (List.range (n + 1)).map f = (List.range n).map f ++ [f n] := by
  rw [List.range_succ, List.map_append]
  rfl
def spFac (K : PySem.W.Frag) : Sp := fun vs H Q _ => ∃ (a : Addr) (xs : List V) (rs : List Rat), vs = [.ref a] ∧ SqT K H a xs ∧ FrsV K H xs rs ∧ rs.length ≤ 100 ∧ (∀ k < rs.length, Sm (co rs k)) ∧ NewLs K H Q (facR rs)
theorem ok_with_factors (T : Top K mg) : FnOk P w K mg base CX0 3 T.f_with_factors T.d_with_factors ["series"] (spFac K) := by
  refine T.F_with_factors.ok sc_with_factors (fun vs H Q E h => ?_) (fun cdv A outer s H vs Q E hr h => ?_)
  · obtain ⟨a, xs, rs, rfl, _⟩ := h
    rfl
  obtain ⟨a, xs, rs, rfl, ha, hx, h100, hs, q⟩ := h
  refine ⟨_, (pss_one (ps_ret (pe_lc (own := [("k", 1), ("entry", 2)]) (g := gTup K 2 (gCons (gName 1) (gCons (gName 2) gNil))) (tt := tYes) rfl sc_with_factors.nd (pi_enumS rfl (by rfl) T.m_enumerate (pa_cons (pv 0) pa_nil)) (blkOk_by (own := [("k", 1), ("entry", 2)]) (N := n_with_factors) (sc := defScope s_with_factors) (by decide +kernel)) (fun _ _ _ _ _ => (pg_tup rfl (pgs_cons (pg_name (i := 1) sc_with_factors.nd rfl (by first | exact .inl rfl | exact .inr rfl)) (pgs_cons (pg_name (i := 2) sc_with_factors.nd rfl (by first | exact .inl rfl | exact .inr rfl)) pgs_nil)))) (fun _ _ _ _ _ => pts_nil) (fun _ _ _ _ _ => (pe_call (ok_multiply T) (hr.mono (by decide)) (by rfl) T.g_multiply T.F_multiply.kp T.b_multiply .nil pass0 (pa_cons (pe_tup (pa_cons (pv 1) (pa_cons pe_int pa_nil))) (pa_cons (pv 2) pa_nil))))))), ?_⟩
  have lx := hx.length
  refine ⟨_, rfl, a, xs, H, rfl, Ext.refl H, .inr ha, fun J wJ D hD => w_enum wJ (fun i H3 => Ext H H3 ∧ ∃ ys, H3 D = some (.lst ys) ∧ FrsV K H3 ys ((List.range i).map fun (k : Nat) => (k : Rat) * co rs k)) ⟨ext_upd hD, [], upd_same, .nil⟩ (fun i H3 _ h => h.1) (fun i x t H3 hi hP ht => ?_) (fun H3 hP => ?_)⟩
  · obtain ⟨s3, ys, hys, hp⟩ := hP
    have hil := (List.getElem?_eq_some_iff.mp hi).1
    obtain ⟨v, hv, va, rfl, hva⟩ := frs_at hx (show i < rs.length by omega)
    rw [hi] at hv
    cases hv
    have x4 := ext_upd (o := .tup [V.int (i : Int), .ref va]) ht
    have y4 : upd H3 t (.tup [V.int (i : Int), .ref va]) t = some (.tup [V.int (i : Int), .ref va]) := upd_same
    have s4 := s3.trans x4
    have hys4 := x4.lst hys
    have hp4 := frs_up x4 hp
    generalize upd H3 t (.tup [V.int (i : Int), .ref va]) = H4 at *
    refine ⟨t, _, rfl, SqT.of y4, rfl, _, _, rfl, _, _, rfl, rfl, rfl, ?_⟩
    refine ⟨_, rfl, sl2, fun t1 ht1 => ?_⟩
    have x5 := ext_upd (o := .tup [V.int (i : Int), .int 1]) ht1
    refine ⟨_, rfl, t1, va, fq ((i : Nat) : Rat), fq (co rs i), rfl, SqT.of upd_same, (s4.trans x5).tup hva, okA_of (sm_nat (by omega)) (hs i (by omega)), fun m H5 s5 nm hm => ?_⟩
    rw [SM.mulF_fq] at hm
    have s45 := x5.trans s5.ext
    have ly := hp4.length
    rw [List.length_map, List.length_range] at ly
    refine ⟨ys, s45.lst hys4, sl_lt (by omega), (s4.trans s45).own hD, ys ++ [.ref m], upd_same, ?_⟩
    rw [map_snoc]
    exact frs_upd (s45.lst hys4) (paired_snoc (frs_up s45 hp4) ⟨m, rfl, SqT.of hm⟩)
  · obtain ⟨s3, ys, hys, hp⟩ := hP
    rw [lx] at hp
    exact q D H3 ys s3 hD hys hp
theorem cut1 (xs : List V) : cutV xs (some 1) none = xs.drop 1 := by
  unfold cutV
  rw [HT.sIx_none, show (some (1 : Int)) = some (((1 : Nat) : Int)) from rfl, HT.sIx_nat]
  by_cases h : xs.length = 0
  · rw [List.eq_nil_of_length_eq_zero h]
    rfl
  · have e : min 1 xs.length = 1 := by omega
    rw [e, List.take_of_length_le (by rw [List.length_drop]; omega)]
theorem paired_drop {α β : Type} {R : α → β → Prop} : ∀ {as : List α} {bs : List β}, Paired R as bs → ∀ k, Paired R (as.drop k) (bs.drop k)
  | _, _, .nil, k => by rw [List.drop_nil, List.drop_nil]; exact .nil
  | _, _, .cons x t, 0 => .cons x t
  | _, _, .cons x t, k + 1 => paired_drop t k
theorem co_fac1 {rs : List Rat} {k : Nat} (h : k + 1 < rs.length) : co ((facR rs).drop 1) k = dv (co rs) k := by
  have e : co ((facR rs).drop 1) k = co (facR rs) (k + 1) := by
    unfold co
    rw [List.getD_eq_getElem?_getD, List.getElem?_drop, List.getD_eq_getElem?_getD, Nat.add_comm 1 k]
  rw [e]
  unfold facR
  rw [co_map h]
  rfl
def spExp (K : PySem.W.Frag) : Sp := fun vs H Q _ => ∃ (a : Addr) (xs : List V) (rs : List Rat) (N : Nat) (e : Nat → Rat), vs = [.ref a] ∧ SqT K H a xs ∧ FrsV K H xs rs ∧ rs.length = N + 1 ∧ N ≤ 50 ∧ (∀ k ≤ N, Sm (co rs k)) ∧ (∀ k < N, SM.Gd (dv (co rs) k)) ∧ (∀ k ≤ N, SM.Gd (e k)) ∧
  Goes (dv (co rs)) e N ∧ NewTs K H Q ((List.range (N + 1)).map e)
theorem ok_exponential (T : Top K mg) : FnOk P w K mg base CX0 4 T.f_exponential T.d_exponential ["series"] (spExp K) := by
  refine T.F_exponential.ok sc_exponential (fun vs H Q E h => ?_) (fun cdv A outer s H vs Q E hr h => ?_)
  · obtain ⟨a, xs, rs, N, e, rfl, _⟩ := h
    rfl
  obtain ⟨a, xs, rs, N, e, rfl, ha, hx, hl, hN, hs, hd, he, hgo, q⟩ := h
  refine ⟨_, (pss_cons (ps_set (i := 1) sc_exponential.nd rfl (by first | exact .inl rfl | exact .inr rfl) (pe_lst (pa_cons (pe_tup (pa_cons pe_int (pa_cons pe_int pa_nil))) pa_nil)))
      (pss_cons (ps_set (i := 2) sc_exponential.nd rfl (by first | exact .inl rfl | exact .inr rfl) (pe_call (ok_with_factors T) (hr.mono (by decide)) (by rfl) T.g_with_factors T.F_with_factors.kp T.b_with_factors .nil pass0 (pa_cons (pv 0) pa_nil)))
      (pss_cons (ps_for PassesOwn.never rfl (pi_range2 (by rfl) T.m_range (pa_cons pe_int (pa_cons (pe_callB call_len_seq (by rfl) T.m_len (by decide +kernel) (pa_cons (pv 0) pa_nil)) pa_nil))) (pg_name (i := 3) sc_exponential.nd rfl (by first | exact .inl rfl | exact .inr rfl)) (pss_one (ps_expr (pe_bm PySem.F.plainAttrs_list PySem.F.slot_list_append PySem.F.type_list_append mt_append (pv 1) (pa_cons (pe_call (ok_divide T) (hr.mono (by decide)) (by rfl) T.g_divide T.F_divide.kp T.b_divide .nil pass0 (pa_cons (pe_call (ok_sum_of_products T) (hr.mono (by decide)) (by rfl) T.g_sum_of_products T.F_sum_of_products.kp T.b_sum_of_products .nil pass0 (pa_cons (pe_slice sl_list (pv 2) (po_some pe_int) po_none) (pa_cons (pv 1) (pa_cons (pe_op op_sub (pv 3) pe_int) pa_nil)))) (pa_cons (pe_tup (pa_cons (pv 3) (pa_cons pe_int pa_nil))) pa_nil))) pa_nil)))))
      (pss_one (ps_ret (pe_callTy call_tuple_of (by rfl) T.m_tuple (by decide +kernel) (pa_cons (pv 1) pa_nil))))))), ?_⟩
  have lx := hx.length
  refine ⟨sl2, fun t0 ht0 => ⟨by rw [sizeLine_eq]; simp, fun l0 hl0 => ?_⟩⟩
  have x1 := ext_upd (o := .tup [V.int 1, .int 1]) ht0
  have x2 := ext_upd (o := .lst [V.ref t0]) hl0
  have hl1 : upd (upd H t0 (.tup [V.int 1, .int 1])) l0 (.lst [V.ref t0]) l0 = some (.lst [V.ref t0]) := upd_same
  have ht1 : Fr K (upd (upd H t0 (.tup [V.int 1, .int 1])) l0 (.lst [V.ref t0])) t0 (fq 1) := SqT.of (x2.at (upd_same (H := H) (a := t0) (o := .tup [V.int 1, .int 1])))
  have s2 := x1.trans x2
  have nl0 : H l0 = none := x1.free hl0
  generalize upd (upd H t0 (.tup [V.int 1, .int 1])) l0 (.lst [V.ref t0]) = H2 at *
  refine ⟨_, rfl, a, xs, rs, rfl, s2.tup ha, frs_up s2 hx, by omega, fun k hk => hs k (by omega), fun D H3 ys s3 nD hD hp => ?_⟩
  have s03 := s2.trans s3
  have hl3 := s3.lst hl1
  have nDl : D ≠ l0 := (ne_of_none hl1 nD).symm
  have ht3 : FrV K H3 (.ref t0) (e 0) := ⟨t0, rfl, by rw [hgo.1]; exact s3.tup ht1⟩
  refine ⟨_, rfl, a, xs, rfl, .inr (s03.tup ha), _, _, rfl, by omega, for_range (lo := 1) (n := ((xs.length : Int) - 1).toNat) (fun i σ H4 => ∃ (y : Option V) (zs : List V), σ = [some (.ref a), some (.ref l0), some (.ref D), y] ∧ Ext H H4 ∧ H4 l0 = some (.lst zs) ∧ FrsV K H4 zs ((List.range (i + 1)).map e) ∧ H4 D = some (.lst ys) ∧ FrsV K H4 ys (facR rs))
    ⟨none, _, rfl, s03, hl3, .cons ht3 .nil, hD, hp⟩ (fun i σ H4 hi hP => ?_) (fun σ H4 hP => ?_)⟩
  · obtain ⟨y, zs, rfl, s4, hl4, hz, hD4, hp4⟩ := hP
    have hiN : i < N := by omega
    refine ⟨_, rfl, .inl ⟨rfl, _, SqL.of hl4⟩, _, rfl, _, rfl, ?_⟩
    unfold tNoPart
    refine ⟨D, ys, rfl, SqL.of hD4, fun p hp5 => ?_⟩
    have x5 := ext_upd (o := .lst (cutV ys (some 1) none)) hp5
    have h5 : upd H4 p (.lst (cutV ys (some 1) none)) p = some (.lst (ys.drop 1)) := by rw [upd_same, cut1]
    have hl5 := x5.lst hl4
    have hz5 := frs_up x5 hz
    have hy5 := paired_drop (frs_up x5 hp4) 1
    have hD5 := x5.lst hD4
    have hp5' := frs_up x5 hp4
    have s5 := s4.trans x5
    generalize upd H4 p (.lst (cutV ys (some 1) none)) = H5 at *
    have lf := facR_len rs
    have en : (1 : Int) + (i : Int) - 1 = (i : Int) := by omega
    have dl : ∀ k ≤ i, SM.Gd (co ((facR rs).drop 1) k) ∧ SM.Gd (co ((List.range (i + 1)).map e) (i - k)) := fun k hk => by
      rw [co_fac1 (by omega), co_map (by omega)]
      exact ⟨hd k (by omega), he _ (by omega)⟩
    refine ⟨_, rfl, _, rfl, _, _, rfl, rfl, p, l0, ys.drop 1, zs, (facR rs).drop 1, (List.range (i + 1)).map e, i, ?_, .inl (SqL.of h5), .inl (SqL.of hl5), hy5, hz5, by rw [List.length_drop, lf]; omega, by rw [List.length_map, List.length_range]; omega, by omega, dl, fun m H6 s6 nm hm => ?_⟩
    · show [V.ref p, V.ref l0, V.int (1 + (i : Int) - 1)] = _
      rw [en]
    have ec : cv (co ((facR rs).drop 1)) (co ((List.range (i + 1)).map e)) i = cv (dv (co rs)) e i := SM.cv_congr (fun k hk => co_fac1 (by omega)) (fun k hk => co_map (by omega))
    have sm1 : Sm (((i + 1 : Nat) : Rat) * e (i + 1)) := by
      rw [hgo.2 i hiN]
      exact SM.ps_sm (by omega) fun k hk => ⟨hd k (by omega), he _ (by omega)⟩
    rw [ec, ← hgo.2 i hiN] at hm
    refine ⟨_, rfl, sl2, fun t1 ht1 => ?_⟩
    have x7 := ext_upd (o := .tup [V.int (1 + (i : Int)), .int 1]) ht1
    have f7 : Fr K (upd H6 t1 (.tup [V.int (1 + (i : Int)), .int 1])) t1 (fq ((i + 1 : Nat) : Rat)) := by
      rw [SM.fq_nat, show ((i + 1 : Nat) : Int) = 1 + (i : Int) by omega]
      exact SqT.of upd_same
    have m7 : Fr K (upd H6 t1 (.tup [V.int (1 + (i : Int)), .int 1])) m (fq (((i + 1 : Nat) : Rat) * e (i + 1))) := x7.tup (SqT.of hm)
    have s57 := s6.ext.trans x7
    generalize upd H6 t1 (.tup [V.int (1 + (i : Int)), .int 1]) = H7 at *
    refine ⟨m, t1, _, _, rfl, m7, f7, okD_of sm1 (sm_nat (by omega)) (SM.natc_ne i), fun d H8 s8 nd hd8 => ?_⟩
    have ee : ((i + 1 : Nat) : Rat) * e (i + 1) / ((i + 1 : Nat) : Rat) = e (i + 1) := by
      have := SM.natc_ne i
      generalize ((i + 1 : Nat) : Rat) = X at *
      grind
    rw [SM.divF_fq _ (SM.natc_ne i), ee] at hd8
    have s58 := s57.trans s8.ext
    have lz := hz5.length
    rw [List.length_map, List.length_range] at lz
    have hl8 := s58.lst hl5
    refine ⟨l0, zs, _, rfl, rfl, hl8, sl_lt (by omega), _, zs ++ [.ref d], rfl, (s5.trans s58).own nl0, upd_same, ?_, ?_, ?_⟩
    · rw [map_snoc]
      exact frs_upd hl8 (paired_snoc (frs_up s58 hz5) ⟨d, rfl, SqT.of hd8⟩)
    · rw [upd_ne nDl]
      exact s58.lst hD5
    · exact frs_upd hl8 (frs_up s58 hp5')
  · obtain ⟨y, zs, rfl, s4, hl4, hz, hD4, hp4⟩ := hP
    have en : ((xs.length : Int) - 1).toNat + 1 = N + 1 := by omega
    rw [en] at hz
    refine ⟨_, rfl, l0, _, rfl, .inl ⟨SqL.of hl4, fun r hr2 => ?_⟩⟩
    have x5 := ext_upd (o := .tup zs) hr2
    exact q r _ zs (s4.trans x5) (s4.free hr2) upd_same (frs_up x5 hz)
def lgR (s : Nat → Rat) (N : Nat) : List Rat := 0 :: (List.range N).map fun (k : Nat) => s k / ((k + 1 : Nat) : Rat)
def spLog (T : Top K mg) : Sp := fun vs H Q _ => ∃ (a : Addr) (xs : List V) (rs : List Rat) (N : Nat) (s : Nat → Rat), vs = [.ref a] ∧ SqT K H a xs ∧ FrsV K H xs rs ∧ rs.length = N + 1 ∧ N ≤ 50 ∧ Tg T H ∧ (∀ k ≤ N, SM.Gd (co rs k) ∧ Sm ((k : Rat) * co rs k)) ∧ (∀ k < N, SM.Gd (s k)) ∧
  Goes s (co rs) N ∧ NewTs K H Q (lgR s N)
theorem ok_logarithm (T : Top K mg) (B : Tb T base) : FnOk P w K mg base CX0 5 T.f_logarithm T.d_logarithm ["series"] (spLog T) := by
  refine T.F_logarithm.ok sc_logarithm (fun vs H Q E h => ?_) (fun A outer s H vs Q E hr h => ?_)
  · obtain ⟨a, xs, rs, N, sl, rfl, _⟩ := h
    rfl
  obtain ⟨a, xs, rs, N, sl, rfl, ha, hx, hl, hN, G, hs, hd, hgo, q⟩ := h
  refine ⟨_, (pss_cons (ps_set (i := 1) sc_logarithm.nd rfl (by first | exact .inl rfl | exact .inr rfl) (pe_lst pa_nil))
      (pss_cons (ps_set (i := 2) sc_logarithm.nd rfl (by first | exact .inl rfl | exact .inr rfl) (pe_call (ok_with_factors T) (hr.mono (by decide)) (by rfl) T.g_with_factors T.F_with_factors.kp T.b_with_factors .nil pass0 (pa_cons (pv 0) pa_nil)))
      (pss_cons (ps_for PassesOwn.never rfl (pi_range2 (by rfl) T.m_range (pa_cons pe_int (pa_cons (pe_callB call_len_seq (by rfl) T.m_len (by decide +kernel) (pa_cons (pv 0) pa_nil)) pa_nil))) (pg_name (i := 3) sc_logarithm.nd rfl (by first | exact .inl rfl | exact .inr rfl)) (pss_cons (ps_set (i := 4) sc_logarithm.nd rfl (by first | exact .inl rfl | exact .inr rfl) (pe_call (ok_sum_of_products T) (hr.mono (by decide)) (by rfl) T.g_sum_of_products T.F_sum_of_products.kp T.b_sum_of_products .nil pass0 (pa_cons (pe_op op_cat (pv 1) (pe_lst (pa_cons (pe_tup (pa_cons pe_int (pa_cons pe_int pa_nil))) pa_nil))) (pa_cons (pv 0) (pa_cons (pe_op op_sub (pv 3) pe_int) pa_nil)))))
      (pss_one (ps_expr (pe_bm PySem.F.plainAttrs_list PySem.F.slot_list_append PySem.F.type_list_append mt_append (pv 1) (pa_cons (pe_call (ok_subtract T) (hr.mono (by decide)) (by rfl) T.g_subtract T.F_subtract.kp T.b_subtract .nil pass0 (pa_cons (pe_ix ix_list (pv 2) (pv 3) (fun _ _ => rfl)) (pa_cons (pv 4) pa_nil))) pa_nil))))))
      (pss_one (ps_ret (pe_op op_catA (pe_tup (pa_cons (pe_tup (pa_cons pe_int (pa_cons pe_int pa_nil))) pa_nil)) (GXP.pe_tupleGx (own := [("k", 5), ("slope", 6)]) (g := gTup K 2 (gCons (gName 5) (gCons (gName 6) gNil))) (tt := tYes) (k := 3) (c := T.c_logarithm) (P := T.P_logarithm) (by rfl) T.m_tuple ⟨hr.mono (by decide), rfl, B.t_logarithm, rfl, rfl, blkOk_by (own := [("k", 5), ("slope", 6)]) (N := n_logarithm) (sc := defScope s_logarithm) (by decide +kernel), sc_logarithm.nd, by decide +kernel, rfl, (pi_enumS rfl (by rfl) T.m_enumerate (pa_cons (pv 1) pa_nil)), fun A s H C cl code bi fp hrA => (pg_tup rfl (pgs_cons (pg_name (i := 5) sc_logarithm.nd rfl (by first | exact .inl rfl | exact .inr rfl)) (pgs_cons (pg_name (i := 6) sc_logarithm.nd rfl (by first | exact .inl rfl | exact .inr rfl)) pgs_nil))), fun A s H C cl code bi fp hrA => pts_nil, fun A s H C cl code bi fp hrA => (pe_call (ok_divide T) (hrA.mono (by decide)) (by rfl) T.g_divide T.F_divide.kp T.b_divide .nil pass0 (pa_cons (pv 6) (pa_cons (pe_tup (pa_cons (pe_op op_add (pv 5) pe_int) (pa_cons pe_int pa_nil))) pa_nil))), fun _ => rfl⟩))))))), ?_⟩
  have lx := hx.length
  refine ⟨by rw [sizeLine_eq]; simp, fun l0 hl0 => ?_⟩
  have x2 := ext_upd (o := .lst []) hl0
  have hl1 : upd H l0 (.lst []) l0 = some (.lst []) := upd_same
  have nl0 : H l0 = none := hl0
  generalize upd H l0 (.lst []) = H2 at *
  refine ⟨_, rfl, a, xs, rs, rfl, x2.tup ha, frs_up x2 hx, by omega, fun k hk => (hs k (by omega)).1.sm, fun D H3 ys s3 nD hD hp => ?_⟩
  have s03 := x2.trans s3
  have hl3 := s3.lst hl1
  have nDl : D ≠ l0 := (ne_of_none hl1 nD).symm
  refine ⟨_, rfl, a, xs, rfl, .inr (s03.tup ha), _, _, rfl, by omega, for_range (lo := 1) (n := ((xs.length : Int) - 1).toNat) (fun i σ H4 => ∃ (y z : Option V) (zs : List V), σ = [some (.ref a), some (.ref l0), some (.ref D), y, z, none, none] ∧ Ext H H4 ∧ H4 l0 = some (.lst zs) ∧ FrsV K H4 zs ((List.range i).map sl) ∧ H4 D = some (.lst ys) ∧ FrsV K H4 ys (facR rs))
    ⟨none, none, _, rfl, s03, hl3, .nil, hD, hp⟩ (fun i σ H4 hi hP => ?_) (fun σ H4 hP => ?_)⟩
  · obtain ⟨y, z, zs, rfl, s4, hl4, hz, hD4, hp4⟩ := hP
    have hiN : i < N := by omega
    have lz := hz.length
    rw [List.length_map, List.length_range] at lz
    refine ⟨_, rfl, sl2, fun t0 ht0 => ⟨by rw [sizeLine_eq]; simp, fun l5 hl5 => ?_⟩⟩
    have x5a := ext_upd (o := .tup [V.int 0, .int 1]) ht0
    have x5b := ext_upd (o := .lst [V.ref t0]) hl5
    have k1 : upd (upd H4 t0 (.tup [V.int 0, .int 1])) l5 (.lst [V.ref t0]) l5 = some (.lst [V.ref t0]) := upd_same
    have k2 : Fr K (upd (upd H4 t0 (.tup [V.int 0, .int 1])) l5 (.lst [V.ref t0])) t0 (fq 0) := SqT.of (x5b.at (upd_same (H := H4) (a := t0) (o := .tup [V.int 0, .int 1])))
    have x5 := x5a.trans x5b
    generalize upd (upd H4 t0 (.tup [V.int 0, .int 1])) l5 (.lst [V.ref t0]) = H5 at *
    refine ⟨l0, l5, zs, _, rfl, rfl, x5.lst hl4, k1, sl_of (by simp; omega), fun l6 hl6 => ?_⟩
    have x6 := ext_upd (o := .lst (zs ++ [V.ref t0])) hl6
    have x46 := x5.trans x6
    have h6 : upd H5 l6 (.lst (zs ++ [V.ref t0])) l6 = some (.lst (zs ++ [V.ref t0])) := upd_same
    have hz6 := paired_snoc (frs_up x46 hz) (show FrV K (upd H5 l6 (.lst (zs ++ [V.ref t0]))) (.ref t0) 0 from ⟨t0, rfl, x6.tup k2⟩)
    generalize upd H5 l6 (.lst (zs ++ [V.ref t0])) = H6 at *
    have s6 := s4.trans x46
    have en : (1 : Int) + (i : Int) - 1 = (i : Int) := by omega
    have cA : ∀ k < i, co ((List.range i).map sl ++ [0]) k = sl k := fun k hk => by
      unfold co
      rw [List.getD_eq_getElem?_getD, List.getElem?_append_left (by rw [List.length_map, List.length_range]; exact hk), List.getElem?_map, List.getElem?_range hk]
      rfl
    have cB : co ((List.range i).map sl ++ [0]) i = 0 := by
      unfold co
      rw [List.getD_eq_getElem?_getD, List.getElem?_append_right (by rw [List.length_map, List.length_range]; exact Nat.le_refl _), List.length_map, List.length_range, Nat.sub_self]
      rfl
    have gz : SM.Gd 0 := SM.Iz.zero.le (Nat.zero_le _)
    have dl : ∀ k ≤ i, SM.Gd (co ((List.range i).map sl ++ [0]) k) ∧ SM.Gd (co rs (i - k)) := fun k hk => by
      refine ⟨?_, (hs _ (by omega)).1⟩
      by_cases e : k = i
      · rw [e, cB]
        exact gz
      · rw [cA k (by omega)]
        exact hd k (by omega)
    refine ⟨_, rfl, _, rfl, _, _, rfl, rfl, l6, a, _, xs, (List.range i).map sl ++ [0], rs, i, ?_, .inl (SqL.of h6), .inr (s6.tup ha), hz6, frs_up s6 hx, by rw [List.length_append, List.length_map, List.length_range, List.length_singleton]; omega, by omega, by omega, dl, fun m H7 s7 nm hm => ?_⟩
    · show [V.ref l6, V.ref a, V.int (1 + (i : Int) - 1)] = _
      rw [en]
    have ec : cv (co ((List.range i).map sl ++ [0])) (co rs) i = ps sl (co rs) i i := by
      show ps _ _ i i + co ((List.range i).map sl ++ [0]) i * _ = _
      rw [cB, SM.ps_congr (c := sl) (d := co rs) i (fun k hk => cA k hk) (fun _ _ => rfl)]
      grind
    rw [ec] at hm
    have smp : Sm (ps sl (co rs) i i) := SM.ps_sm (by omega) fun k hk => ⟨hd k (by omega), (hs _ (by omega)).1⟩
    have hD7 := s7.ext.lst (x46.lst hD4)
    have hp7 := frs_up (x46.trans s7.ext) hp4
    obtain ⟨v, hv, va, rfl, hva⟩ := frs_at hp7 (show i + 1 < (facR rs).length by rw [facR_len]; omega)
    have ef : co (facR rs) (i + 1) = ((i + 1 : Nat) : Rat) * co rs (i + 1) := by
      unfold facR
      rw [co_map (by omega)]
    rw [ef] at hva
    have hl7 := (x46.trans s7.ext).lst hl4
    refine ⟨_, rfl, .inl ⟨rfl, _, SqL.of hl7⟩, _, rfl, _, rfl, D, _, _, _, rfl, rfl, SqL.of hD7, (show atI ys (1 + (i : Int)) = some (.ref va) from ?_), _, rfl, va, m, _, _, rfl, hva, SqT.of hm, okA_of (hs (i + 1) (by omega)).2 smp, fun d H8 s8 nd hd8 => ?_⟩
    · have := atI_nat hv
      rwa [show ((i + 1 : Nat) : Int) = 1 + (i : Int) by omega] at this
    have e8 : ((i + 1 : Nat) : Rat) * co rs (i + 1) - ps sl (co rs) i i = sl i := by
      have := hgo.2 i hiN
      have e9 : cv sl (co rs) i = ps sl (co rs) i i + sl i * co rs (i - i) := rfl
      rw [Nat.sub_self, hgo.1] at e9
      rw [this, e9]
      grind
    rw [SM.subF_fq, e8] at hd8
    have s48 := (x46.trans s7.ext).trans s8.ext
    have hl8 := s48.lst hl4
    refine ⟨l0, zs, _, rfl, rfl, hl8, sl_lt (by omega), _, _, zs ++ [.ref d], rfl, (s4.trans s48).own nl0, upd_same, ?_, ?_, ?_⟩
    · rw [map_snoc]
      exact frs_upd hl8 (paired_snoc (frs_up s48 hz) ⟨d, rfl, SqT.of hd8⟩)
    · rw [upd_ne nDl]
      exact s48.lst hD4
    · exact frs_upd hl8 (frs_up s48 hp4)
  · obtain ⟨y, z, zs, rfl, s4, hl4, hz, hD4, hp4⟩ := hP
    have en : ((xs.length : Int) - 1).toNat = N := by omega
    rw [en] at hz
    have lz := hz.length
    rw [List.length_map, List.length_range] at lz
    refine ⟨sl2, fun t0 ht0 => ⟨by rw [sizeLine_eq]; simp, fun p0 hp0 => ?_⟩⟩
    have x5a := ext_upd (o := .tup [V.int 0, .int 1]) ht0
    have x5b := ext_upd (o := .tup [V.ref t0]) hp0
    have k1 : upd (upd H4 t0 (.tup [V.int 0, .int 1])) p0 (.tup [V.ref t0]) p0 = some (.tup [V.ref t0]) := upd_same
    have k2 : Fr K (upd (upd H4 t0 (.tup [V.int 0, .int 1])) p0 (.tup [V.ref t0])) t0 (fq 0) := SqT.of (x5b.at (upd_same (H := H4) (a := t0) (o := .tup [V.int 0, .int 1])))
    have x5 := x5a.trans x5b
    have np0 : H p0 = none := s4.free (x5a.free hp0)
    generalize upd (upd H4 t0 (.tup [V.int 0, .int 1])) p0 (.tup [V.ref t0]) = H5 at *
    have s5 := s4.trans x5
    refine ⟨_, rfl, l0, zs, H5, rfl, Ext.refl H5, .inl (SqL.of (x5.lst hl4)), fun J wJ => ⟨(G.ext s5).t_logarithm, fun H6 t6 => ?_⟩⟩
    have x6 : Ext H5 H6 := ext_tabbed (G.ext s5).t_logarithm t6
    have hz5 := frs_up x5 hz
    refine gx_enum wJ (fun i ws H7 => Ext H5 H7 ∧ FrsV K H7 ws ((List.range i).map fun (k : Nat) => sl k / ((k + 1 : Nat) : Rat))) ⟨x6, .nil⟩ (fun i ws H7 _ h => h.1) (fun i x t ws H7 hi hP ht => ?_) (fun ws H7 hP => ?_)
    · obtain ⟨s7, hw⟩ := hP
      have hil := (List.getElem?_eq_some_iff.mp hi).1
      obtain ⟨v, hv, va, rfl, hva⟩ := frs_at hz5 (show i < ((List.range N).map sl).length by rw [List.length_map, List.length_range]; omega)
      rw [hi] at hv
      cases hv
      rw [co_map (show i < N by omega)] at hva
      have x8 := ext_upd (o := .tup [V.int (i : Int), .ref va]) ht
      have y8 : upd H7 t (.tup [V.int (i : Int), .ref va]) t = some (.tup [V.int (i : Int), .ref va]) := upd_same
      have s8 := s7.trans x8
      have hw8 := frs_up x8 hw
      generalize upd H7 t (.tup [V.int (i : Int), .ref va]) = H8 at *
      refine ⟨t, _, rfl, SqT.of y8, rfl, _, _, rfl, _, _, rfl, rfl, rfl, ?_⟩
      refine ⟨_, rfl, _, rfl, _, _, rfl, rfl, sl2, fun t1 ht1 => ?_⟩
      have x9 := ext_upd (o := .tup [V.int ((i : Int) + 1), .int 1]) ht1
      have f9 : Fr K (upd H8 t1 (.tup [V.int ((i : Int) + 1), .int 1])) t1 (fq ((i + 1 : Nat) : Rat)) := SqT.of upd_same
      have g9 := (s8.trans x9).tup hva
      have hw9 := frs_up x9 hw8
      have s9 := s8.trans x9
      dsimp only
      generalize upd H8 t1 (.tup [V.int ((i : Int) + 1), .int 1]) = H9 at *
      refine ⟨va, t1, _, _, rfl, g9, f9, okD_of (hd i (by omega)).sm (sm_nat (by omega)) (SM.natc_ne i), fun d H10 s10 nd hd10 => ?_⟩
      rw [SM.divF_fq _ (SM.natc_ne i)] at hd10
      have lw := hw9.length
      rw [List.length_map, List.length_range] at lw
      refine ⟨sl_lt (by omega), s9.trans s10.ext, ?_⟩
      rw [map_snoc]
      exact paired_snoc (frs_up s10.ext hw9) ⟨d, rfl, SqT.of hd10⟩
    · obtain ⟨s7, hw⟩ := hP
      rw [lz] at hw
      intro p1 hp1
      have x8 := ext_upd (o := .tup ws) hp1
      have h8 : upd H7 p1 (.tup ws) p1 = some (.tup ws) := upd_same
      have hw8 := frs_up x8 hw
      have s8 := s7.trans x8
      have k18 := s8.at k1
      have k28 := s8.tup k2
      have lw := hw8.length
      rw [List.length_map, List.length_range] at lw
      generalize upd H7 p1 (.tup ws) = H8 at *
      refine ⟨p0, p1, _, ws, rfl, rfl, SqT.of k18, SqT.of h8, sl_of (by simp; omega), fun z => absurd z (by simp), fun _ z => ?_, fun _ _ p2 hp2 => ?_⟩
      · have : N = 0 := by rw [z] at lw; exact lw.symm
        subst this
        exact q p0 H8 _ (s5.trans s8) np0 k18 (.cons ⟨t0, rfl, k28⟩ .nil)
      · have x9 := ext_upd (o := .tup ([V.ref t0] ++ ws)) hp2
        exact q p2 _ _ ((s5.trans s8).trans x9) ((s5.trans s8).free hp2) upd_same (.cons ⟨t0, rfl, x9.tup k28⟩ (frs_up x9 hw8))
def spSer (T : Top K mg) : Sp := fun vs H Q _ => ∃ (a b : Addr) (xs ys : List V) (rs ss : List Rat), vs = [.ref a, .ref b] ∧ SqT K H a xs ∧ SqT K H b ys ∧ FrsV K H xs rs ∧ FrsV K H ys ss ∧ rs.length = ss.length ∧ ss.length ≤ 100 ∧ Tg T H ∧
  (∀ k < rs.length, SM.Gd (co rs k) ∧ SM.Gd (co ss k)) ∧ NewTs K H Q ((List.range rs.length).map (cv (co rs) (co ss)))
theorem ok_series_product (T : Top K mg) (B : Tb T base) : FnOk P w K mg base CX0 5 T.f_series_product T.d_series_product ["first", "second"] (spSer T) := by
  refine T.F_series_product.ok sc_series_product (fun vs H Q E h => ?_) (fun A outer s H vs Q E hr h => ?_)
  · obtain ⟨a, b, xs, ys, rs, ss, rfl, _⟩ := h
    rfl
  obtain ⟨a, b, xs, ys, rs, ss, rfl, ha, hb, hx, hy, hl, h100, G, hg, q⟩ := h
  refine ⟨_, (pss_one (ps_ret (GXP.pe_tupleGx (own := [("order", 2)]) (g := gName 2) (tt := tYes) (k := 3) (c := T.c_series_product) (P := T.P_series_product) (by rfl) T.m_tuple ⟨hr.mono (by decide), rfl, B.t_series_product, rfl, rfl, blkOk_by (own := [("order", 2)]) (N := n_series_product) (sc := defScope s_series_product) (by decide +kernel), sc_series_product.nd, by decide +kernel, rfl, (pi_range1 (by rfl) T.m_range (pa_cons (pe_callB call_len_seq (by rfl) T.m_len (by decide +kernel) (pa_cons (pv 0) pa_nil)) pa_nil)), fun A s H C cl code bi fp hrA => (pg_name (i := 2) sc_series_product.nd rfl (by first | exact .inl rfl | exact .inr rfl)), fun A s H C cl code bi fp hrA => pts_nil, fun A s H C cl code bi fp hrA => (pe_call (ok_sum_of_products T) (hrA.mono (by decide)) (by rfl) T.g_sum_of_products T.F_sum_of_products.kp T.b_sum_of_products .nil pass0 (pa_cons (pv 0) (pa_cons (pv 1) (pa_cons (pv 2) pa_nil)))), fun _ => rfl⟩))), ?_⟩
  have lx := hx.length
  have ly := hy.length
  refine ⟨_, rfl, a, xs, rfl, .inr ha, _, rfl, by omega, by omega, G.t_series_product, fun H2 t2 => ?_⟩
  have x2 : Ext H H2 := ext_tabbed G.t_series_product t2
  refine gx_range (lo := 0) (n := (xs.length : Int).toNat) (fun i zs H3 => Ext H H3 ∧ FrsV K H3 zs ((List.range i).map (cv (co rs) (co ss)))) ⟨x2, .nil⟩ (fun i zs H3 hi hP => ?_) (fun zs H3 hP => ?_)
  · obtain ⟨s3, hz⟩ := hP
    rw [Int.zero_add]
    have hir : i < rs.length := by omega
    refine ⟨rfl, _, rfl, _, rfl, _, rfl, a, b, xs, ys, rs, ss, i, rfl, .inr (s3.tup ha), .inr (s3.tup hb), frs_up s3 hx, frs_up s3 hy, hir, by omega, by omega, fun k hk => ⟨(hg k (by omega)).1, (hg (i - k) (by omega)).2⟩, fun m H4 s4 nm hm => ?_⟩
    have lz := hz.length
    rw [List.length_map, List.length_range] at lz
    refine ⟨sl_lt (by omega), s3.trans s4.ext, ?_⟩
    rw [map_snoc]
    exact paired_snoc (frs_up s4.ext hz) ⟨m, rfl, SqT.of hm⟩
  · obtain ⟨s3, hz⟩ := hP
    rw [Int.toNat_natCast, lx] at hz
    exact fun p hp => q p _ _ (s3.new hp) (s3.free hp) upd_same (frs_up (ext_upd hp) hz)
open K04
theorem ok_law_add (T : Top K mg) : FnOk P w K mg base CX0 3 T.f_law_add T.d_law_add ["p", "q"] (spOp2 K okA addF) := by
  refine T.F_law_add.ok sc_law_add (fun vs H Q E h => ?_) (fun cdv A outer s H vs Q E hr h => ?_)
  · obtain ⟨a, b, p, q, rfl, _⟩ := h
    rfl
  · obtain ⟨a, b, p, q, rfl, hp, hq, ⟨m1, m2, m3, m4, n1, n2⟩, k⟩ := h
    refine ⟨_, (pss_one (ps_ret (pe_call (ok_law_frac T) (hr.mono (by decide)) (by rfl) T.g_law_frac T.F_law_frac.kp T.b_law_frac .nil pass0 (pa_cons (pe_op op_add (pe_op op_mulW (pe_ix ix_tup (pv 0) pe_int (fun _ _ => rfl)) (pe_ix ix_tup (pv 1) pe_int (fun _ _ => rfl))) (pe_op op_mulW (pe_ix ix_tup (pv 1) pe_int (fun _ _ => rfl)) (pe_ix ix_tup (pv 0) pe_int (fun _ _ => rfl)))) (pa_cons (pe_op op_mulW (pe_ix ix_tup (pv 0) pe_int (fun _ _ => rfl)) (pe_ix ix_tup (pv 1) pe_int (fun _ _ => rfl))) pa_nil))))), ?_⟩
    refine ⟨_, rfl, a, _, _, _, rfl, rfl, hp, atI_nat (j := 0) rfl, _, rfl, b, _, _, _, rfl, rfl, hq, atI_nat (j := 1) rfl, _, _, rfl, rfl, mid_mul m1 m4, ?_⟩
    refine ⟨_, rfl, b, _, _, _, rfl, rfl, hq, atI_nat (j := 0) rfl, _, rfl, a, _, _, _, rfl, rfl, hp, atI_nat (j := 1) rfl, _, _, rfl, rfl, mid_mul m3 m2, ?_⟩
    refine ⟨_, _, rfl, rfl, ?_⟩
    refine ⟨_, rfl, a, _, _, _, rfl, rfl, hp, atI_nat (j := 1) rfl, _, rfl, b, _, _, _, rfl, rfl, hq, atI_nat (j := 1) rfl, _, _, rfl, rfl, mid_mul m2 m4, ?_⟩
    exact ⟨_, _, rfl, Int.mul_ne_zero n1 n2, mid_small m2 m4, k⟩
/-- a digit's fraction -/
theorem digit_iz {d : Int} (h0 : 0 ≤ d) (h1 : d < 28) : ∃ r : Rat, F (d % 7 - 3) (1 + d.fdiv 7) = fq r ∧ SM.Iz 12 36 r := by
  have e : d.fdiv 7 = d / 7 := by
    rw [Int.fdiv_eq_ediv_of_nonneg _ (by decide)]
  rw [e]
  refine ⟨_, SM.F_fq _ (by omega), (d % 7 - 3) * (12 / (1 + d / 7)), ?_, ?_⟩
  · have h2 : (12 : Int) = (1 + d / 7) * (12 / (1 + d / 7)) := by
      have : d / 7 = 0 ∨ d / 7 = 1 ∨ d / 7 = 2 ∨ d / 7 = 3 := by omega
      rcases this with h | h | h | h <;> rw [h] <;> decide
    have h3 : ((1 + d / 7 : Int) : Rat) ≠ 0 := fun z => by
      have : (1 + d / 7 : Int) = 0 := Rat.intCast_inj.mp (z : ((1 + d / 7 : Int) : Rat) = ((0 : Int) : Rat))
      omega
    have h4 : ((12 : Nat) : Rat) = ((1 + d / 7 : Int) : Rat) * ((12 / (1 + d / 7) : Int) : Rat) := by
      rw [← Rat.intCast_mul, ← h2]
      rfl
    rw [Rat.divInt_eq_div, h4, Rat.intCast_mul]
    generalize ((1 + d / 7 : Int) : Rat) = A at *
    generalize ((12 / (1 + d / 7) : Int) : Rat) = B at *
    generalize ((d % 7 - 3 : Int) : Rat) = C at *
    grind
  · rw [Int.natAbs_mul]
    have h5 : (d % 7 - 3).natAbs ≤ 3 := by omega
    have h6 : (12 / (1 + d / 7)).natAbs ≤ 12 := by
      have : d / 7 = 0 ∨ d / 7 = 1 ∨ d / 7 = 2 ∨ d / 7 = 3 := by omega
      rcases this with h | h | h | h <;> rw [h] <;> decide
    exact Nat.mul_le_mul h5 h6
def spSeries (K : PySem.W.Frag) : Sp := fun vs H Q _ => ∃ (c : Int) (n : Nat), vs = [.int c, .int (n : Int)] ∧ n ≤ 12 ∧
  ∀ l H' ys rs, Ext H H' → H l = none → H' l = some (.lst ys) → FrsV K H' ys rs → rs.length = n + 1 → (∀ k ≤ n, SM.Iz 12 36 (co rs k)) → Q (.ref l) H'
theorem ok_law_series (T : Top K mg) : FnOk P w K mg base CX0 3 T.f_law_series T.d_law_series ["cell", "order"] (spSeries K) := by
  refine T.F_law_series.ok sc_law_series (fun vs H Q E h => ?_) (fun cdv A outer s H vs Q E hr h => ?_)
  · obtain ⟨c, n, rfl, _⟩ := h
    rfl
  obtain ⟨c, n, rfl, h12, q⟩ := h
  refine ⟨_, (pss_one (ps_ret (pe_lc (own := [("digit", 2)]) (g := gName 2) (tt := tYes) rfl sc_law_series.nd (pi_list (pe_call (ok_law_row T) (hr.mono (by decide)) (by rfl) T.g_law_row T.F_law_row.kp T.b_law_row .nil pass0 (pa_cons (pv 0) (pa_cons (pe_op op_add (pv 1) pe_int) (pa_cons pe_int pa_nil))))) (blkOk_by (own := [("digit", 2)]) (N := n_law_series) (sc := defScope s_law_series) (by decide +kernel)) (fun _ _ _ _ _ => (pg_name (i := 2) sc_law_series.nd rfl (by first | exact .inl rfl | exact .inr rfl))) (fun _ _ _ _ _ => pts_nil) (fun _ _ _ _ _ => (pe_call (ok_law_frac T) (hr.mono (by decide)) (by rfl) T.g_law_frac T.F_law_frac.kp T.b_law_frac .nil pass0 (pa_cons (pe_op op_sub (pe_op op_mod (pv 2) pe_int) pe_int) (pa_cons (pe_op op_add pe_int (pe_op op_fdivZ (pv 2) pe_int)) pa_nil))))))), ?_⟩
  refine ⟨_, rfl, _, rfl, _, _, rfl, rfl, c, 28, n + 1, rfl, by omega, by decide, by decide, fun l H2 ds s2 nl hl ll hd => ?_⟩
  refine ⟨l, rfl, ⟨_, SqL.of hl⟩, fun D hD => lc_list (xs := ds.map V.int) (fun i H3 => Ext H2 H3 ∧ ∃ ys rs, H3 D = some (.lst ys) ∧ FrsV K H3 ys rs ∧ rs.length = i ∧ ∀ k < i, SM.Iz 12 36 (co rs k)) ⟨ext_upd hD, [], [], upd_same, .nil, rfl, fun k hk => by omega⟩ (fun i H3 _ h => SqL.of (h.1.lst hl)) (fun i x H3 hi hP => ?_) (fun H3 hP => ?_)⟩
  · obtain ⟨s3, ys, rs, hys, hp, lr, hz⟩ := hP
    obtain ⟨d, hdi, rfl⟩ : ∃ d, ds[i]? = some d ∧ x = V.int d := by
      rw [List.getElem?_map] at hi
      obtain ⟨o, h1, h2⟩ := Option.map_eq_some_iff.mp hi
      exact ⟨o, h1, h2.symm⟩
    obtain ⟨d0, d1⟩ := hd d (List.mem_of_getElem? hdi)
    obtain ⟨r, er, ir⟩ := digit_iz d0 d1
    have hil := (List.getElem?_eq_some_iff.mp hdi).1
    have ed : d.fdiv 7 = d / 7 := Int.fdiv_eq_ediv_of_nonneg _ (by decide)
    refine ⟨rfl, _, rfl, _, _, rfl, rfl, (by decide : (0 : Int) < 7), _, _, rfl, rfl, _, rfl, _, _, rfl, rfl, ⟨by decide, by decide⟩, _, _, rfl, rfl, _, _, rfl, ?_, ?_, fun m H4 s4 nm hm => ?_⟩
    · rw [ed]
      omega
    · rw [ed]
      exact Nat.lt_of_lt_of_le (show (1 + d / 7).natAbs < 2 ^ 3 by omega) (Nat.pow_le_pow_right (by decide) (by decide))
    rw [er] at hm
    have ly := hp.length
    refine ⟨ys, s4.ext.lst hys, sl_lt (by omega), (s3.trans s4.ext).own hD, ys ++ [.ref m], rs ++ [r], upd_same, frs_upd (s4.ext.lst hys) (paired_snoc (frs_up s4.ext hp) ⟨m, rfl, SqT.of hm⟩), by rw [List.length_append, lr]; rfl, fun k hk => ?_⟩
    unfold co
    rw [List.getD_eq_getElem?_getD]
    by_cases e : k < i
    · rw [List.getElem?_append_left (by omega)]
      have := hz k e
      unfold co at this
      rwa [List.getD_eq_getElem?_getD] at this
    · have : k = rs.length := by omega
      rw [this, List.getElem?_append_right (Nat.le_refl _), Nat.sub_self]
      exact ir
  · obtain ⟨s3, ys, rs, hys, hp, lr, hz⟩ := hP
    rw [List.length_map, ll] at lr hz
    exact q D H3 ys rs (s2.trans s3) (s2.free hD) hys hp lr fun k hk => hz k (by omega)
theorem ixN_at {n : Nat} {v : Int} (h0 : 0 ≤ v) (h : v < n) : ixN n v = some v.toNat := by
  unfold ixN
  simp [h0, h]
open K04
theorem paired_set {α β : Type} {R : α → β → Prop} {a : α} {b : β} (h : R a b) : ∀ {as : List α} {bs : List β} (k : Nat), Paired R as bs → Paired R (as.set k a) (bs.set k b)
  | _, _, k, .nil => by cases k <;> exact .nil
  | _, _, 0, .cons x t => .cons h t
  | _, _, k + 1, .cons x t => .cons x (paired_set h k t)
theorem range_set {α : Type} {f : Nat → α} {n k : Nat} {v : α} : ((List.range n).map f).set k v = (List.range n).map fun m => if m = k then v else f m := by
  apply List.ext_getElem?
  intro i
  rw [List.getElem?_set, List.getElem?_map, List.getElem?_map]
  by_cases hi : i < n
  · rw [List.getElem?_range hi]
    by_cases e : k = i
    · subst e
      rw [if_pos rfl, if_pos (by rw [List.length_map, List.length_range]; exact hi)]
      simp
    · rw [if_neg e]
      simp [Ne.symm e]
  · have : (List.range n)[i]? = none := List.getElem?_eq_none (by rw [List.length_range]; omega)
    rw [this]
    by_cases e : k = i
    · subst e
      rw [if_pos rfl, if_neg (by rw [List.length_map, List.length_range]; exact hi)]
      rfl
    · rw [if_neg e]
      rfl
theorem flat1 {α : Type} (x : α) : ∀ k : Nat, (List.replicate k [x]).flatten = List.replicate k x
  | 0 => rfl
  | k + 1 => by rw [List.replicate_succ, List.flatten_cons, flat1 x k, List.replicate_succ]; rfl
theorem frs_rep {H : Hp} {v : V} {r : Rat} (h : FrV K H v r) : ∀ n, FrsV K H (List.replicate n v) (List.replicate n r)
  | 0 => .nil
  | n + 1 => .cons h (frs_rep h n)
/-- where the sums stand in turn i, step j -/
def upto (i j m : Nat) : Nat := if i ≤ m ∧ m < i + j then i + 1 else min i (m + 1)
def spSerL (K : PySem.W.Frag) : Sp := fun vs H Q _ => ∃ (a b : Addr) (xs ys : List V) (rs ss : List Rat), vs = [.ref a, .ref b] ∧ SqT K H a xs ∧ SqT K H b ys ∧ FrsV K H xs rs ∧ FrsV K H ys ss ∧ rs.length = ss.length ∧ ss.length ≤ 100 ∧
  (∀ k < rs.length, SM.Gd (co rs k) ∧ SM.Gd (co ss k)) ∧ NewTs K H Q ((List.range rs.length).map (cv (co rs) (co ss)))
theorem ok_law_series_product (T : Top K mg) : FnOk P w K mg base CX0 4 T.f_law_series_product T.d_law_series_product ["first", "second"] (spSerL K) := by
  refine T.F_law_series_product.ok sc_law_series_product (fun vs H Q E h => ?_) (fun cdv A outer s H vs Q E hr h => ?_)
  · obtain ⟨a, b, xs, ys, rs, ss, rfl, _⟩ := h
    rfl
  obtain ⟨a, b, xs, ys, rs, ss, rfl, ha, hb, hx, hy, hl, h100, hg, q⟩ := h
  refine ⟨_, (pss_cons (ps_set (i := 2) sc_law_series_product.nd rfl (by first | exact .inl rfl | exact .inr rfl) (pe_op op_rep (pe_lst (pa_cons (pe_tup (pa_cons pe_int (pa_cons pe_int pa_nil))) pa_nil)) (pe_callB call_len_seq (by rfl) T.m_len (by decide +kernel) (pa_cons (pv 0) pa_nil))))
      (pss_cons (ps_for PassesOwn.never rfl (pi_range1 (by rfl) T.m_range (pa_cons (pe_callB call_len_seq (by rfl) T.m_len (by decide +kernel) (pa_cons (pv 0) pa_nil)) pa_nil)) (pg_name (i := 3) sc_law_series_product.nd rfl (by first | exact .inl rfl | exact .inr rfl)) (pss_one (ps_for PassesOwn.never rfl (pi_range1 (by rfl) T.m_range (pa_cons (pe_op op_sub (pe_callB call_len_seq (by rfl) T.m_len (by decide +kernel) (pa_cons (pv 0) pa_nil)) (pv 3)) pa_nil)) (pg_name (i := 4) sc_law_series_product.nd rfl (by first | exact .inl rfl | exact .inr rfl)) (pss_one (ps_asg (pe_call (ok_law_add T) (hr.mono (by decide)) (by rfl) T.g_law_add T.F_law_add.kp T.b_law_add .nil pass0 (pa_cons (pe_ix ix_list (pv 2) (pe_op op_add (pv 3) (pv 4)) (fun _ _ => rfl)) (pa_cons (pe_call (ok_law_mul T) (hr.mono (by decide)) (by rfl) T.g_law_mul T.F_law_mul.kp T.b_law_mul .nil pass0 (pa_cons (pe_ix ix_tup (pv 0) (pv 3) (fun _ _ => rfl)) (pa_cons (pe_ix ix_tup (pv 1) (pv 4) (fun _ _ => rfl)) pa_nil))) pa_nil))) (pg_sub (pv 2) (pe_op op_add (pv 3) (pv 4)) set_list))))))
      (pss_one (ps_ret (pe_callTy call_tuple_of (by rfl) T.m_tuple (by decide +kernel) (pa_cons (pv 2) pa_nil)))))), ?_⟩
  have lx := hx.length
  have ly := hy.length
  refine ⟨sl2, fun t0 ht0 => ⟨by rw [sizeLine_eq]; simp, fun l0 hl0 => ⟨_, rfl, a, xs, rfl, .inr (((ext_upd ht0).trans (ext_upd hl0)).tup ha), l0, _, _, rfl, rfl, upd_same, by omega, by omega, by rw [Int.toNat_natCast, sizeLine_eq]; show 1 * xs.length ≤ 16777216; omega, fun fl hfl => ?_⟩⟩⟩
  have x1 := ext_upd (o := .tup [V.int 0, .int 1]) ht0
  have x2 := ext_upd (o := .lst [V.ref t0]) hl0
  have x3 := ext_upd (o := .lst (List.replicate (xs.length : Int).toNat [V.ref t0]).flatten) hfl
  have k1 : Fr K (upd (upd (upd H t0 (.tup [V.int 0, .int 1])) l0 (.lst [V.ref t0])) fl (.lst (List.replicate (xs.length : Int).toNat [V.ref t0]).flatten)) t0 (fq 0) := SqT.of (x3.at (x2.at (upd_same (H := H) (a := t0) (o := .tup [V.int 0, .int 1]))))
  have k2 : upd (upd (upd H t0 (.tup [V.int 0, .int 1])) l0 (.lst [V.ref t0])) fl (.lst (List.replicate (xs.length : Int).toNat [V.ref t0]).flatten) fl = some (.lst (List.replicate rs.length (V.ref t0))) := by
    rw [upd_same, flat1, Int.toNat_natCast, lx]
  have s3 := (x1.trans x2).trans x3
  have nfl : H fl = none := (x1.trans x2).free hfl
  generalize upd (upd (upd H t0 (.tup [V.int 0, .int 1])) l0 (.lst [V.ref t0])) fl (.lst (List.replicate (xs.length : Int).toNat [V.ref t0]).flatten) = H3 at *
  have f3 : FrsV K H3 (List.replicate rs.length (V.ref t0)) ((List.range rs.length).map fun m => ps (co rs) (co ss) m (min 0 (m + 1))) := by
    have e : ((List.range rs.length).map fun m => ps (co rs) (co ss) m (min 0 (m + 1))) = List.replicate rs.length 0 := by
      have : (fun m => ps (co rs) (co ss) m (min 0 (m + 1))) = fun _ : Nat => (0 : Rat) := funext fun m => by
        rw [Nat.zero_min]
        rfl
      rw [this, List.map_const', List.length_range]
    rw [e]
    exact frs_rep ⟨t0, rfl, k1⟩ _
  refine ⟨_, rfl, a, xs, rfl, .inr (s3.tup ha), _, rfl, by omega, by omega, for_range (lo := 0) (n := (xs.length : Int).toNat) (fun i σ H4 => ∃ (y z : Option V) (zs : List V), σ = [some (.ref a), some (.ref b), some (.ref fl), y, z] ∧ Ext H H4 ∧ H4 fl = some (.lst zs) ∧ FrsV K H4 zs ((List.range rs.length).map fun m => ps (co rs) (co ss) m (min i (m + 1))))
    ⟨none, none, _, rfl, s3, k2, f3⟩ (fun i σ H4 hi hP => ?_) (fun σ H4 hP => ?_)⟩
  · obtain ⟨y, z, zs, rfl, s4, hf4, hz4⟩ := hP
    rw [Int.zero_add]
    have hir : i < rs.length := by omega
    have z0 : ((List.range rs.length).map fun m => ps (co rs) (co ss) m (min i (m + 1))) = (List.range rs.length).map fun m => ps (co rs) (co ss) m (upto i 0 m) := by
      refine List.map_congr_left fun m _ => ?_
      unfold upto
      rw [if_neg (by omega)]
    rw [z0] at hz4
    refine ⟨_, rfl, a, xs, rfl, .inr (s4.tup ha), _, rfl, _, _, rfl, rfl, _, rfl, by omega, by omega, for_range (lo := 0) (n := ((xs.length : Int) - (i : Int)).toNat) (fun j σ H5 => ∃ (z : Option V) (zs : List V), σ = [some (.ref a), some (.ref b), some (.ref fl), some (.int (i : Int)), z] ∧ Ext H H5 ∧ H5 fl = some (.lst zs) ∧ FrsV K H5 zs ((List.range rs.length).map fun m => ps (co rs) (co ss) m (upto i j m)))
      ⟨z, zs, rfl, s4, hf4, hz4⟩ (fun j σ H5 hj hP => ?_) (fun σ H5 hP => ?_)⟩
    · obtain ⟨z, zs, rfl, s5, hf5, hz5⟩ := hP
      rw [Int.zero_add]
      have hjr : i + j < rs.length := by omega
      have lz := hz5.length
      rw [List.length_map, List.length_range] at lz
      obtain ⟨v, hv, va, rfl, hva⟩ := frs_at hz5 (show i + j < ((List.range rs.length).map fun m => ps (co rs) (co ss) m (upto i j m)).length by rw [List.length_map, List.length_range]; exact hjr)
      rw [co_map hjr] at hva
      have eu : upto i j (i + j) = i := by
        unfold upto
        rw [if_neg (by omega)]
        omega
      rw [eu] at hva
      obtain ⟨v1, hv1, va1, rfl, hva1⟩ := frs_at (frs_up s5 hx) hir
      obtain ⟨v2, hv2, va2, rfl, hva2⟩ := frs_at (frs_up s5 hy) (show j < ss.length by omega)
      have sp := SM.ps_sm (a := co rs) (b := co ss) (n := i + j) (j := i) (by omega) fun k hk => ⟨(hg k (by omega)).1, (hg _ (by omega)).2⟩
      obtain ⟨g1, _⟩ := hg i hir
      obtain ⟨_, g2⟩ := hg j (by omega)
      have eij : (i : Int) + (j : Int) = ((i + j : Nat) : Int) := by omega
      refine ⟨_, rfl, _, rfl, _, rfl, _, _, rfl, rfl, fl, zs, _, _, rfl, rfl, SqL.of hf5, (by rw [eij]; exact atI_nat hv), _, rfl, _, rfl, a, xs, _, _, rfl, rfl, s5.tup ha, atI_nat hv1, _, rfl, _, rfl, b, ys, _, _, rfl, rfl, s5.tup hb, atI_nat hv2, va1, va2, _, _, rfl, hva1, hva2, okA_of g1.sm g2.sm, fun m H6 s6 nm hm => ?_⟩
      rw [SM.mulF_fq] at hm
      refine ⟨va, m, _, _, rfl, s6.fr hva, SqT.of hm, okA_of sp (g1.mul_sm g2), fun d H7 s7 nd hd => ?_⟩
      rw [SM.addF_fq] at hd
      have en : ps (co rs) (co ss) (i + j) i + co rs i * co ss j = ps (co rs) (co ss) (i + j) (i + 1) := by
        show _ = ps (co rs) (co ss) (i + j) i + co rs i * co ss (i + j - i)
        rw [Nat.add_sub_cancel_left]
      rw [en] at hd
      have s57 := s6.ext.trans s7.ext
      have hf7 := s57.lst hf5
      refine ⟨_, rfl, _, rfl, _, rfl, _, _, rfl, rfl, fl, zs, _, i + j, rfl, rfl, hf7, ?_, _, _, rfl, (s5.trans s57).own nfl, upd_same, ?_⟩
      · rw [eij]
        exact ixN_at (by omega) (by omega)
      · have hset := frs_upd (o := .lst (zs.set (i + j) (.ref d))) hf7 (paired_set (b := ps (co rs) (co ss) (i + j) (i + 1)) ⟨d, rfl, SqT.of hd⟩ (i + j) (frs_up s57 hz5))
        rw [range_set] at hset
        have ef : ((List.range rs.length).map fun m => if m = i + j then ps (co rs) (co ss) (i + j) (i + 1) else ps (co rs) (co ss) m (upto i j m)) = (List.range rs.length).map fun m => ps (co rs) (co ss) m (upto i (j + 1) m) := by
          refine List.map_congr_left fun m _ => ?_
          by_cases e : m = i + j
          · subst e
            rw [if_pos rfl]
            unfold upto
            rw [if_pos (by omega)]
          · rw [if_neg e]
            unfold upto
            by_cases e2 : i ≤ m ∧ m < i + j
            · rw [if_pos e2, if_pos (by omega)]
            · rw [if_neg e2, if_neg (by omega)]
        rw [ef] at hset
        exact hset
    · obtain ⟨z, zs, rfl, s5, hf5, hz5⟩ := hP
      have ef : ((List.range rs.length).map fun m => ps (co rs) (co ss) m (upto i ((xs.length : Int) - (i : Int)).toNat m)) = (List.range rs.length).map fun m => ps (co rs) (co ss) m (min (i + 1) (m + 1)) := by
        refine List.map_congr_left fun m hm => ?_
        have := List.mem_range.mp hm
        unfold upto
        by_cases e2 : i ≤ m ∧ m < i + ((xs.length : Int) - (i : Int)).toNat
        · rw [if_pos e2]
          congr 1
          omega
        · rw [if_neg e2]
          congr 1
          omega
      rw [ef] at hz5
      exact ⟨_, _, zs, rfl, s5, hf5, hz5⟩
  · obtain ⟨y, z, zs, rfl, s4, hf4, hz4⟩ := hP
    have ef : ((List.range rs.length).map fun m => ps (co rs) (co ss) m (min (xs.length : Int).toNat (m + 1))) = (List.range rs.length).map (cv (co rs) (co ss)) := by
      refine List.map_congr_left fun m hm => ?_
      have := List.mem_range.mp hm
      show _ = ps (co rs) (co ss) m (m + 1)
      congr 1
      omega
    rw [ef] at hz4
    refine ⟨_, rfl, fl, _, rfl, .inl ⟨SqL.of hf4, fun r hr2 => ?_⟩⟩
    have x5 := ext_upd (o := .tup zs) hr2
    exact q r _ zs (s4.trans x5) (s4.free hr2) upd_same (frs_up x5 hz4)
/-! ### data that may be laid -/
def Gd (n : Nat) (d : PyData) : Prop := d.canLay0 = true ∧ d.depth ≤ n
theorem gd_int (i : Int) : Gd 3 (.int i) := ⟨by simp [PyData.canLay0], by simp [PyData.depth]⟩
theorem gd_all {n : Nat} : ∀ {ds : List PyData}, (∀ x ∈ ds, Gd n x) → PyData.canLayAll0 ds = true ∧ PyData.depthAll ds ≤ n
  | [], _ => ⟨by simp [PyData.canLayAll0], by simp [PyData.depthAll]⟩
  | d :: ds, h => by
    obtain ⟨h1, h2⟩ := h d List.mem_cons_self
    obtain ⟨h3, h4⟩ := gd_all fun x m => h x (List.mem_cons_of_mem _ m)
    simp only [PyData.canLayAll0, PyData.depthAll, h1, h3, Bool.and_self, true_and]
    omega
theorem gd_tup {n : Nat} {ds : List PyData} (h : ∀ x ∈ ds, Gd n x) : Gd (n + 1) (.tuple ds) := by
  obtain ⟨h1, h2⟩ := gd_all h
  refine ⟨by simp only [PyData.canLay0, h1], ?_⟩
  simp only [PyData.depth]
  omega
theorem gd_lst {n : Nat} {ds : List PyData} (h : ∀ x ∈ ds, Gd n x) : Gd (n + 1) (.list ds) := by
  obtain ⟨h1, h2⟩ := gd_all h
  refine ⟨by simp only [PyData.canLay0, h1], ?_⟩
  simp only [PyData.depth]
  omega
theorem Gd.up {n m : Nat} {d : PyData} (h : Gd n d) (k : n ≤ m) : Gd m d := ⟨h.1, Nat.le_trans h.2 k⟩
theorem Gd.sh {n : Nat} {d : PyData} (h : Gd n d) (k : n ≤ 64 := by decide) : SeqAt.shaped d = true := by
  unfold SeqAt.shaped
  rw [h.1, Bool.true_and]
  exact decide_eq_true (Nat.le_trans h.2 k)
theorem eqv_self {n : Nat} {d : PyData} (h : Gd n d) : PyData.eqv d d = true := SeqAt.eqv_refl d h.1
open K04
def spLaw (T : Top K mg) : Sp := fun vs H Q _ => ∃ (a : Addr) (ns : List Int), vs = [.ref a] ∧ SqL K H a (ns.map V.int) ∧ Tg T H ∧ ∀ H', Q (.bl true) H'
theorem law_in (T : Top K mg) (H : Hp) (a : Addr) (ns : List Int) (hl : ns.length ≤ 63) (hb : ∀ z ∈ ns, Builtin.Int.intBits z ≤ 1048576) (G : Tg T H) (hS : SqL K H a (ns.map V.int)) : spLaw T [.ref a] H (fun v _ => v = .bl true) fun _ _ _ => False := ⟨a, ns, rfl, hS, G, fun _ => rfl⟩
def frD (r : Rat) : PyData := .tuple [.int (fq r).1, .int (fq r).2]
def serD (rs : List Rat) : PyData := .tuple (rs.map frD)
theorem frs_dp {H : Hp} {vs : List V} {rs : List Rat} (h : FrsV K H vs rs) : DpAll K H vs (rs.map frD) := dpAll_of (fun v r ⟨a, e, g⟩ => e ▸ .tup g (.cons (.int _) (.cons (.int _) .nil))) h
theorem ser_dp {H : Hp} {p : Addr} {vs : List V} {rs : List Rat} (hp : SqT K H p vs) (h : FrsV K H vs rs) : Dp K H (.ref p) (serD rs) := .tup hp (frs_dp h)
theorem gd_frD (r : Rat) : Gd 4 (frD r) := gd_tup fun x m => by
  simp only [List.mem_cons, List.not_mem_nil, or_false] at m
  rcases m with rfl | rfl <;> exact gd_int _
theorem gd_ser (rs : List Rat) : Gd 5 (serD rs) := gd_tup fun x m => by
  obtain ⟨r, _, rfl⟩ := List.mem_map.mp m
  exact gd_frD r
theorem ser_tup {rs : List Rat} (h : rs.length ≤ 1000) : tupD 4 (serD rs) := by
  refine ⟨by rw [List.length_map]; omega, fun x m => ?_⟩
  obtain ⟨r, _, rfl⟩ := List.mem_map.mp m
  refine ⟨by simp, fun y n => ?_⟩
  simp only [List.mem_cons, List.not_mem_nil, or_false] at n
  rcases n with rfl | rfl <;> trivial
/-- ((n, 1),) + t -/
theorem cat_head {H : Hp} {p0 t0 p : Addr} {ys : List V} {rs : List Rat} {r : Rat} {Q : VK} (k1 : H p0 = some (.tup [.ref t0])) (k2 : Fr K H t0 (fq r)) (h : SqT K H p ys) (hy : FrsV K H ys rs) (hl : rs.length ≤ 100) (q : ∀ p' H' zs, Ext H H' → SqT K H' p' zs → FrsV K H' zs (r :: rs) → Q (.ref p') H') : rCatA K (.ref p0) (.ref p) H Q := by
  have ly := hy.length
  refine ⟨p0, p, _, ys, rfl, rfl, SqT.of k1, h, sl_of (by simp; omega), fun z => absurd z (by simp), fun _ z => ?_, fun _ _ p2 hp2 => ?_⟩
  · subst z
    cases hy
    exact q p0 H _ (Ext.refl H) (SqT.of k1) (.cons ⟨t0, rfl, k2⟩ .nil)
  · have x9 := ext_upd (o := .tup ([V.ref t0] ++ ys)) hp2
    exact q p2 _ _ x9 (SqT.of upd_same) (.cons ⟨t0, rfl, x9.tup k2⟩ (frs_up x9 hy))
theorem slice1 {H : Hp} {a : Addr} {xs : List V} {rs : List Rat} {Q : VK} (h : SqT K H a xs) (hx : FrsV K H xs rs) (hl : 1 ≤ rs.length) (q : ∀ p H' ys, Ext H H' → SqT K H' p ys → FrsV K H' ys (rs.drop 1) → Q (.ref p) H') : rSlA K (.ref a) (some 1) none H Q := by
  have lx := hx.length
  have e1 : HT.sIx xs.length 0 (some 1) = 1 := by
    rw [show (some (1 : Int)) = some (((1 : Nat) : Int)) from rfl, HT.sIx_nat]
    omega
  refine ⟨a, xs, rfl, h, fun z => ?_, fun _ p hp => ?_⟩
  · rw [e1] at z
    exact absurd z.1 (by decide)
  · have x9 := ext_upd (o := .tup (cutV xs (some 1) none)) hp
    refine q p _ (xs.drop 1) x9 (SqT.of ?_) (paired_drop (frs_up x9 hx) 1)
    rw [upd_same, cut1]
theorem co_cons0 (r : Rat) (rs : List Rat) : co (r :: rs) 0 = r := rfl
theorem co_consS (r : Rat) (rs : List Rat) (k : Nat) : co (r :: rs) (k + 1) = co rs k := rfl
theorem co_drop1 (rs : List Rat) (k : Nat) : co (rs.drop 1) k = co rs (k + 1) := by
  unfold co
  rw [List.getD_eq_getElem?_getD, List.getElem?_drop, List.getD_eq_getElem?_getD, Nat.add_comm 1 k]
theorem list_co (rs : List Rat) : (List.range rs.length).map (co rs) = rs := by
  apply List.ext_getElem?
  intro i
  rw [List.getElem?_map]
  by_cases h : i < rs.length
  · rw [List.getElem?_range h, List.getElem?_eq_getElem h]
    show some (co rs i) = _
    unfold co
    rw [List.getD_eq_getElem?_getD, List.getElem?_eq_getElem h]
    rfl
  · rw [List.getElem?_eq_none (by rw [List.length_range]; omega), List.getElem?_eq_none (by omega)]
    rfl
theorem list_of {rs : List Rat} {n : Nat} {f : Nat → Rat} (hl : rs.length = n) (h : ∀ k < n, co rs k = f k) : rs = (List.range n).map f := by
  rw [← list_co rs, hl]
  exact List.map_congr_left fun k hk => h k (List.mem_range.mp hk)
theorem iz_head {rs : List Rat} {n : Nat} {r : Rat} (hr : SM.Iz 12 36 r) (h : ∀ k ≤ n, SM.Iz 12 36 (co rs k)) : ∀ k ≤ n, SM.Iz 12 36 (co (r :: rs.drop 1) k) := fun k hk => by
  cases k with
  | zero => exact hr
  | succ k =>
    rw [co_consS, co_drop1]
    exact h _ hk
theorem rep_tup {H : Hp} {p t0 : Addr} {n : Nat} {Q : VK} (k1 : H p = some (.tup [.ref t0])) (k2 : Fr K H t0 (fq 0)) (hn : n ≤ 100) (q : ∀ p' H' ys, Ext H H' → SqT K H' p' ys → FrsV K H' ys (List.replicate n 0) → Q (.ref p') H') : rRepA K (.ref p) (.int (n : Int)) H Q := by
  refine ⟨p, n, _, rfl, rfl, SqT.of k1, by simp, by omega, by omega, by simp, fun e => ?_, fun _ p2 hp2 => ?_⟩
  · obtain rfl : n = 1 := by omega
    exact q p H _ (Ext.refl H) (SqT.of k1) (.cons ⟨t0, rfl, k2⟩ .nil)
  · have x9 := ext_upd (o := .tup (List.replicate (n : Int).toNat [V.ref t0]).flatten) hp2
    refine q p2 _ (List.replicate n (.ref t0)) x9 (SqT.of ?_) (frs_rep ⟨t0, rfl, x9.tup k2⟩ n)
    rw [upd_same, flat1, Int.toNat_natCast]
theorem ok_law {f : Addr} {d : FuncData} (F : Fun K "law" "law" s_law f d) (T : Top K mg) (B : Tb T base) : FnOk P w K mg base CX0 8 f d ["script"] (spLaw T) := by
  refine F.ok sc_law (fun vs H Q E h => ?_) (fun cdv A outer s H vs Q E hr h => ?_)
  · obtain ⟨a, ns, rfl, _⟩ := h
    rfl
  obtain ⟨a, ns, rfl, hS, G, q⟩ := h
  refine ⟨_, (pss_cons (ps_set (i := 1) sc_law.nd rfl (by first | exact .inl rfl | exact .inr rfl) (pe_callB call_abs (by rfl) T.m_abs (by decide +kernel) (pa_cons (pe_call (ok_law_cell T) (hr.mono (by decide)) (by rfl) T.g_law_cell T.F_law_cell.kp T.b_law_cell .nil pass0 (pa_cons (pv 0) (pa_cons pe_int pa_nil))) pa_nil)))
      (C8.pss_cut (ps_set (i := 2) sc_law.nd rfl (by first | exact .inl rfl | exact .inr rfl) (pe_ifExp (pt_cmpR op_eq (pe_op op_mod (pv 1) pe_int) pe_int (nomark _)) pe_int (pe_op op_mod (pe_op op_fdivZ (pv 1) pe_int) pe_int)))
      (pss_cons (ps_set (i := 3) sc_law.nd rfl (by first | exact .inl rfl | exact .inr rfl) (pe_callTy call_tuple_of (by rfl) T.m_tuple (by decide +kernel) (pa_cons (pe_call (ok_law_series T) (hr.mono (by decide)) (by rfl) T.g_law_series T.F_law_series.kp T.b_law_series .nil pass0 (pa_cons (pe_call (ok_law_cell T) (hr.mono (by decide)) (by rfl) T.g_law_cell T.F_law_cell.kp T.b_law_cell .nil pass0 (pa_cons (pv 0) (pa_cons pe_int pa_nil))) (pa_cons (pv 2) pa_nil))) pa_nil)))
      (pss_cons (ps_set (i := 4) sc_law.nd rfl (by first | exact .inl rfl | exact .inr rfl) (pe_callTy call_tuple_of (by rfl) T.m_tuple (by decide +kernel) (pa_cons (pe_call (ok_law_series T) (hr.mono (by decide)) (by rfl) T.g_law_series T.F_law_series.kp T.b_law_series .nil pass0 (pa_cons (pe_call (ok_law_cell T) (hr.mono (by decide)) (by rfl) T.g_law_cell T.F_law_cell.kp T.b_law_cell .nil pass0 (pa_cons (pv 0) (pa_cons pe_int pa_nil))) (pa_cons (pv 2) pa_nil))) pa_nil)))
      (pss_cons (ps_set (i := 5) sc_law.nd rfl (by first | exact .inl rfl | exact .inr rfl) (pe_call (ok_series_product T B) (hr.mono (by decide)) (by rfl) T.g_series_product T.F_series_product.kp T.b_series_product .nil pass0 (pa_cons (pv 3) (pa_cons (pv 4) pa_nil))))
      (pss_cons (ps_if (PW.pt (pw_or (pt_not (pt_val (pe_callB call_isi (by rfl) T.m_isinstance (by decide +kernel) (pa_cons (pv 5) (pa_cons (pe_bltn (v := .ty "tuple") (by rfl) T.m_tuple boot_tuple rfl) pa_nil))))) (pw_or (pt_cmpR (op_neD hr.units) (pv 5) (pe_call (ok_law_series_product T) (hr.mono (by decide)) (by rfl) T.g_law_series_product T.F_law_series_product.kp T.b_law_series_product .nil pass0 (pa_cons (pv 3) (pa_cons (pv 4) pa_nil))) (nomark _)) (pw_or1 (pt_not (pt_val (pe_call (ok_law_tuples T 4) (hr.mono (by decide)) (by rfl) T.g_law_tuples T.F_law_tuples.kp T.b_law_tuples .nil pass0 (pa_cons (pv 5) pa_nil)))))))) (pss_one (ps_ret pe_bl)) pss_nil)
      (pss_cons (ps_set (i := 6) sc_law.nd rfl (by first | exact .inl rfl | exact .inr rfl) (pe_op op_catA (pe_tup (pa_cons (pe_tup (pa_cons pe_int (pa_cons pe_int pa_nil))) pa_nil)) (pe_slice sl_tupA (pv 3) (po_some pe_int) po_none)))
      (pss_cons (ps_set (i := 7) sc_law.nd rfl (by first | exact .inl rfl | exact .inr rfl) (pe_op op_catA (pe_tup (pa_cons (pe_tup (pa_cons pe_int (pa_cons pe_int pa_nil))) pa_nil)) (pe_op op_repA (pe_tup (pa_cons (pe_tup (pa_cons pe_int (pa_cons pe_int pa_nil))) pa_nil)) (pv 2))))
      (pss_cons (ps_set (i := 8) sc_law.nd rfl (by first | exact .inl rfl | exact .inr rfl) (pv 7))
      (pss_cons (ps_for PassesOwn.never rfl (pi_range2 (by rfl) T.m_range (pa_cons pe_int (pa_cons (pe_op op_add (pv 2) pe_int) pa_nil))) (pg_name (i := 9) sc_law.nd rfl (by first | exact .inl rfl | exact .inr rfl)) (pss_cons (ps_set (i := 8) sc_law.nd rfl (by first | exact .inl rfl | exact .inr rfl) (pe_callTy call_tuple_of (by rfl) T.m_tuple (by decide +kernel) (pa_cons (pe_lc (own := [("entry", 10)]) (g := gName 10) (tt := tYes) rfl sc_law.nd (pi_tup (pe_call (ok_law_series_product T) (hr.mono (by decide)) (by rfl) T.g_law_series_product T.F_law_series_product.kp T.b_law_series_product .nil pass0 (pa_cons (pv 8) (pa_cons (pv 6) pa_nil)))) (blkOk_by (own := [("entry", 10)]) (N := n_law) (sc := defScope s_law) (by decide +kernel)) (fun _ _ _ _ _ => (pg_name (i := 10) sc_law.nd rfl (by first | exact .inl rfl | exact .inr rfl))) (fun _ _ _ _ _ => pts_nil) (fun _ _ _ _ _ => (pe_call (ok_law_mul T) (hr.mono (by decide)) (by rfl) T.g_law_mul T.F_law_mul.kp T.b_law_mul .nil pass0 (pa_cons (pv 10) (pa_cons (pe_tup (pa_cons pe_int (pa_cons (pv 9) pa_nil))) pa_nil))))) pa_nil)))
      (pss_one (ps_set (i := 7) sc_law.nd rfl (by first | exact .inl rfl | exact .inr rfl) (pe_callTy call_tuple_of (by rfl) T.m_tuple (by decide +kernel) (pa_cons (pe_lc (own := [("i", 11)]) (g := gName 11) (tt := tYes) rfl sc_law.nd (pi_range1 (by rfl) T.m_range (pa_cons (pe_op op_add (pv 2) pe_int) pa_nil)) (blkOk_by (own := [("i", 11)]) (N := n_law) (sc := defScope s_law) (by decide +kernel)) (fun _ _ _ _ _ => (pg_name (i := 11) sc_law.nd rfl (by first | exact .inl rfl | exact .inr rfl))) (fun _ _ _ _ _ => pts_nil) (fun _ _ _ _ _ => (pe_call (ok_law_add T) (hr.mono (by decide)) (by rfl) T.g_law_add T.F_law_add.kp T.b_law_add .nil pass0 (pa_cons (pe_ix (r := rIxT K) ix_tup (pv 7) (pv 11) (fun _ _ => rfl)) (pa_cons (pe_ix (r := rIxT K) ix_tup (pv 8) (pv 11) (fun _ _ => rfl)) pa_nil))))) pa_nil))))))
      (pss_cons (ps_set (i := 12) sc_law.nd rfl (by first | exact .inl rfl | exact .inr rfl) (pe_call (ok_exponential T) (hr.mono (by decide)) (by rfl) T.g_exponential T.F_exponential.kp T.b_exponential .nil pass0 (pa_cons (pv 6) pa_nil)))
      (pss_cons (ps_if (PW.pt (pw_or (pt_not (pt_val (pe_callB call_isi (by rfl) T.m_isinstance (by decide +kernel) (pa_cons (pv 12) (pa_cons (pe_bltn (v := .ty "tuple") (by rfl) T.m_tuple boot_tuple rfl) pa_nil))))) (pw_or (pt_cmpR (op_neD hr.units) (pv 12) (pv 7) (nomark _)) (pw_or (pt_not (pt_val (pe_call (ok_law_tuples T 4) (hr.mono (by decide)) (by rfl) T.g_law_tuples T.F_law_tuples.kp T.b_law_tuples .nil pass0 (pa_cons (pv 12) pa_nil)))) (pw_or1 (pt_cmpR (op_neD hr.units) (pe_call (ok_logarithm T B) (hr.mono (by decide)) (by rfl) T.g_logarithm T.F_logarithm.kp T.b_logarithm .nil pass0 (pa_cons (pv 12) pa_nil)) (pv 6) (nomark _))))))) (pss_one (ps_ret pe_bl)) pss_nil)
      (pss_cons (ps_set (i := 13) sc_law.nd rfl (by first | exact .inl rfl | exact .inr rfl) (pe_op op_catA (pe_tup (pa_cons (pe_tup (pa_cons pe_int (pa_cons pe_int pa_nil))) pa_nil)) (pe_slice sl_tupA (pv 4) (po_some pe_int) po_none)))
      (pss_cons (ps_set (i := 14) sc_law.nd rfl (by first | exact .inl rfl | exact .inr rfl) (pe_call (ok_logarithm T B) (hr.mono (by decide)) (by rfl) T.g_logarithm T.F_logarithm.kp T.b_logarithm .nil pass0 (pa_cons (pv 13) pa_nil)))
      (pss_one (ps_ret (pe_and (pe_callB call_isi (by rfl) T.m_isinstance (by decide +kernel) (pa_cons (pv 14) (pa_cons (pe_bltn (v := .ty "tuple") (by rfl) T.m_tuple boot_tuple rfl) pa_nil))) (pe_and (pe_call (ok_law_tuples T 4) (hr.mono (by decide)) (by rfl) T.g_law_tuples T.F_law_tuples.kp T.b_law_tuples .nil pass0 (pa_cons (pv 14) pa_nil)) (pe_and (pe_cmpR (op_eqD hr.units) (pe_ix ix_tup (pv 14) pe_int (fun _ _ => rfl)) (pe_tup (pa_cons pe_int (pa_cons pe_int pa_nil))) (nomark _)) (pe_one (pe_cmpR (op_eqD hr.units) (pe_call (ok_exponential T) (hr.mono (by decide)) (by rfl) T.g_exponential T.F_exponential.kp T.b_exponential .nil pass0 (pa_cons (pv 14) pa_nil)) (pv 13) (nomark _)))))))))))))))))))))), ?_⟩
  refine ⟨_, rfl, a, ns, 0, rfl, hS, cellZ ns 0, rfl, ?_⟩
  have c0 : 0 ≤ (if cellZ ns 0 < 0 then -cellZ ns 0 else cellZ ns 0) := by split <;> omega
  generalize (if cellZ ns 0 < 0 then -cellZ ns 0 else cellZ ns 0) = cc at *
  refine ⟨fun σ H1 => ∃ n : Nat, n ≤ 12 ∧ H1 = H ∧ σ = [some (.ref a), some (.int cc), some (.int (n : Int)), none, none, none, none, none, none, none, none, none, none, none, none], ?_, ?_⟩
  · refine ⟨_, rfl, _, _, rfl, rfl, (by decide : (0 : Int) < 16), rfl, _, rfl, iteB (fun z => ?_) (fun z => ?_)⟩
    · exact ⟨12, by decide, rfl, rfl⟩
    · refine ⟨_, rfl, _, _, rfl, rfl, ⟨by decide, by decide⟩, _, _, rfl, rfl, (by decide : (0 : Int) < 7), (cc.fdiv 16 % 7).toNat, by omega, rfl, ?_⟩
      have e : (((cc.fdiv 16 % 7).toNat : Nat) : Int) = cc.fdiv 16 % 7 := by omega
      rw [e]
      rfl
  rintro σ H0 ⟨n, hn, rfl, rfl⟩
  -- the two series
  refine ⟨_, rfl, a, ns, 1, rfl, hS, _, rfl, cellZ ns 1, n, rfl, hn, fun l1 H1 ys1 rs1 s1 nl1 hl1 hf1 len1 iz1 => ⟨l1, ys1, rfl, .inl ⟨SqL.of hl1, fun p1 hp1 => ?_⟩⟩⟩
  have x1 := ext_upd (o := .tup ys1) hp1
  have h1 : upd H1 p1 (.tup ys1) p1 = some (.tup ys1) := upd_same
  have f1 := frs_up x1 hf1
  have s01 := s1.trans x1
  generalize upd H1 p1 (.tup ys1) = H2 at *
  refine ⟨_, rfl, a, ns, 2, rfl, s01.seq hS, _, rfl, cellZ ns 2, n, rfl, hn, fun l2 H3 ys2 rs2 s3 nl2 hl2 hf2 len2 iz2 => ⟨l2, ys2, rfl, .inl ⟨SqL.of hl2, fun p2 hp2 => ?_⟩⟩⟩
  have x3 := ext_upd (o := .tup ys2) hp2
  have h2 : upd H3 p2 (.tup ys2) p2 = some (.tup ys2) := upd_same
  have f2 := frs_up x3 hf2
  have s23 := s3.trans x3
  have s03 := s01.trans s23
  have h1 := s23.at h1
  have f1 := frs_up s23 f1
  generalize upd H3 p2 (.tup ys2) = H4 at *
  dsimp only [gName]
  have gd2 : ∀ k < rs1.length, SM.Gd (co rs1 k) ∧ SM.Gd (co rs2 k) := fun k hk => ⟨SM.gd12 (iz1 k (by omega)), SM.gd12 (iz2 k (by omega))⟩
  refine ⟨_, rfl, _, rfl, p1, p2, ys1, ys2, rs1, rs2, rfl, SqT.of h1, SqT.of h2, f1, f2, by omega, by omega, G.ext s03, gd2, fun p3 H5 zs3 s5 np3 hp3 hz3 => ?_⟩
  have lz3 : ((List.range rs1.length).map (cv (co rs1) (co rs2))).length ≤ 1000 := by rw [List.length_map, List.length_range]; omega
  have s05 := s03.trans s5
  -- told
  refine ⟨_, rfl, _, _, _, _, _, rfl, .ty _, sqt_ty (SqT.of hp3), kit_ty (r := true) (by decide +kernel), _, rfl, iteF ?_⟩
  refine ⟨_, rfl, _, rfl, _, rfl, p1, p2, ys1, ys2, rs1, rs2, rfl, SqT.of (s5.at h1), SqT.of (s5.at h2), frs_up s5 f1, frs_up s5 f2, by omega, by omega, gd2, fun p4 H6 zs4 s6 np4 hp4 hz4 => ?_⟩
  have hp3' := s6.at hp3
  have hz3' := frs_up s6 hz3
  refine ⟨serD _, serD _, ser_dp (SqT.of hp3') hz3', ser_dp (SqT.of hp4) hz4, (gd_ser _).sh, (gd_ser _).sh, ?_⟩
  rw [eqv_self (gd_ser _)]
  refine ⟨_, rfl, iteF ?_⟩
  refine ⟨_, rfl, .ref p3, serD _, rfl, ser_dp (SqT.of hp3') hz3', ser_tup lz3, fun H7 s7 => ⟨_, rfl, iteF ?_⟩⟩
  have s07 := (s05.trans s6).trans s7.ext
  have s47 := (s5.trans s6).trans s7.ext
  have h1 := s47.at h1
  have h2 := s47.at h2
  have f1 := frs_up s47 f1
  have f2 := frs_up s47 f2
  clear hz4 hp4 hz3 hp3 hz3' hp3' lz3
  have so : (1 : Nat) ≤ sizeLine := sl_of (by decide)
  have I0 : SM.Iz 12 36 (0 : Rat) := SM.Iz.zero.le (Nat.zero_le _)
  have I1 : SM.Iz 12 36 (1 : Rat) := ((SM.Iz.nat 1).up 12).le (by decide)
  have izl := iz_head I0 iz1
  have izu := iz_head I1 iz2
  -- low
  refine ⟨sl2, fun t5 ht5 => ⟨so, fun p5 hp5 => ⟨_, rfl, _, rfl, ?_⟩⟩⟩
  unfold tNoPart
  have x5a := ext_upd (o := .tup [V.int 0, .int 1]) ht5
  have x5b := ext_upd (o := .tup [V.ref t5]) hp5
  have k1 : upd (upd H7 t5 (.tup [V.int 0, .int 1])) p5 (.tup [V.ref t5]) p5 = some (.tup [V.ref t5]) := upd_same
  have k2 : Fr K (upd (upd H7 t5 (.tup [V.int 0, .int 1])) p5 (.tup [V.ref t5])) t5 (fq 0) := SqT.of (x5b.at (upd_same (H := H7) (a := t5) (o := .tup [V.int 0, .int 1])))
  have x5 := x5a.trans x5b
  generalize upd (upd H7 t5 (.tup [V.int 0, .int 1])) p5 (.tup [V.ref t5]) = H8 at *
  refine slice1 (SqT.of (x5.at h1)) (frs_up x5 f1) (by omega) fun p6 H9 ys6 s9 hp6 hy6 => cat_head (s9.at k1) (s9.tup k2) hp6 hy6 (by rw [List.length_drop]; omega) fun p7 H10 ys7 s10 hp7 hy7 => ?_
  have x7 := (x5.trans s9).trans s10
  have s010 := s07.trans x7
  have h2 := x7.at h2
  have f2 := frs_up x7 f2
  clear hy6 hp6 k1 k2
  have hlow : (0 :: rs1.drop 1).length = n + 1 := by rw [List.length_cons, List.length_drop]; omega
  obtain ⟨rl, hrl⟩ : ∃ rl, rl = 0 :: rs1.drop 1 := ⟨_, rfl⟩
  rw [← hrl] at hy7 hlow izl
  have fz : co rl 0 = 0 := by rw [hrl]; rfl
  -- total
  refine ⟨sl2, fun t8 ht8 => ⟨so, fun p8 hp8 => ⟨sl2, fun t9 ht9 => ⟨so, fun p9 hp9 => ⟨_, rfl, ?_⟩⟩⟩⟩⟩
  have y1 := ext_upd (o := .tup [V.int 1, .int 1]) ht8
  have y2 := ext_upd (o := .tup [V.ref t8]) hp8
  have y3 := ext_upd (o := .tup [V.int 0, .int 1]) ht9
  have y4 := ext_upd (o := .tup [V.ref t9]) hp9
  have k1 : upd (upd (upd (upd H10 t8 (.tup [V.int 1, .int 1])) p8 (.tup [V.ref t8])) t9 (.tup [V.int 0, .int 1])) p9 (.tup [V.ref t9]) p8 = some (.tup [V.ref t8]) := (y3.trans y4).at upd_same
  have k2 : Fr K (upd (upd (upd (upd H10 t8 (.tup [V.int 1, .int 1])) p8 (.tup [V.ref t8])) t9 (.tup [V.int 0, .int 1])) p9 (.tup [V.ref t9])) t8 (fq 1) := SqT.of (((y2.trans y3).trans y4).at (upd_same (H := H10) (a := t8) (o := .tup [V.int 1, .int 1])))
  have k3 : upd (upd (upd (upd H10 t8 (.tup [V.int 1, .int 1])) p8 (.tup [V.ref t8])) t9 (.tup [V.int 0, .int 1])) p9 (.tup [V.ref t9]) p9 = some (.tup [V.ref t9]) := upd_same
  have k4 : Fr K (upd (upd (upd (upd H10 t8 (.tup [V.int 1, .int 1])) p8 (.tup [V.ref t8])) t9 (.tup [V.int 0, .int 1])) p9 (.tup [V.ref t9])) t9 (fq 0) := SqT.of (y4.at (upd_same (a := t9) (o := .tup [V.int 0, .int 1])))
  have y := ((y1.trans y2).trans y3).trans y4
  generalize upd (upd (upd (upd H10 t8 (.tup [V.int 1, .int 1])) p8 (.tup [V.ref t8])) t9 (.tup [V.int 0, .int 1])) p9 (.tup [V.ref t9]) = H11 at *
  refine rep_tup k3 k4 (by omega) fun p10 H12 ys10 s12 hp10 hy10 => cat_head (s12.at k1) (s12.tup k2) hp10 hy10 (by rw [List.length_replicate]; omega) fun p11 H13 ys11 s13 hp11 hy11 => ?_
  have y' := (y.trans s12).trans s13
  have s013 := s010.trans y'
  have h2 := y'.at h2
  have f2 := frs_up y' f2
  have hp7 := y'.tup hp7
  have hy7 := frs_up y' hy7
  clear hy10 hp10 k1 k2 k3 k4
  have e0 : (1 :: List.replicate n (0 : Rat)) = (List.range (n + 1)).map (tm (co rl) 0) := by
    refine list_of (by simp) fun k hk => ?_
    cases k with
    | zero => rfl
    | succ k =>
      rw [co_consS]
      show co (List.replicate n 0) k = if k + 1 = 0 then 1 else 0
      rw [if_neg (by omega)]
      unfold co
      rw [List.getD_eq_getElem?_getD, List.getElem?_replicate, if_pos (by omega)]
      rfl
  rw [e0] at hy11
  have gdl : ∀ k ≤ n, SM.Gd (co rl k) := fun k hk => SM.gd12 (izl k hk)
  refine ⟨_, rfl, _, rfl, _, _, rfl, rfl, _, _, rfl, by omega, for_range (lo := 1) (n := ((n : Int) + 1 - 1).toNat) (fun i σ H14 => ∃ (pt pm : Addr) (y9 : Option V) (zs ws : List V), σ = [some (.ref a), some (.int cc), some (.int (n : Int)), some (.ref p1), some (.ref p2), some (.ref p3), some (.ref p7), some (.ref pt), some (.ref pm), y9, none, none, none, none, none] ∧ Ext H13 H14 ∧ SqT K H14 pt zs ∧ FrsV K H14 zs ((List.range (n + 1)).map (tot (co rl) i)) ∧ SqT K H14 pm ws ∧ FrsV K H14 ws ((List.range (n + 1)).map (tm (co rl) i)))
    ⟨p11, p11, none, _, _, rfl, Ext.refl _, hp11, hy11, hp11, hy11⟩ (fun i σ H14 hi hP => ?_) (fun σ H14 hP => ?_)⟩
  · obtain ⟨pt, pm, y9, zs, ws, rfl, s14, hpt, hzt, hpm, hwm⟩ := hP
    have hin : i < n := by omega
    have gtm : ∀ k ≤ n, SM.Gd (tm (co rl) i k) := fun k hk => SM.tm_gd izl hn (by omega) hk
    have lr : ((List.range (n + 1)).map (tm (co rl) i)).length = n + 1 := by rw [List.length_map, List.length_range]
    have lzt := hzt.length
    rw [List.length_map, List.length_range] at lzt
    refine ⟨_, rfl, _, rfl, pm, p7, ws, ys7, _, rl, rfl, hpm, s14.tup hp7, hwm, frs_up s14 hy7, by rw [lr, hlow], by omega, fun k hk => ?_, fun pp H15 us s15 npp hpp hus => ?_⟩
    · rw [lr] at hk
      rw [co_map hk]
      exact ⟨gtm k (by omega), gdl k (by omega)⟩
    rw [lr] at hus
    have ecv : ∀ m < n + 1, cv (co ((List.range (n + 1)).map (tm (co rl) i))) (co rl) m = cv (tm (co rl) i) (co rl) m := fun m hm => SM.cv_congr (fun k hk => co_map (by omega)) fun _ _ => rfl
    have lus := hus.length
    rw [List.length_map, List.length_range] at lus
    refine ⟨pp, rfl, ⟨_, SqT.of hpp⟩, fun D hD => lc_tup (xs := us) (fun j H16 => Ext H15 H16 ∧ ∃ vs, H16 D = some (.lst vs) ∧ FrsV K H16 vs ((List.range j).map (tm (co rl) (i + 1)))) ⟨ext_upd hD, [], upd_same, .nil⟩ (fun j H16 _ h => SqT.of (h.1.at hpp)) (fun j x H16 hj hP => ?_) (fun H16 hP => ?_)⟩
    · obtain ⟨s16, vs, hvs, hv⟩ := hP
      have hjl := (List.getElem?_eq_some_iff.mp hj).1
      obtain ⟨v, hv1, va, rfl, hva⟩ := frs_at (frs_up s16 hus) (show j < ((List.range (n + 1)).map (cv (co ((List.range (n + 1)).map (tm (co rl) i))) (co rl))).length by rw [List.length_map, List.length_range]; omega)
      rw [hj] at hv1
      cases hv1
      rw [co_map (by omega), ecv j (by omega)] at hva
      refine ⟨rfl, _, rfl, _, rfl, sl2, fun t1 ht1 => ?_⟩
      have x17 := ext_upd (o := .tup [V.int 1, .int (1 + (i : Int))]) ht1
      have f17 : Fr K (upd H16 t1 (.tup [V.int 1, .int (1 + (i : Int))])) t1 (fq (1 / ((i + 1 : Nat) : Rat))) := by
        rw [SM.fq_inv, show ((i + 1 : Nat) : Int) = 1 + (i : Int) by omega]
        exact SqT.of upd_same
      have g17 := x17.tup hva
      have hvs17 := x17.lst hvs
      have hv17 := frs_up x17 hv
      have s17 := s16.trans x17
      dsimp only
      generalize upd H16 t1 (.tup [V.int 1, .int (1 + (i : Int))]) = H17 at *
      have sa : Sm (cv (tm (co rl) i) (co rl) j) := SM.ps_sm (by omega) fun k hk => ⟨gtm k (by omega), gdl _ (by omega)⟩
      have sb : Sm (1 / ((i + 1 : Nat) : Rat)) := SM.sm_of (SM.Iz.inv i) (by omega) (Nat.lt_of_lt_of_le (show i + 1 < 2 ^ 10 by omega) (SM.two_le (by decide))) (Nat.lt_of_lt_of_le (by decide : 1 < 2 ^ 10) (SM.two_le (by decide)))
      refine ⟨va, t1, _, _, rfl, g17, f17, okA_of sa sb, fun m H18 s18 nm hm => ?_⟩
      rw [SM.mulF_fq] at hm
      have lv := hv17.length
      rw [List.length_map, List.length_range] at lv
      refine ⟨vs, s18.ext.lst hvs17, sl_lt (by omega), (s17.trans s18.ext).own hD, vs ++ [.ref m], upd_same, ?_⟩
      rw [map_snoc]
      exact frs_upd (s18.ext.lst hvs17) (paired_snoc (frs_up s18.ext hv17) ⟨m, rfl, SqT.of hm⟩)
    · obtain ⟨s16, vs, hvs, hv⟩ := hP
      rw [lus] at hv
      refine ⟨D, vs, rfl, .inl ⟨SqL.of hvs, fun r hr2 => ?_⟩⟩
      have x17 := ext_upd (o := .tup vs) hr2
      have h17 : upd H16 r (.tup vs) r = some (.tup vs) := upd_same
      have hv17 := frs_up x17 hv
      have s17 := (s15.trans s16).trans x17
      dsimp only
      generalize upd H16 r (.tup vs) = H17 at *
      have hpt := s17.tup hpt
      have hzt := frs_up s17 hzt
      have lv := hv17.length
      rw [List.length_map, List.length_range] at lv
      refine ⟨_, rfl, _, _, rfl, rfl, _, rfl, by omega, by omega, fun D2 hD2 => lc_range (lo := 0) (n := ((n : Int) + 1).toNat) (fun j H18 => Ext H17 H18 ∧ ∃ us, H18 D2 = some (.lst us) ∧ FrsV K H18 us ((List.range j).map (tot (co rl) (i + 1)))) ⟨ext_upd hD2, [], upd_same, .nil⟩ (fun j H18 hj hP => ?_) (fun H18 hP => ?_)⟩
      · obtain ⟨s18, us2, hus2, hu2⟩ := hP
        rw [Int.zero_add]
        have hjn : j < n + 1 := by omega
        obtain ⟨v1, hv1, va1, rfl, hva1⟩ := frs_at (frs_up s18 hzt) (show j < ((List.range (n + 1)).map (tot (co rl) i)).length by rw [List.length_map, List.length_range]; omega)
        obtain ⟨v2, hv2, va2, rfl, hva2⟩ := frs_at (frs_up s18 hv17) (show j < ((List.range (n + 1)).map (tm (co rl) (i + 1))).length by rw [List.length_map, List.length_range]; omega)
        rw [co_map hjn] at hva1 hva2
        have sa : Sm (tot (co rl) i j) := SM.tot_sm izl hn (by omega) i (by omega)
        have sb : Sm (tm (co rl) (i + 1) j) := (SM.tm_gd izl hn (by omega) (by omega)).sm
        refine ⟨rfl, _, rfl, _, rfl, pt, zs, _, _, rfl, rfl, s18.tup hpt, atI_nat hv1, _, rfl, _, rfl, r, vs, _, _, rfl, rfl, SqT.of (s18.at h17), atI_nat hv2, va1, va2, _, _, rfl, hva1, hva2, okA_of sa sb, fun m H19 s19 nm hm => ?_⟩
        rw [SM.addF_fq] at hm
        have lu := hu2.length
        rw [List.length_map, List.length_range] at lu
        refine ⟨us2, s19.ext.lst hus2, sl_lt (by omega), (s18.trans s19.ext).own hD2, us2 ++ [.ref m], upd_same, ?_⟩
        rw [map_snoc]
        exact frs_upd (s19.ext.lst hus2) (paired_snoc (frs_up s19.ext hu2) ⟨m, rfl, SqT.of hm⟩)
      · obtain ⟨s18, us2, hus2, hu2⟩ := hP
        have en : ((n : Int) + 1).toNat = n + 1 := by omega
        rw [en] at hu2
        refine ⟨D2, us2, rfl, .inl ⟨SqL.of hus2, fun r2 hr3 => ?_⟩⟩
        have x19 := ext_upd (o := .tup us2) hr3
        have s19 := s18.trans x19
        exact ⟨r2, r, _, us2, vs, rfl, (s14.trans s17).trans s19, SqT.of upd_same, frs_up x19 hu2, SqT.of (s19.at h17), frs_up s19 hv17⟩
  · obtain ⟨pt, pm, y9, zs, ws, rfl, s14, hpt, hzt, hpm, hwm⟩ := hP
    have en : ((n : Int) + 1 - 1).toNat = n := by omega
    rw [en] at hzt
    clear hpm hwm
    have hg := SM.tot_goes fz n
    have d12 : 12 ∣ SM.M1 := Nat.dvd_trans (by decide : 12 ∣ 12 ^ 13) (Nat.dvd_mul_right _ _)
    have gdv : ∀ k < n, SM.Gd (dv (co rl) k) := fun k hk => SM.gd_of (SM.dv_iz izl hk hn) d12 (Nat.le_trans (by decide : 432 ≤ 2 ^ 10) (SM.two_le (by decide)))
    have gex : ∀ k ≤ n, SM.Gd (tot (co rl) n k) := fun k hk => SM.exp_gd izl hn hg hk
    have lmap : ∀ f : Nat → Rat, ((List.range (n + 1)).map f).length = n + 1 := fun f => by rw [List.length_map, List.length_range]
    have s014 := s013.trans s14
    refine ⟨_, rfl, p7, ys7, rl, n, tot (co rl) n, rfl, s14.tup hp7, frs_up s14 hy7, hlow, by omega, fun k hk => (gdl k hk).sm, gdv, gex, hg, fun pg H15 gs s15 npg hpg hgs => ?_⟩
    refine ⟨_, rfl, _, _, _, _, _, rfl, .ty _, sqt_ty (SqT.of hpg), kit_ty (r := true) (by decide +kernel), _, rfl, iteF ?_⟩
    refine ⟨_, rfl, _, rfl, serD _, serD _, ser_dp (SqT.of hpg) hgs, ser_dp (s15.tup hpt) (frs_up s15 hzt), (gd_ser _).sh, (gd_ser _).sh, ?_⟩
    rw [eqv_self (gd_ser _)]
    refine ⟨_, rfl, iteF ?_⟩
    refine ⟨_, rfl, .ref pg, serD _, rfl, ser_dp (SqT.of hpg) hgs, ser_tup (by rw [lmap]; omega), fun H16 s16 => ⟨_, rfl, iteF ?_⟩⟩
    have s1516 := s15.trans s16.ext
    have s016 := s014.trans s1516
    have hpg := s16.ext.at hpg
    have hgs := frs_up s16.ext hgs
    have hg2 : Goes (dv (co rl)) (co ((List.range (n + 1)).map (tot (co rl) n))) n := SM.goes_congr hg (fun _ _ => rfl) fun k hk => co_map (by omega)
    refine ⟨_, rfl, pg, gs, _, n, dv (co rl), rfl, SqT.of hpg, hgs, lmap _, by omega, G.ext s016, fun k hk => ?_, gdv, hg2, fun pl H17 ls s17 npl hpl hls => ?_⟩
    · rw [co_map (by omega)]
      exact ⟨gex k hk, SM.nat_sm (gex k hk) (by omega)⟩
    have elg : lgR (dv (co rl)) n = rl := by
      refine (list_of (n := n + 1) (by unfold lgR; rw [List.length_cons, List.length_map, List.length_range]) fun k hk => ?_).trans (list_of hlow fun k _ => rfl).symm
      cases k with
      | zero => exact fz.symm
      | succ k =>
        unfold lgR
        rw [co_consS, co_map (by omega)]
        have := SM.natc_ne k
        show ((k + 1 : Nat) : Rat) * co rl (k + 1) / ((k + 1 : Nat) : Rat) = _
        generalize ((k + 1 : Nat) : Rat) = X at *
        grind
    rw [elg] at hls
    have s1317 := (s14.trans s1516).trans s17
    refine ⟨_, rfl, serD rl, serD rl, ser_dp (SqT.of hpl) hls, ser_dp (s1317.tup hp7) (frs_up s1317 hy7), (gd_ser _).sh, (gd_ser _).sh, ?_⟩
    rw [eqv_self (gd_ser _)]
    refine ⟨_, rfl, iteF ?_⟩
    have s017 := s013.trans s1317
    have h2 := s1317.at h2
    have f2 := frs_up s1317 f2
    clear hzt hpt hgs hpg hls hpl hy7 hp7
    -- unit
    refine ⟨sl2, fun t5 ht5 => ⟨so, fun p5 hp5 => ⟨_, rfl, _, rfl, ?_⟩⟩⟩
    dsimp only
    have x5a := ext_upd (o := .tup [V.int 1, .int 1]) ht5
    have x5b := ext_upd (o := .tup [V.ref t5]) hp5
    have k1 : upd (upd H17 t5 (.tup [V.int 1, .int 1])) p5 (.tup [V.ref t5]) p5 = some (.tup [V.ref t5]) := upd_same
    have k2 : Fr K (upd (upd H17 t5 (.tup [V.int 1, .int 1])) p5 (.tup [V.ref t5])) t5 (fq 1) := SqT.of (x5b.at (upd_same (H := H17) (a := t5) (o := .tup [V.int 1, .int 1])))
    have x5 := x5a.trans x5b
    generalize upd (upd H17 t5 (.tup [V.int 1, .int 1])) p5 (.tup [V.ref t5]) = H18 at *
    refine slice1 (SqT.of (x5.at h2)) (frs_up x5 f2) (by omega) fun p6 H19 ys6 s19 hp6 hy6 => cat_head (s19.at k1) (s19.tup k2) hp6 hy6 (by rw [List.length_drop]; omega) fun pu H20 us s20 hpu hus => ?_
    have s020 := ((s017.trans x5).trans s19).trans s20
    have hulen : (1 :: rs2.drop 1).length = n + 1 := by rw [List.length_cons, List.length_drop]; omega
    obtain ⟨ru, hru⟩ : ∃ ru, ru = 1 :: rs2.drop 1 := ⟨_, rfl⟩
    rw [← hru] at hus hulen izu
    have fu : co ru 0 = 1 := by rw [hru]; rfl
    have gdu : ∀ k ≤ n, SM.Gd (co ru k) := fun k hk => SM.gd12 (izu k hk)
    obtain ⟨sl, hsl⟩ := SM.slopes_ex fu n
    have gsl : ∀ k < n, SM.Gd (sl k) := fun k hk => SM.slope_gd izu hn hsl hk
    refine ⟨_, rfl, pu, us, ru, n, sl, rfl, hpu, hus, hulen, by omega, G.ext s020, fun k hk => ⟨gdu k hk, SM.nat_sm (gdu k hk) (by omega)⟩, gsl, hsl, fun pw H21 ws s21 npw hpw hws => ?_⟩
    have llg : (lgR sl n).length = n + 1 := by unfold lgR; rw [List.length_cons, List.length_map, List.length_range]
    refine ⟨_, rfl, _, _, _, _, _, rfl, .ty _, sqt_ty (SqT.of hpw), kit_ty (r := true) (by decide +kernel), _, rfl, iteT ?_⟩
    refine ⟨_, rfl, .ref pw, serD _, rfl, ser_dp (SqT.of hpw) hws, ser_tup (by rw [llg]; omega), fun H22 s22 => ⟨_, rfl, iteT ?_⟩⟩
    have hpw := s22.ext.at hpw
    have hws := frs_up s22.ext hws
    obtain ⟨v, hv, va, rfl, hva⟩ := frs_at hws (show 0 < (lgR sl n).length by omega)
    refine ⟨_, rfl, pw, _, 0, _, rfl, rfl, SqT.of hpw, atI_nat (j := 0) hv, sl2, fun t9 ht9 => ?_⟩
    have x9 := ext_upd (o := .tup [V.int 0, .int 1]) ht9
    refine ⟨frD 0, .tuple [.int 0, .int 1], .tup (x9.tup hva) (.cons (.int _) (.cons (.int _) .nil)), .tup (SqT.of upd_same) (.cons (.int _) (.cons (.int _) .nil)), (gd_frD 0).sh, (gd_frD 0).sh, ?_⟩
    have e9 : PyData.eqv (frD 0) (.tuple [.int 0, .int 1]) = true := eqv_self (gd_frD 0)
    rw [e9]
    refine ⟨_, rfl, iteT ?_⟩
    have s2023 := (s21.trans s22.ext).trans x9
    have cl : ∀ k < n, co (lgR sl n) (k + 1) = sl k / ((k + 1 : Nat) : Rat) := fun k hk => by
      unfold lgR
      rw [co_consS, co_map hk]
    have dl : ∀ k < n, dv (co (lgR sl n)) k = sl k := fun k hk => by
      have := SM.natc_ne k
      show ((k + 1 : Nat) : Rat) * co (lgR sl n) (k + 1) = _
      rw [cl k hk]
      generalize ((k + 1 : Nat) : Rat) = X at *
      grind
    refine ⟨_, rfl, pw, ws, lgR sl n, n, co ru, rfl, x9.tup (SqT.of hpw), frs_up x9 hws, llg, by omega, fun k hk => ?_, fun k hk => by rw [dl k hk]; exact gsl k hk, gdu, SM.goes_congr hsl dl fun _ _ => rfl, fun pe H24 es s24 npe hpe hes => ?_⟩
    · cases k with
      | zero => exact sm_zero
      | succ k =>
        rw [cl k (by omega)]
        exact SM.div_sm (gsl k (by omega)) (by omega)
    rw [← list_of hulen fun k _ => rfl] at hes
    have s2024 := s2023.trans s24
    refine ⟨_, rfl, serD ru, serD ru, ser_dp (SqT.of hpe) hes, ser_dp (s2024.tup hpu) (frs_up s2024 hus), (gd_ser _).sh, (gd_ser _).sh, ?_⟩
    rw [eqv_self (gd_ser _)]
    exact q _
theorem tabG0 {H : Hp} {p : Addr} (h : H p = some (.tbl #[])) : GxR.TabG H p := ⟨#[], h, by simp [TriplesOk]⟩
end
theorem all_mk {l : PySem.W.OpenLaw} {q : Program} {w : World} {K : PySem.W.Frag} {h : Heap} {mg : Str → Option Value} {fa f0 f1 f2 f3 f4 f5 f6 f7 f8 f9 f10 f11 f12 f13 f14 f15 f16 f17 f18 f19 f20 : Addr} (X : K.In h) (G : h.Ns mainGlobals mg) (hfa : mg "law" = some (.ref fa)) (AT : LamX.AllTab q K h)
    {od0 an0 od1 an1 od2 an2 od3 an3 od4 an4 od5 an5 od6 an6 od7 an7 od8 an8 od9 an9 od10 an10 od11 an11 od12 an12 od13 an13 od14 an14 od15 an15 od16 an16 od17 an17 od18 an18 od19 an19 od20 an20 : Option Addr} {sl0 sl1 sl2 sl3 sl4 sl5 sl6 sl7 sl8 sl9 sl10 sl11 sl12 sl13 sl14 sl15 sl16 sl17 sl18 sl19 sl20 : Array (Option Value)} {oc0 kV0 dc0 pm0 ct0 cd0 oc1 kV1 dc1 pm1 ct1 cd1 oc2 kV2 dc2 pm2 ct2 cd2 oc3 kV3 dc3 pm3 ct3 cd3 oc4 kV4 dc4 pm4 ct4 cd4 oc5 kV5 dc5 pm5 ct5 oc6 kV6 dc6 pm6 ct6 cd6 oc7 kV7 dc7 pm7 ct7 cd7 oc8 kV8 dc8 pm8 ct8 oc9 kV9 dc9 pm9 ct9 cd9 oc10 kV10 dc10 pm10 ct10 cd10 oc11 kV11 dc11 pm11 ct11 cd11 oc12 kV12 dc12 pm12 ct12 cd12 oc13 kV13 dc13 pm13 ct13 cd13 oc14 kV14 dc14 pm14 ct14 cd14 oc15 kV15 dc15 pm15 ct15 cd15 oc16 kV16 dc16 pm16 ct16 cd16 oc17 kV17 dc17 pm17 ct17 cd17 oc18 kV18 dc18 pm18 ct18 cd18 oc19 kV19 dc19 pm19 ct19 cd19 oc20 kV20 dc20 pm20 ct20 cd20 : Value}
    {c5 P5 c8 P8 : Addr} {ge5 ge8 : Value} {gd5 gd8 : Option Addr} {gv5 gv8 : Array Value} {gs5 gs8 : Array (Option Value)}
    (a0 : PySem.W.nsIn K mainGlobals "fraction" = some (some (.ref f0))) (l0 : K.lookup f0 = some ⟨oc0, od0, .func (PySem.W.fnOf "fraction" "fraction" (defArgs s_fraction) (defBody s_fraction) (defScope s_fraction) .none kV0 dc0 pm0 an0 cd0 ct0), sl0⟩) (x0 : PySem.W.codeIn K cd0 "fraction" = true) (k0 : PySem.W.keepIn K (.ref f0) = true)
    (a1 : PySem.W.nsIn K mainGlobals "add" = some (some (.ref f1))) (l1 : K.lookup f1 = some ⟨oc1, od1, .func (PySem.W.fnOf "add" "add" (defArgs s_add) (defBody s_add) (defScope s_add) .none kV1 dc1 pm1 an1 cd1 ct1), sl1⟩) (x1 : PySem.W.codeIn K cd1 "add" = true) (k1 : PySem.W.keepIn K (.ref f1) = true)
    (a2 : PySem.W.nsIn K mainGlobals "subtract" = some (some (.ref f2))) (l2 : K.lookup f2 = some ⟨oc2, od2, .func (PySem.W.fnOf "subtract" "subtract" (defArgs s_subtract) (defBody s_subtract) (defScope s_subtract) .none kV2 dc2 pm2 an2 cd2 ct2), sl2⟩) (x2 : PySem.W.codeIn K cd2 "subtract" = true) (k2 : PySem.W.keepIn K (.ref f2) = true)
    (a3 : PySem.W.nsIn K mainGlobals "multiply" = some (some (.ref f3))) (l3 : K.lookup f3 = some ⟨oc3, od3, .func (PySem.W.fnOf "multiply" "multiply" (defArgs s_multiply) (defBody s_multiply) (defScope s_multiply) .none kV3 dc3 pm3 an3 cd3 ct3), sl3⟩) (x3 : PySem.W.codeIn K cd3 "multiply" = true) (k3 : PySem.W.keepIn K (.ref f3) = true)
    (a4 : PySem.W.nsIn K mainGlobals "divide" = some (some (.ref f4))) (l4 : K.lookup f4 = some ⟨oc4, od4, .func (PySem.W.fnOf "divide" "divide" (defArgs s_divide) (defBody s_divide) (defScope s_divide) .none kV4 dc4 pm4 an4 cd4 ct4), sl4⟩) (x4 : PySem.W.codeIn K cd4 "divide" = true) (k4 : PySem.W.keepIn K (.ref f4) = true)
    (a5 : PySem.W.nsIn K mainGlobals "series_product" = some (some (.ref f5))) (l5 : K.lookup f5 = some ⟨oc5, od5, .func (PySem.W.fnOf "series_product" "series_product" (defArgs s_series_product) (defBody s_series_product) (defScope s_series_product) .none kV5 dc5 pm5 an5 (.ref c5) ct5), sl5⟩) (x5 : PySem.W.codeIn K (.ref c5) "series_product" = true) (k5 : PySem.W.keepIn K (.ref f5) = true)
    (h5 : K.lookup c5 = some ⟨ge5, gd5, .fields gv5, gs5⟩) (v5 : gv5[11]? = some (.ref P5)) (n5 : K.lookup P5 = none) (e5 : PySem.W.codeHdIn K c5 P5 = true) (r5 : ((recsOf q).any fun r => r.name == ("series_product" : Str)) = true)
    (a6 : PySem.W.nsIn K mainGlobals "_sum_of_products" = some (some (.ref f6))) (l6 : K.lookup f6 = some ⟨oc6, od6, .func (PySem.W.fnOf "_sum_of_products" "_sum_of_products" (defArgs s_sum_of_products) (defBody s_sum_of_products) (defScope s_sum_of_products) .none kV6 dc6 pm6 an6 cd6 ct6), sl6⟩) (x6 : PySem.W.codeIn K cd6 "_sum_of_products" = true) (k6 : PySem.W.keepIn K (.ref f6) = true)
    (a7 : PySem.W.nsIn K mainGlobals "exponential" = some (some (.ref f7))) (l7 : K.lookup f7 = some ⟨oc7, od7, .func (PySem.W.fnOf "exponential" "exponential" (defArgs s_exponential) (defBody s_exponential) (defScope s_exponential) .none kV7 dc7 pm7 an7 cd7 ct7), sl7⟩) (x7 : PySem.W.codeIn K cd7 "exponential" = true) (k7 : PySem.W.keepIn K (.ref f7) = true)
    (a8 : PySem.W.nsIn K mainGlobals "logarithm" = some (some (.ref f8))) (l8 : K.lookup f8 = some ⟨oc8, od8, .func (PySem.W.fnOf "logarithm" "logarithm" (defArgs s_logarithm) (defBody s_logarithm) (defScope s_logarithm) .none kV8 dc8 pm8 an8 (.ref c8) ct8), sl8⟩) (x8 : PySem.W.codeIn K (.ref c8) "logarithm" = true) (k8 : PySem.W.keepIn K (.ref f8) = true)
    (h8 : K.lookup c8 = some ⟨ge8, gd8, .fields gv8, gs8⟩) (v8 : gv8[11]? = some (.ref P8)) (n8 : K.lookup P8 = none) (e8 : PySem.W.codeHdIn K c8 P8 = true) (r8 : ((recsOf q).any fun r => r.name == ("logarithm" : Str)) = true)
    (a9 : PySem.W.nsIn K mainGlobals "_with_factors" = some (some (.ref f9))) (l9 : K.lookup f9 = some ⟨oc9, od9, .func (PySem.W.fnOf "_with_factors" "_with_factors" (defArgs s_with_factors) (defBody s_with_factors) (defScope s_with_factors) .none kV9 dc9 pm9 an9 cd9 ct9), sl9⟩) (x9 : PySem.W.codeIn K cd9 "_with_factors" = true) (k9 : PySem.W.keepIn K (.ref f9) = true)
    (a10 : PySem.W.nsIn K mainGlobals "_law_cell" = some (some (.ref f10))) (l10 : K.lookup f10 = some ⟨oc10, od10, .func (PySem.W.fnOf "_law_cell" "_law_cell" (defArgs s_law_cell) (defBody s_law_cell) (defScope s_law_cell) .none kV10 dc10 pm10 an10 cd10 ct10), sl10⟩) (x10 : PySem.W.codeIn K cd10 "_law_cell" = true) (k10 : PySem.W.keepIn K (.ref f10) = true)
    (a11 : PySem.W.nsIn K mainGlobals "_law_mix" = some (some (.ref f11))) (l11 : K.lookup f11 = some ⟨oc11, od11, .func (PySem.W.fnOf "_law_mix" "_law_mix" (defArgs s_law_mix) (defBody s_law_mix) (defScope s_law_mix) .none kV11 dc11 pm11 an11 cd11 ct11), sl11⟩) (x11 : PySem.W.codeIn K cd11 "_law_mix" = true) (k11 : PySem.W.keepIn K (.ref f11) = true)
    (a12 : PySem.W.nsIn K mainGlobals "_law_row" = some (some (.ref f12))) (l12 : K.lookup f12 = some ⟨oc12, od12, .func (PySem.W.fnOf "_law_row" "_law_row" (defArgs s_law_row) (defBody s_law_row) (defScope s_law_row) .none kV12 dc12 pm12 an12 cd12 ct12), sl12⟩) (x12 : PySem.W.codeIn K cd12 "_law_row" = true) (k12 : PySem.W.keepIn K (.ref f12) = true)
    (a13 : PySem.W.nsIn K mainGlobals "_law_tuples" = some (some (.ref f13))) (l13 : K.lookup f13 = some ⟨oc13, od13, .func (PySem.W.fnOf "_law_tuples" "_law_tuples" (defArgs s_law_tuples) (defBody s_law_tuples) (defScope s_law_tuples) .none kV13 dc13 pm13 an13 cd13 ct13), sl13⟩) (x13 : PySem.W.codeIn K cd13 "_law_tuples" = true) (k13 : PySem.W.keepIn K (.ref f13) = true)
    (a14 : PySem.W.nsIn K mainGlobals "_law_gcd" = some (some (.ref f14))) (l14 : K.lookup f14 = some ⟨oc14, od14, .func (PySem.W.fnOf "_law_gcd" "_law_gcd" (defArgs s_law_gcd) (defBody s_law_gcd) (defScope s_law_gcd) .none kV14 dc14 pm14 an14 cd14 ct14), sl14⟩) (x14 : PySem.W.codeIn K cd14 "_law_gcd" = true) (k14 : PySem.W.keepIn K (.ref f14) = true)
    (a15 : PySem.W.nsIn K mainGlobals "_law_frac" = some (some (.ref f15))) (l15 : K.lookup f15 = some ⟨oc15, od15, .func (PySem.W.fnOf "_law_frac" "_law_frac" (defArgs s_law_frac) (defBody s_law_frac) (defScope s_law_frac) .none kV15 dc15 pm15 an15 cd15 ct15), sl15⟩) (x15 : PySem.W.codeIn K cd15 "_law_frac" = true) (k15 : PySem.W.keepIn K (.ref f15) = true)
    (a16 : PySem.W.nsIn K mainGlobals "_law_add" = some (some (.ref f16))) (l16 : K.lookup f16 = some ⟨oc16, od16, .func (PySem.W.fnOf "_law_add" "_law_add" (defArgs s_law_add) (defBody s_law_add) (defScope s_law_add) .none kV16 dc16 pm16 an16 cd16 ct16), sl16⟩) (x16 : PySem.W.codeIn K cd16 "_law_add" = true) (k16 : PySem.W.keepIn K (.ref f16) = true)
    (a17 : PySem.W.nsIn K mainGlobals "_law_mul" = some (some (.ref f17))) (l17 : K.lookup f17 = some ⟨oc17, od17, .func (PySem.W.fnOf "_law_mul" "_law_mul" (defArgs s_law_mul) (defBody s_law_mul) (defScope s_law_mul) .none kV17 dc17 pm17 an17 cd17 ct17), sl17⟩) (x17 : PySem.W.codeIn K cd17 "_law_mul" = true) (k17 : PySem.W.keepIn K (.ref f17) = true)
    (a18 : PySem.W.nsIn K mainGlobals "_law_series" = some (some (.ref f18))) (l18 : K.lookup f18 = some ⟨oc18, od18, .func (PySem.W.fnOf "_law_series" "_law_series" (defArgs s_law_series) (defBody s_law_series) (defScope s_law_series) .none kV18 dc18 pm18 an18 cd18 ct18), sl18⟩) (x18 : PySem.W.codeIn K cd18 "_law_series" = true) (k18 : PySem.W.keepIn K (.ref f18) = true)
    (a19 : PySem.W.nsIn K mainGlobals "_law_series_product" = some (some (.ref f19))) (l19 : K.lookup f19 = some ⟨oc19, od19, .func (PySem.W.fnOf "_law_series_product" "_law_series_product" (defArgs s_law_series_product) (defBody s_law_series_product) (defScope s_law_series_product) .none kV19 dc19 pm19 an19 cd19 ct19), sl19⟩) (x19 : PySem.W.codeIn K cd19 "_law_series_product" = true) (k19 : PySem.W.keepIn K (.ref f19) = true)
    (a20 : PySem.W.nsIn K mainGlobals "law" = some (some (.ref f20))) (l20 : K.lookup f20 = some ⟨oc20, od20, .func (PySem.W.fnOf "law" "law" (defArgs s_law) (defBody s_law) (defScope s_law) .none kV20 dc20 pm20 an20 cd20 ct20), sl20⟩) (x20 : PySem.W.codeIn K cd20 "law" = true) (k20 : PySem.W.keepIn K (.ref f20) = true)
    (i_gcd : PySem.W.nsIn K mainGlobals "gcd" = some (some (.builtin "math.gcd")))
    (z_abs : PySem.W.nsIn K mainGlobals "abs" = some none)
    (z_all : PySem.W.nsIn K mainGlobals "all" = some none)
    (z_bool : PySem.W.nsIn K mainGlobals "bool" = some none)
    (z_enumerate : PySem.W.nsIn K mainGlobals "enumerate" = some none)
    (z_int : PySem.W.nsIn K mainGlobals "int" = some none)
    (z_isinstance : PySem.W.nsIn K mainGlobals "isinstance" = some none)
    (z_len : PySem.W.nsIn K mainGlobals "len" = some none)
    (z_range : PySem.W.nsIn K mainGlobals "range" = some none)
    (z_tuple : PySem.W.nsIn K mainGlobals "tuple" = some none) :
    LamX.LawAtS l w K CX0 8 63 "script" mg fa h := by
  have e := hfa.symm.trans (PySem.W.mg_of X G a20)
  cases e
  have F0 := fun_mk (st := s_fraction) l0 x0 k0
  have b0 := F0.binds (ps := ["numerator", "denominator"]) fun _ _ _ _ _ _ us hl => match us, hl with | [_, _], _ => rfl
  have F1 := fun_mk (st := s_add) l1 x1 k1
  have b1 := F1.binds (ps := ["a", "b"]) fun _ _ _ _ _ _ us hl => match us, hl with | [_, _], _ => rfl
  have F2 := fun_mk (st := s_subtract) l2 x2 k2
  have b2 := F2.binds (ps := ["a", "b"]) fun _ _ _ _ _ _ us hl => match us, hl with | [_, _], _ => rfl
  have F3 := fun_mk (st := s_multiply) l3 x3 k3
  have b3 := F3.binds (ps := ["a", "b"]) fun _ _ _ _ _ _ us hl => match us, hl with | [_, _], _ => rfl
  have F4 := fun_mk (st := s_divide) l4 x4 k4
  have b4 := F4.binds (ps := ["a", "b"]) fun _ _ _ _ _ _ us hl => match us, hl with | [_, _], _ => rfl
  have F5 := funC_mk (st := s_series_product) l5 x5 k5
  have b5 := F5.binds (ps := ["first", "second"]) fun _ _ _ _ _ _ us hl => match us, hl with | [_, _], _ => rfl
  have F6 := fun_mk (st := s_sum_of_products) l6 x6 k6
  have b6 := F6.binds (ps := ["first", "second", "order"]) fun _ _ _ _ _ _ us hl => match us, hl with | [_, _, _], _ => rfl
  have F7 := fun_mk (st := s_exponential) l7 x7 k7
  have b7 := F7.binds (ps := ["series"]) fun _ _ _ _ _ _ us hl => match us, hl with | [_], _ => rfl
  have F8 := funC_mk (st := s_logarithm) l8 x8 k8
  have b8 := F8.binds (ps := ["series"]) fun _ _ _ _ _ _ us hl => match us, hl with | [_], _ => rfl
  have F9 := fun_mk (st := s_with_factors) l9 x9 k9
  have b9 := F9.binds (ps := ["series"]) fun _ _ _ _ _ _ us hl => match us, hl with | [_], _ => rfl
  have F10 := fun_mk (st := s_law_cell) l10 x10 k10
  have b10 := F10.binds (ps := ["script", "k"]) fun _ _ _ _ _ _ us hl => match us, hl with | [_, _], _ => rfl
  have F11 := fun_mk (st := s_law_mix) l11 x11 k11
  have b11 := F11.binds (ps := ["cell", "k"]) fun _ _ _ _ _ _ us hl => match us, hl with | [_, _], _ => rfl
  have F12 := fun_mk (st := s_law_row) l12 x12 k12
  have b12 := F12.binds (ps := ["cell", "count", "bound"]) fun _ _ _ _ _ _ us hl => match us, hl with | [_, _, _], _ => rfl
  have F13 := fun_mk (st := s_law_tuples) l13 x13 k13
  have b13 := F13.binds (ps := ["thing"]) fun _ _ _ _ _ _ us hl => match us, hl with | [_], _ => rfl
  have F14 := fun_mk (st := s_law_gcd) l14 x14 k14
  have b14 := F14.binds (ps := ["a", "b"]) fun _ _ _ _ _ _ us hl => match us, hl with | [_, _], _ => rfl
  have F15 := fun_mk (st := s_law_frac) l15 x15 k15
  have b15 := F15.binds (ps := ["a", "b"]) fun _ _ _ _ _ _ us hl => match us, hl with | [_, _], _ => rfl
  have F16 := fun_mk (st := s_law_add) l16 x16 k16
  have b16 := F16.binds (ps := ["p", "q"]) fun _ _ _ _ _ _ us hl => match us, hl with | [_, _], _ => rfl
  have F17 := fun_mk (st := s_law_mul) l17 x17 k17
  have b17 := F17.binds (ps := ["p", "q"]) fun _ _ _ _ _ _ us hl => match us, hl with | [_, _], _ => rfl
  have F18 := fun_mk (st := s_law_series) l18 x18 k18
  have b18 := F18.binds (ps := ["cell", "order"]) fun _ _ _ _ _ _ us hl => match us, hl with | [_, _], _ => rfl
  have F19 := fun_mk (st := s_law_series_product) l19 x19 k19
  have b19 := F19.binds (ps := ["first", "second"]) fun _ _ _ _ _ _ us hl => match us, hl with | [_, _], _ => rfl
  have F20 := fun_mk (st := s_law) l20 x20 k20
  let T : Top K mg := ⟨f0, _, F0, b0, PySem.W.mg_of X G a0, f1, _, F1, b1, PySem.W.mg_of X G a1, f2, _, F2, b2, PySem.W.mg_of X G a2, f3, _, F3, b3, PySem.W.mg_of X G a3, f4, _, F4, b4, PySem.W.mg_of X G a4, f5, _, c5, P5, F5, b5, PySem.W.mg_of X G a5, f6, _, F6, b6, PySem.W.mg_of X G a6, f7, _, F7, b7, PySem.W.mg_of X G a7, f8, _, c8, P8, F8, b8, PySem.W.mg_of X G a8, f9, _, F9, b9, PySem.W.mg_of X G a9, f10, _, F10, b10, PySem.W.mg_of X G a10, f11, _, F11, b11, PySem.W.mg_of X G a11, f12, _, F12, b12, PySem.W.mg_of X G a12, f13, _, F13, b13, PySem.W.mg_of X G a13, f14, _, F14, b14, PySem.W.mg_of X G a14, f15, _, F15, b15, PySem.W.mg_of X G a15, f16, _, F16, b16, PySem.W.mg_of X G a16, f17, _, F17, b17, PySem.W.mg_of X G a17, f18, _, F18, b18, PySem.W.mg_of X G a18, f19, _, F19, b19, PySem.W.mg_of X G a19, PySem.W.mg_of X G i_gcd, PySem.W.mg_none_of X G z_abs, PySem.W.mg_none_of X G z_all, PySem.W.mg_none_of X G z_bool, PySem.W.mg_none_of X G z_enumerate, PySem.W.mg_none_of X G z_int, PySem.W.mg_none_of X G z_isinstance, PySem.W.mg_none_of X G z_len, PySem.W.mg_none_of X G z_range, PySem.W.mg_none_of X G z_tuple⟩
  refine ⟨_, [(c5, P5), (c8, P8)], spLaw T, ?_, ?_, ?_, fun s u => .of_eq rfl, fun H a ns hl hb ht hS => law_in T H a ns hl hb ⟨tabG0 (ht (c5, P5) (by simp)), tabG0 (ht (c8, P8) (by simp))⟩ hS, fun base _ _ tb => ok_law F20 T ⟨tb (c5, P5) (by simp), tb (c8, P8) (by simp)⟩⟩
  · intro p hp
    simp only [List.mem_cons, List.not_mem_nil, or_false] at hp
    rcases hp with rfl | rfl
    · exact AT "series_product" f5 c5 P5 _ _ _ _ _ _ r5 a5 l5 rfl rfl h5 v5
    · exact AT "logarithm" f8 c8 P8 _ _ _ _ _ _ r8 a8 l8 rfl rfl h8 v8
  · intro p hp
    simp only [List.mem_cons, List.not_mem_nil, or_false] at hp
    rcases hp with rfl | rfl
    · exact n5
    · exact n8
  · intro p hp
    simp only [List.mem_cons, List.not_mem_nil, or_false] at hp
    rcases hp with rfl | rfl
    · exact PySem.W.codeHd_of_K X e5
    · exact PySem.W.codeHd_of_K X e8
end KP
open PySem PySem.W PyProof.Rows
set_option maxHeartbeats 0 in
theorem PySem.Challenge.cw_spinfield_k43_series_holds : PySem.Challenge.rw_spinfield_k43_series.Holds := by
  w_on; o_law; k_head; (case hw => w_witness2)
  k_fill
  refine LamX.walk_ofAll (l := PySem.Challenge.rw_spinfield_k43_series) (n := 63) (k := 8) (x := "script") (CX := fun _ => L2.CX0) rfl (by decide) rfl ⟨rfl, by decide, by decide⟩ (fun w h Y => PySem.W.kIn_of Y) ?F (fun _ _ _ _ _ h => h)
  case F =>
    intro w mg fa h Y KX G hmg AT
    refine' KP.all_mk KX G hmg AT ?a0 ?l0 ?x0 ?k0 ?a1 ?l1 ?x1 ?k1 ?a2 ?l2 ?x2 ?k2 ?a3 ?l3 ?x3 ?k3 ?a4 ?l4 ?x4 ?k4 ?a5 ?l5 ?x5 ?k5 ?h5 ?v5 ?n5 ?e5 ?r5 ?a6 ?l6 ?x6 ?k6 ?a7 ?l7 ?x7 ?k7 ?a8 ?l8 ?x8 ?k8 ?h8 ?v8 ?n8 ?e8 ?r8 ?a9 ?l9 ?x9 ?k9 ?a10 ?l10 ?x10 ?k10 ?a11 ?l11 ?x11 ?k11 ?a12 ?l12 ?x12 ?k12 ?a13 ?l13 ?x13 ?k13 ?a14 ?l14 ?x14 ?k14 ?a15 ?l15 ?x15 ?k15 ?a16 ?l16 ?x16 ?k16 ?a17 ?l17 ?x17 ?k17 ?a18 ?l18 ?x18 ?k18 ?a19 ?l19 ?x19 ?k19 ?a20 ?l20 ?x20 ?k20 ?i_gcd ?z_abs ?z_all ?z_bool ?z_enumerate ?z_int ?z_isinstance ?z_len ?z_range ?z_tuple
    (case a0 => k_is); (case l0 => k_is); (case x0 => k_is); (case k0 => k_is); (case a1 => k_is); (case l1 => k_is); (case x1 => k_is); (case k1 => k_is); (case a2 => k_is); (case l2 => k_is); (case x2 => k_is); (case k2 => k_is); (case a3 => k_is); (case l3 => k_is); (case x3 => k_is); (case k3 => k_is); (case a4 => k_is); (case l4 => k_is); (case x4 => k_is); (case k4 => k_is); (case a5 => k_is); (case l5 => k_is); (case x5 => k_is); (case k5 => k_is); (case h5 => k_is); (case a6 => k_is); (case l6 => k_is); (case x6 => k_is); (case k6 => k_is); (case a7 => k_is); (case l7 => k_is); (case x7 => k_is); (case k7 => k_is); (case a8 => k_is); (case l8 => k_is); (case x8 => k_is); (case k8 => k_is); (case h8 => k_is); (case a9 => k_is); (case l9 => k_is); (case x9 => k_is); (case k9 => k_is); (case a10 => k_is); (case l10 => k_is); (case x10 => k_is); (case k10 => k_is); (case a11 => k_is); (case l11 => k_is); (case x11 => k_is); (case k11 => k_is); (case a12 => k_is); (case l12 => k_is); (case x12 => k_is); (case k12 => k_is); (case a13 => k_is); (case l13 => k_is); (case x13 => k_is); (case k13 => k_is); (case a14 => k_is); (case l14 => k_is); (case x14 => k_is); (case k14 => k_is); (case a15 => k_is); (case l15 => k_is); (case x15 => k_is); (case k15 => k_is); (case a16 => k_is); (case l16 => k_is); (case x16 => k_is); (case k16 => k_is); (case a17 => k_is); (case l17 => k_is); (case x17 => k_is); (case k17 => k_is); (case a18 => k_is); (case l18 => k_is); (case x18 => k_is); (case k18 => k_is); (case a19 => k_is); (case l19 => k_is); (case x19 => k_is); (case k19 => k_is); (case a20 => k_is); (case l20 => k_is); (case x20 => k_is); (case k20 => k_is); (case i_gcd => k_is); (case z_abs => k_is); (case z_all => k_is); (case z_bool => k_is); (case z_enumerate => k_is); (case z_int => k_is); (case z_isinstance => k_is); (case z_len => k_is); (case z_range => k_is); (case z_tuple => k_is)
    (case v5 => exact rfl); (case n5 => kernel_rfl); (case e5 => kernel_rfl); (case r5 => kernel_rfl); (case v8 => exact rfl); (case n8 => kernel_rfl); (case e8 => kernel_rfl); (case r8 => kernel_rfl)
