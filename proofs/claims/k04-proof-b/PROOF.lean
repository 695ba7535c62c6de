import PyProof.Rows.All
import Wide.All
import OpenK.AllK
import Wide.FinOn
import HandS.ForMost
import HandS.Wide
import HandS.Gcd
import HandS.CallLocal
import HandS.IsInst
import HandS.Codes
import KE.KBits
import PySem.Challenge.RW_spinfield_k04_fractions
set_option Elab.async false
set_option linter.all false
set_option maxRecDepth 100000
set_option maxHeartbeats 4000000
namespace K04
def gs (n d : Int) : Int := if d < 0 then -((Nat.gcd n.natAbs d.natAbs : Nat) : Int) else ((Nat.gcd n.natAbs d.natAbs : Nat) : Int)
def F (n d : Int) : Int × Int := (n.fdiv (gs n d), d.fdiv (gs n d))
theorem gs_ne {n d : Int} (h : d ≠ 0) : gs n d ≠ 0 := by
  have h1 : Nat.gcd n.natAbs d.natAbs ≠ 0 := fun e => by
    have := (Nat.gcd_eq_zero_iff.mp e).2
    omega
  unfold gs
  split <;> omega
theorem gs_abs (n d : Int) : (gs n d).natAbs = Nat.gcd n.natAbs d.natAbs := by
  unfold gs
  split <;> omega
theorem gs_dvd1 (n d : Int) : gs n d ∣ n := by
  rw [← Int.natAbs_dvd_natAbs, gs_abs]
  exact Nat.gcd_dvd_left _ _
theorem gs_dvd2 (n d : Int) : gs n d ∣ d := by
  rw [← Int.natAbs_dvd_natAbs, gs_abs]
  exact Nat.gcd_dvd_right _ _
theorem gs_le (n : Int) {d : Int} (h : d ≠ 0) : (gs n d).natAbs ≤ d.natAbs := by
  rw [gs_abs]
  exact Nat.gcd_le_right _ (by omega)
theorem fdiv_of {n g m : Int} (hg : g ≠ 0) (h : n = g * m) : n.fdiv g = m := by
  rw [h, Int.mul_fdiv_cancel_left _ hg]
theorem gs_sign (n : Int) {d : Int} (h : d ≠ 0) : (0 < gs n d ∧ 0 < d) ∨ (gs n d < 0 ∧ d < 0) := by
  have h0 := gs_ne (n := n) h
  unfold gs at *
  split
  · rename_i hd
    rw [if_pos hd] at h0
    omega
  · rename_i hd
    rw [if_neg hd] at h0
    omega
theorem F_parts (n : Int) {d : Int} (h : d ≠ 0) : ∃ a b : Int, F n d = (a, b) ∧ n = gs n d * a ∧ d = gs n d * b ∧ 0 < b := by
  obtain ⟨a, ha⟩ := gs_dvd1 n d
  obtain ⟨b, hb⟩ := gs_dvd2 n d
  have hg := gs_ne (n := n) h
  refine ⟨a, b, ?_, ha, hb, ?_⟩
  · unfold F
    rw [fdiv_of hg ha, fdiv_of hg hb]
  · rcases gs_sign n h with ⟨h1, h2⟩ | ⟨h1, h2⟩
    · rw [hb] at h2
      exact Int.pos_of_mul_pos_right h2 h1
    · rw [hb] at h2
      rcases Int.lt_trichotomy b 0 with hx | hx | hx
      · have := Int.mul_pos_of_neg_of_neg h1 hx
        omega
      · subst hx
        omega
      · exact hx
theorem gs_scale {k n d : Int} (hk : k ≠ 0) (hd : d ≠ 0) : gs (k * n) (k * d) = k * gs n d := by
  have e : Nat.gcd (k * n).natAbs (k * d).natAbs = k.natAbs * Nat.gcd n.natAbs d.natAbs := by
    rw [Int.natAbs_mul, Int.natAbs_mul, Nat.gcd_mul_left]
  have hkd : k * d ≠ 0 := Int.mul_ne_zero hk hd
  have a1 := gs_abs (k * n) (k * d)
  rw [e, ← gs_abs n d, ← Int.natAbs_mul] at a1
  rcases Int.natAbs_eq_natAbs_iff.mp a1 with h | h
  · exact h
  · exfalso
    have s1 := gs_sign (k * n) hkd
    have s2 := gs_sign n hd
    rw [h] at s1
    rcases Int.lt_or_gt_of_ne hk with hk | hk
    · rcases s2 with ⟨x, y⟩ | ⟨x, y⟩
      · have := Int.mul_neg_of_neg_of_pos hk x
        have := Int.mul_neg_of_neg_of_pos hk y
        omega
      · have := Int.mul_pos_of_neg_of_neg hk x
        have := Int.mul_pos_of_neg_of_neg hk y
        omega
    · rcases s2 with ⟨x, y⟩ | ⟨x, y⟩
      · have := Int.mul_pos hk x
        have := Int.mul_pos hk y
        omega
      · have := Int.mul_neg_of_pos_of_neg hk x
        have := Int.mul_neg_of_pos_of_neg hk y
        omega
theorem F_scale {k n d : Int} (hk : k ≠ 0) (hd : d ≠ 0) : F (k * n) (k * d) = F n d := by
  obtain ⟨a, b, e, ha, hb, _⟩ := F_parts n hd
  rw [e]
  have hg := gs_ne (n := n) hd
  have hkg : k * gs n d ≠ 0 := Int.mul_ne_zero hk hg
  unfold F
  rw [gs_scale hk hd, fdiv_of hkg (show k * n = k * gs n d * a by rw [Int.mul_assoc, ← ha]), fdiv_of hkg (show k * d = k * gs n d * b by rw [Int.mul_assoc, ← hb])]
theorem F_eq {n d n' d' : Int} (hd : d ≠ 0) (hd' : d' ≠ 0) (h : n * d' = n' * d) : F n d = F n' d' := by
  rw [← F_scale (k := d') hd' hd, ← F_scale (k := d) (n := n') (d := d') hd hd']
  rw [show d' * n = d * n' by rw [Int.mul_comm d' n, h, Int.mul_comm], Int.mul_comm d' d]
theorem F_cross (n : Int) {d : Int} (h : d ≠ 0) : (F n d).1 * d = n * (F n d).2 := by
  obtain ⟨a, b, e, ha, hb, _⟩ := F_parts n h
  rw [e]
  show a * d = n * b
  calc a * d = a * (gs n d * b) := by rw [← hb]
    _ = (gs n d * a) * b := by grind
    _ = n * b := by rw [← ha]
theorem F_pos (n : Int) {d : Int} (h : d ≠ 0) : 0 < (F n d).2 := by
  obtain ⟨a, b, e, ha, hb, p⟩ := F_parts n h
  rw [e]
  exact p
theorem F_le1 (n : Int) {d : Int} (h : d ≠ 0) : (F n d).1.natAbs ≤ n.natAbs := by
  obtain ⟨a, b, e, ha, hb, p⟩ := F_parts n h
  rw [e]
  have hg := gs_ne (n := n) h
  have h1 : 1 ≤ (gs n d).natAbs := by omega
  have h2 : n.natAbs = (gs n d).natAbs * a.natAbs := by
    rw [← Int.natAbs_mul, ← ha]
  rw [h2]
  exact Nat.le_mul_of_pos_left _ h1
theorem F_le2 (n : Int) {d : Int} (h : d ≠ 0) : (F n d).2.natAbs ≤ d.natAbs := by
  obtain ⟨a, b, e, ha, hb, p⟩ := F_parts n h
  rw [e]
  have hg := gs_ne (n := n) h
  have h1 : 1 ≤ (gs n d).natAbs := by omega
  have h2 : d.natAbs = (gs n d).natAbs * b.natAbs := by
    rw [← Int.natAbs_mul, ← hb]
  rw [h2]
  exact Nat.le_mul_of_pos_left _ h1
theorem F_zero (n : Int) {d : Int} (h : d ≠ 0) : (F n d).1 = 0 ↔ n = 0 := by
  have c := F_cross n h
  have p := F_pos n h
  constructor
  · intro e
    rw [e, Int.zero_mul] at c
    rcases Int.mul_eq_zero.mp c.symm with z | z
    · exact z
    · omega
  · intro e
    subst e
    rw [Int.zero_mul] at c
    rcases Int.mul_eq_zero.mp c with z | z
    · exact z
    · omega
/-! what the operations give -/
def addF (p q : Int × Int) : Int × Int := F (p.1 * q.2 + q.1 * p.2) (p.2 * q.2)
def subF (p q : Int × Int) : Int × Int := F (p.1 * q.2 - q.1 * p.2) (p.2 * q.2)
def mulF (p q : Int × Int) : Int × Int := F (p.1 * q.1) (p.2 * q.2)
def divF (p q : Int × Int) : Int × Int := F (p.1 * q.2) (p.2 * q.1)
theorem addF_F {a b c d : Int} (hb : b ≠ 0) (hd : d ≠ 0) : addF (F a b) (F c d) = F (a * d + c * b) (b * d) := by
  have c1 := F_cross a hb
  have c2 := F_cross c hd
  have p1 := F_pos a hb
  have p2 := F_pos c hd
  unfold addF
  refine F_eq (Int.ne_of_gt (Int.mul_pos p1 p2)) (Int.mul_ne_zero hb hd) ?_
  generalize F a b = p at *
  generalize F c d = q at *
  grind
theorem subF_F {a b c d : Int} (hb : b ≠ 0) (hd : d ≠ 0) : subF (F a b) (F c d) = F (a * d - c * b) (b * d) := by
  have c1 := F_cross a hb
  have c2 := F_cross c hd
  have p1 := F_pos a hb
  have p2 := F_pos c hd
  unfold subF
  refine F_eq (Int.ne_of_gt (Int.mul_pos p1 p2)) (Int.mul_ne_zero hb hd) ?_
  generalize F a b = p at *
  generalize F c d = q at *
  grind
theorem mulF_F {a b c d : Int} (hb : b ≠ 0) (hd : d ≠ 0) : mulF (F a b) (F c d) = F (a * c) (b * d) := by
  have c1 := F_cross a hb
  have c2 := F_cross c hd
  have p1 := F_pos a hb
  have p2 := F_pos c hd
  unfold mulF
  refine F_eq (Int.ne_of_gt (Int.mul_pos p1 p2)) (Int.mul_ne_zero hb hd) ?_
  generalize F a b = p at *
  generalize F c d = q at *
  grind
theorem divF_F {a b c d : Int} (hb : b ≠ 0) (hd : d ≠ 0) (hc : c ≠ 0) : divF (F a b) (F c d) = F (a * d) (b * c) := by
  have c1 := F_cross a hb
  have c2 := F_cross c hd
  have p1 := F_pos a hb
  have p2 := F_pos c hd
  have z := F_zero c hd
  unfold divF
  refine F_eq (Int.mul_ne_zero (Int.ne_of_gt p1) (fun e => hc (z.mp e))) (Int.mul_ne_zero hb hc) ?_
  generalize F a b = p at *
  generalize F c d = q at *
  grind
theorem F_one : F 1 1 = (1, 1) := by decide
theorem cmp_F {a b c d : Int} (hb : 0 < b) (hd : 0 < d) : ((F a b).1 * (F c d).2 < (F c d).1 * (F a b).2 ↔ a * d < c * b) := by
  have c1 := F_cross a (Int.ne_of_gt hb)
  have c2 := F_cross c (Int.ne_of_gt hd)
  have p1 := F_pos a (Int.ne_of_gt hb)
  have p2 := F_pos c (Int.ne_of_gt hd)
  generalize F a b = p at *
  generalize F c d = q at *
  have e : (p.1 * q.2 - q.1 * p.2) * (b * d) = (a * d - c * b) * (p.2 * q.2) := by grind
  have h1 : 0 < b * d := Int.mul_pos hb hd
  have h2 : 0 < p.2 * q.2 := Int.mul_pos p1 p2
  constructor
  · intro h
    have h3 : p.1 * q.2 - q.1 * p.2 < 0 := by omega
    have h4 := Int.mul_neg_of_neg_of_pos h3 h1
    rw [e] at h4
    rcases Int.lt_or_le (a * d - c * b) 0 with x | x
    · omega
    · have := Int.mul_nonneg x (Int.le_of_lt h2)
      omega
  · intro h
    have h3 : a * d - c * b < 0 := by omega
    have h4 := Int.mul_neg_of_neg_of_pos h3 h2
    rw [← e] at h4
    rcases Int.lt_or_le (p.1 * q.2 - q.1 * p.2) 0 with x | x
    · omega
    · have := Int.mul_nonneg x (Int.le_of_lt h1)
      omega
/-! powers -/
def pwF (n d : Int) (k : Nat) : Int × Int := F (n ^ k) (d ^ k)
theorem pow_ne {d : Int} (h : d ≠ 0) (k : Nat) : d ^ k ≠ 0 := Int.pow_ne_zero h
theorem pwF_mul {n d : Int} (h : d ≠ 0) (i j : Nat) : mulF (pwF n d i) (pwF n d j) = pwF n d (i + j) := by
  unfold pwF
  rw [mulF_F (pow_ne h i) (pow_ne h j), Int.pow_add, Int.pow_add]
theorem pwF_zero (n d : Int) : pwF n d 0 = (1, 1) := by
  unfold pwF
  rw [Int.pow_zero, Int.pow_zero]
  exact F_one
theorem pwF_one (n d : Int) : pwF n d 1 = F n d := by
  unfold pwF
  rw [Int.pow_succ, Int.pow_zero, Int.one_mul, Int.pow_succ, Int.pow_zero, Int.one_mul]
theorem pow_lt {n : Int} {b : Nat} (h : n.natAbs < 2 ^ b) : ∀ k : Nat, (n ^ k).natAbs < 2 ^ (b * k + 1)
  | 0 => by simp
  | k + 1 => by
    have ih := pow_lt h k
    rw [Int.pow_succ, Int.natAbs_mul]
    have h2 : (n ^ k).natAbs * n.natAbs < 2 ^ (b * k + 1) * 2 ^ b := Nat.mul_lt_mul'' ih h
    rw [← Nat.pow_add] at h2
    have e : b * (k + 1) + 1 = b * k + 1 + b := by
      rw [Nat.mul_add]
      omega
    rw [e]
    exact h2
theorem pwF_lt1 {n d : Int} (h : d ≠ 0) {b : Nat} (hn : n.natAbs < 2 ^ b) (k : Nat) : (pwF n d k).1.natAbs < 2 ^ (b * k + 1) :=
  Nat.lt_of_le_of_lt (F_le1 _ (pow_ne h k)) (pow_lt hn k)
theorem pwF_lt2 {n d : Int} (h : d ≠ 0) {b : Nat} (hd : d.natAbs < 2 ^ b) (k : Nat) : (pwF n d k).2.natAbs < 2 ^ (b * k + 1) :=
  Nat.lt_of_le_of_lt (F_le2 _ (pow_ne h k)) (pow_lt hd k)
/-- 1 / x of a power -/
theorem F_flip {a b : Int} (ha : a ≠ 0) (hb : b ≠ 0) : F (F a b).2 (F a b).1 = F b a := by
  have c := F_cross a hb
  have z := F_zero a hb
  have p := F_pos a hb
  refine F_eq (fun e => ha (z.mp e)) ha ?_
  rw [Int.mul_comm, ← c, Int.mul_comm]
/-! gcd by remainders -/
theorem gcd_step (a b : Int) : Nat.gcd b.natAbs (a.fmod b).natAbs = Nat.gcd a.natAbs b.natAbs := by
  have e : a = a.fmod b + b * a.fdiv b := by
    have := Int.mul_fdiv_add_fmod a b
    omega
  have h : Int.gcd b (a.fmod b) = Int.gcd a b := by
    rw [Int.gcd_comm a b]
    conv => rhs; rw [e]
    rw [Int.gcd_add_mul_left_right]
  exact h
theorem fmod_small {a b : Int} (h : b ≠ 0) : (a.fmod b).natAbs < b.natAbs := by
  rcases Int.lt_or_gt_of_ne h with h | h
  · have e := Int.neg_fmod_neg a b
    have h1 := Int.fmod_nonneg_of_pos (-a) (show 0 < -b by omega)
    have h2 := Int.fmod_lt_of_pos (-a) (show 0 < -b by omega)
    omega
  · have h1 := Int.fmod_nonneg_of_pos a h
    have h2 := Int.fmod_lt_of_pos a h
    omega
end K04
namespace KP
open PySem PySem.Spec PyProof.Rows L2
/-! ### the text -/
def topS (i : Nat) : Stmt := PySem.Challenge.pw_spinfield_k04_fractions.main.body.getD i (.Pass ⟨0, 0, 0, 0⟩)
abbrev s_fraction : Stmt := topS 2
abbrev n_fraction : List Str := ["numerator", "denominator", "divisor"]
theorem sc_fraction : FnScope n_fraction ["numerator", "denominator"] (defScope s_fraction) := ⟨rfl, rfl, rfl, by decide +kernel, rfl, by decide +kernel, by decide +kernel⟩
abbrev s_add : Stmt := topS 3
abbrev n_add : List Str := ["a", "b"]
theorem sc_add : FnScope n_add ["a", "b"] (defScope s_add) := ⟨rfl, rfl, rfl, by decide +kernel, rfl, by decide +kernel, by decide +kernel⟩
abbrev s_subtract : Stmt := topS 4
abbrev n_subtract : List Str := ["a", "b"]
theorem sc_subtract : FnScope n_subtract ["a", "b"] (defScope s_subtract) := ⟨rfl, rfl, rfl, by decide +kernel, rfl, by decide +kernel, by decide +kernel⟩
abbrev s_multiply : Stmt := topS 5
abbrev n_multiply : List Str := ["a", "b"]
theorem sc_multiply : FnScope n_multiply ["a", "b"] (defScope s_multiply) := ⟨rfl, rfl, rfl, by decide +kernel, rfl, by decide +kernel, by decide +kernel⟩
abbrev s_divide : Stmt := topS 6
abbrev n_divide : List Str := ["a", "b"]
theorem sc_divide : FnScope n_divide ["a", "b"] (defScope s_divide) := ⟨rfl, rfl, rfl, by decide +kernel, rfl, by decide +kernel, by decide +kernel⟩
abbrev s_compare : Stmt := topS 7
abbrev n_compare : List Str := ["a", "b", "left", "right"]
theorem sc_compare : FnScope n_compare ["a", "b"] (defScope s_compare) := ⟨rfl, rfl, rfl, by decide +kernel, rfl, by decide +kernel, by decide +kernel⟩
abbrev s_raised : Stmt := topS 8
abbrev n_raised : List Str := ["a", "exponent"]
theorem sc_raised : FnScope n_raised ["a", "exponent"] (defScope s_raised) := ⟨rfl, rfl, rfl, by decide +kernel, rfl, by decide +kernel, by decide +kernel⟩
abbrev s_repeated : Stmt := topS 9
abbrev n_repeated : List Str := ["base", "exponent", "one", "combine", "result", "square", "left"]
theorem sc_repeated : FnScope n_repeated ["base", "exponent", "one", "combine"] (defScope s_repeated) := ⟨rfl, rfl, rfl, by decide +kernel, rfl, by decide +kernel, by decide +kernel⟩
abbrev s_law_cell : Stmt := topS 11
abbrev n_law_cell : List Str := ["script", "k"]
theorem sc_law_cell : FnScope n_law_cell ["script", "k"] (defScope s_law_cell) := ⟨rfl, rfl, rfl, by decide +kernel, rfl, by decide +kernel, by decide +kernel⟩
abbrev s_law_tuples : Stmt := topS 14
abbrev n_law_tuples : List Str := ["value", "part"]
theorem sc_law_tuples : FnScope n_law_tuples ["value"] (defScope s_law_tuples) := ⟨rfl, rfl, rfl, by decide +kernel, rfl, by decide +kernel, by decide +kernel⟩
abbrev s_law_gcd : Stmt := topS 15
abbrev n_law_gcd : List Str := ["a", "b"]
theorem sc_law_gcd : FnScope n_law_gcd ["a", "b"] (defScope s_law_gcd) := ⟨rfl, rfl, rfl, by decide +kernel, rfl, by decide +kernel, by decide +kernel⟩
abbrev s_law_frac : Stmt := topS 16
abbrev n_law_frac : List Str := ["a", "b", "common"]
theorem sc_law_frac : FnScope n_law_frac ["a", "b"] (defScope s_law_frac) := ⟨rfl, rfl, rfl, by decide +kernel, rfl, by decide +kernel, by decide +kernel⟩
abbrev s_law_mul : Stmt := topS 18
abbrev n_law_mul : List Str := ["p", "q"]
theorem sc_law_mul : FnScope n_law_mul ["p", "q"] (defScope s_law_mul) := ⟨rfl, rfl, rfl, by decide +kernel, rfl, by decide +kernel, by decide +kernel⟩
abbrev s_law_pow : Stmt := topS 20
abbrev n_law_pow : List Str := ["p", "n", "result", "k"]
theorem sc_law_pow : FnScope n_law_pow ["p", "n"] (defScope s_law_pow) := ⟨rfl, rfl, rfl, by decide +kernel, rfl, by decide +kernel, by decide +kernel⟩
abbrev s_law : Stmt := topS 21
abbrev n_law : List Str := ["script", "a", "b", "c", "d", "sign", "p", "q", "difference", "order", "got", "due", "exponent", "value", "told"]
theorem sc_law : FnScope n_law ["script"] (defScope s_law) := ⟨rfl, rfl, rfl, by decide +kernel, rfl, by decide +kernel, by decide +kernel⟩
structure Top (K : PySem.W.Frag) (mg : Str → Option Value) : Type where
  f_fraction : Addr
  d_fraction : FuncData
  F_fraction : Fun K "fraction" "fraction" s_fraction f_fraction d_fraction
  b_fraction : Binds K d_fraction ["numerator", "denominator"] []
  g_fraction : mg "fraction" = some (.ref f_fraction)
  f_add : Addr
  d_add : FuncData
  F_add : Fun K "add" "add" s_add f_add d_add
  b_add : Binds K d_add ["a", "b"] []
  g_add : mg "add" = some (.ref f_add)
  f_subtract : Addr
  d_subtract : FuncData
  F_subtract : Fun K "subtract" "subtract" s_subtract f_subtract d_subtract
  b_subtract : Binds K d_subtract ["a", "b"] []
  g_subtract : mg "subtract" = some (.ref f_subtract)
  f_multiply : Addr
  d_multiply : FuncData
  F_multiply : Fun K "multiply" "multiply" s_multiply f_multiply d_multiply
  b_multiply : Binds K d_multiply ["a", "b"] []
  g_multiply : mg "multiply" = some (.ref f_multiply)
  f_divide : Addr
  d_divide : FuncData
  F_divide : Fun K "divide" "divide" s_divide f_divide d_divide
  b_divide : Binds K d_divide ["a", "b"] []
  g_divide : mg "divide" = some (.ref f_divide)
  f_compare : Addr
  d_compare : FuncData
  F_compare : Fun K "compare" "compare" s_compare f_compare d_compare
  b_compare : Binds K d_compare ["a", "b"] []
  g_compare : mg "compare" = some (.ref f_compare)
  f_raised : Addr
  d_raised : FuncData
  F_raised : Fun K "raised" "raised" s_raised f_raised d_raised
  b_raised : Binds K d_raised ["a", "exponent"] []
  g_raised : mg "raised" = some (.ref f_raised)
  f_repeated : Addr
  d_repeated : FuncData
  F_repeated : Fun K "repeated" "repeated" s_repeated f_repeated d_repeated
  b_repeated : Binds K d_repeated ["base", "exponent", "one", "combine"] []
  g_repeated : mg "repeated" = some (.ref f_repeated)
  f_law_cell : Addr
  d_law_cell : FuncData
  F_law_cell : Fun K "_law_cell" "_law_cell" s_law_cell f_law_cell d_law_cell
  b_law_cell : Binds K d_law_cell ["script", "k"] []
  g_law_cell : mg "_law_cell" = some (.ref f_law_cell)
  f_law_tuples : Addr
  d_law_tuples : FuncData
  F_law_tuples : Fun K "_law_tuples" "_law_tuples" s_law_tuples f_law_tuples d_law_tuples
  b_law_tuples : Binds K d_law_tuples ["value"] []
  g_law_tuples : mg "_law_tuples" = some (.ref f_law_tuples)
  f_law_gcd : Addr
  d_law_gcd : FuncData
  F_law_gcd : Fun K "_law_gcd" "_law_gcd" s_law_gcd f_law_gcd d_law_gcd
  b_law_gcd : Binds K d_law_gcd ["a", "b"] []
  g_law_gcd : mg "_law_gcd" = some (.ref f_law_gcd)
  f_law_frac : Addr
  d_law_frac : FuncData
  F_law_frac : Fun K "_law_frac" "_law_frac" s_law_frac f_law_frac d_law_frac
  b_law_frac : Binds K d_law_frac ["a", "b"] []
  g_law_frac : mg "_law_frac" = some (.ref f_law_frac)
  f_law_mul : Addr
  d_law_mul : FuncData
  F_law_mul : Fun K "_law_mul" "_law_mul" s_law_mul f_law_mul d_law_mul
  b_law_mul : Binds K d_law_mul ["p", "q"] []
  g_law_mul : mg "_law_mul" = some (.ref f_law_mul)
  f_law_pow : Addr
  d_law_pow : FuncData
  F_law_pow : Fun K "_law_pow" "_law_pow" s_law_pow f_law_pow d_law_pow
  b_law_pow : Binds K d_law_pow ["p", "n"] []
  g_law_pow : mg "_law_pow" = some (.ref f_law_pow)
  g_gcd : mg "gcd" = some (.builtin "math.gcd")
  m_abs : mg "abs" = none
  m_all : mg "all" = none
  m_bool : mg "bool" = none
  m_int : mg "int" = none
  m_isinstance : mg "isinstance" = none
  m_len : mg "len" = none
  m_range : mg "range" = none
  m_tuple : mg "tuple" = none
/-! ### small rules -/
/-- // by a divisor that is not 0, below 2 ^ 9000 -/
def CDivZ (_ j : Int) : Prop := j ≠ 0 ∧ j.natAbs.log2 < 9000
theorem op_fdivZ {X : Cx} : OpR X (binaryOp .FloorDiv) (rI CDivZ fun i j => .int (i.fdiv j)) := opI fun i j _ _ _ _ _ hc q =>
  floordiv_int hc.1 q (.inl (PyProof.noPylong_of_log2 hc.2))
theorem log_lt {j : Int} {b : Nat} (hb : j.natAbs < 2 ^ b) (h0 : 0 < b) (h9 : b ≤ 9000) : j.natAbs.log2 < 9000 := Nat.lt_of_lt_of_le (PySem.Flt.log2_lt_of h0 hb) h9
theorem same_upd {H : Hp} {p : Addr} {o : HO} (h : H p = none) : Same H (upd H p o) := fun b x e => by
  rw [upd_ne (ne_of_none e h)]
  exact e
theorem _root_.L2.Same.new {H H1 : Hp} {p : Addr} {o : HO} (s : Same H H1) (h : H1 p = none) : Same H (upd H1 p o) := s.trans (same_upd h)
theorem _root_.L2.Same.tup {K : PySem.W.Frag} {H H' : Hp} {a : Addr} {xs : List V} (e : Same H H') (h : SqT K H a xs) : SqT K H' a xs := by
  rcases h with (h | ⟨o, h⟩) | h
  · exact .inl (.inl (e _ _ h))
  · exact .inl (.inr ⟨o, e _ _ h⟩)
  · exact .inr h
theorem sl2 : (2 : Nat) ≤ sizeLine := by rw [sizeLine_eq]; decide
theorem sl_of {n : Nat} (h : n ≤ 1000000) : n ≤ sizeLine := by rw [sizeLine_eq]; omega
theorem sl_lt {n : Nat} (h : n < 1000000) : n < sizeLine := by rw [sizeLine_eq]; omega
theorem iteB {c : Bool} {A B : Prop} (h1 : c = true → A) (h2 : c = false → B) : if c = true then A else B := by
  cases c
  · exact iteF (h2 rfl)
  · exact iteT (h1 rfl)
theorem op_sub_bb {X : Cx} : OpR X (binaryOp .Sub) (fun x y H Q => ∃ i k, x = .bl i ∧ y = .bl k ∧ Q (.int (b2i i - b2i k)) H) := by
  intro pins s σ H x y v u Q I rx ry h
  obtain ⟨i, k, rfl, rfl, q⟩ := h
  cases rx
  cases ry
  exact sub_bool ⟨.int (b2i i - b2i k), H, I.tok _, ⟨_, rfl⟩, q⟩
section
variable {P : Program} {w : World} {K : PySem.W.Frag} {mg : Str → Option Value} {base : Heap}
/-! ### the law's cell of the script -/
def cellZ (ns : List Int) (k : Nat) : Int := ns.getD k 0
def spCellZ (K : PySem.W.Frag) : Sp := fun vs H Q _ => ∃ (l : Addr) (ns : List Int) (k : Nat), vs = [.ref l, .int (k : Int)] ∧ SqL K H l (ns.map V.int) ∧ Q (.int (cellZ ns k)) H
theorem ok_law_cell (T : Top K mg) : FnOk P w K mg base CX0 1 T.f_law_cell T.d_law_cell ["script", "k"] (spCellZ K) := by
  refine T.F_law_cell.ok sc_law_cell (fun vs H Q E h => ?_) (fun cdv A outer s H vs Q E hr h => ?_)
  · obtain ⟨l, ns, k, rfl, _⟩ := h
    rfl
  · obtain ⟨l, ns, k, rfl, hS, q⟩ := h
    refine ⟨_, (pss_cons (ps_if (pt_cmpR op_lt (pv 1) (pe_callB call_len_seq (by rfl) T.m_len (by decide +kernel) (pa_cons (pv 0) pa_nil)) (nomark _)) (pss_one (ps_ret (pe_callTy call_int1 (by rfl) T.m_int (by decide +kernel) (pa_cons (pe_ix ix_list (pv 0) (pv 1) (fun _ _ => rfl)) pa_nil)))) pss_nil)
      (pss_one (ps_ret pe_int))), ?_⟩
    refine ⟨_, rfl, _, rfl, l, _, rfl, .inl hS, _, _, rfl, rfl, _, rfl, ?_⟩
    refine ite2 (fun e => ?_) (fun e => ?_)
    · have hk : k < ns.length := by
        have := of_decide_eq_true e
        rw [List.length_map] at this
        omega
      refine ⟨_, rfl, _, rfl, l, _, _, .int ns[k], rfl, rfl, hS, ?_, .inl ⟨_, rfl, ?_⟩⟩
      · refine atI_nat ?_
        rw [List.getElem?_map, List.getElem?_eq_getElem hk]
        rfl
      · have : cellZ ns k = ns[k] := by
          unfold cellZ
          rw [List.getD_eq_getElem?_getD, List.getElem?_eq_getElem hk]
          rfl
        rw [← this]
        exact q
    · have hk : ¬ k < ns.length := fun z => e (by
        refine decide_eq_true ?_
        rw [List.length_map]
        omega)
      have : cellZ ns k = 0 := by
        unfold cellZ
        rw [List.getD_eq_getElem?_getD, List.getElem?_eq_none (by omega)]
        rfl
      show Q (.int 0) H
      rw [← this]
      exact q
/-! ### data that stands in the heap -/
mutual
theorem dp_same {K : PySem.W.Frag} {H H' : Hp} (s : Same H H') : ∀ {v : V} {d : PyData}, Dp K H v d → Dp K H' v d
  | _, _, .non => .non
  | _, _, .bl b => .bl b
  | _, _, .int i => .int i
  | _, _, .str x => .str x
  | _, _, .lst h t => .lst (s.seq h) (dpAll_same s t)
  | _, _, .tup h t => .tup (s.tup h) (dpAll_same s t)
theorem dpAll_same {K : PySem.W.Frag} {H H' : Hp} (s : Same H H') : ∀ {vs : List V} {ds : List PyData}, DpAll K H vs ds → DpAll K H' vs ds
  | _, _, .nil => .nil
  | _, _, .cons h t => .cons (dp_same s h) (dpAll_same s t)
end
theorem dpAll_len {K : PySem.W.Frag} {H : Hp} : ∀ {vs : List V} {ds : List PyData}, DpAll K H vs ds → vs.length = ds.length
  | _, _, .nil => rfl
  | _, _, .cons _ t => congrArg (· + 1) (dpAll_len t)
theorem dpAll_get {K : PySem.W.Frag} {H : Hp} : ∀ {vs : List V} {ds : List PyData} {i : Nat} {v : V}, DpAll K H vs ds → vs[i]? = some v → ∃ d, ds[i]? = some d ∧ d ∈ ds ∧ Dp K H v d
  | _, _, i, v, .nil, h => by simp at h
  | _, d :: ds, 0, v, .cons a t, h => by
    simp only [List.getElem?_cons_zero, Option.some.injEq] at h
    subst h
    exact ⟨d, rfl, List.mem_cons_self, a⟩
  | _, d :: ds, i + 1, v, .cons a t, h => by
    simp only [List.getElem?_cons_succ] at h
    obtain ⟨e, h1, h2, h3⟩ := dpAll_get t h
    exact ⟨e, by simpa using h1, List.mem_cons_of_mem _ h2, h3⟩
theorem dpAll_of {α : Type} {K : PySem.W.Frag} {H : Hp} {f : α → PyData} {R : V → α → Prop} (hR : ∀ v x, R v x → Dp K H v (f x)) : ∀ {vs : List V} {xs : List α}, Paired R vs xs → DpAll K H vs (xs.map f)
  | _, _, .nil => .nil
  | _, _, .cons h t => .cons (hR _ _ h) (dpAll_of hR t)
theorem sqt_ty {K : PySem.W.Frag} {H : Hp} {a : Addr} {xs : List V} (h : SqT K H a xs) : TyX K H (.ref a) (.type "tuple") := by
  rcases h with (h | ⟨o, h⟩) | ⟨o, its, n, h, hc, _⟩
  · exact .base (.tup h)
  · exact .fTuple h
  · exact .kTuple h hc
theorem sql_ty {K : PySem.W.Frag} {H : Hp} {a : Addr} {xs : List V} (h : SqL K H a xs) : TyX K H (.ref a) (.type "list") := by
  rcases h with (h | ⟨o, h⟩) | ⟨o, its, n, h, hc, _⟩
  · exact .base (.lst h)
  · exact .base (.frz h)
  · exact .kList h hc
/-- nested tuples of ints, at most n - 1 deep -/
def tupD : Nat → PyData → Prop
  | 0, _ => False
  | _ + 1, .int _ => True
  | n + 1, .tuple ds => ds.length < 1000000 ∧ ∀ x ∈ ds, tupD n x
  | _ + 1, _ => False
def spTup (K : PySem.W.Frag) (n : Nat) : Sp := fun vs H Q _ => ∃ v d, vs = [v] ∧ Dp K H v d ∧ tupD n d ∧ ∀ H', Same H H' → Q (.bl true) H'
theorem ok_law_tuples (T : Top K mg) : ∀ n, FnOk P w K mg base CX0 (n + 1) T.f_law_tuples T.d_law_tuples ["value"] (spTup K n)
  | 0 => T.F_law_tuples.ok sc_law_tuples (fun vs H Q E h => by obtain ⟨v, d, _, _, h, _⟩ := h; exact h.elim) (fun cdv A outer s H vs Q E hr h => by obtain ⟨v, d, _, _, h, _⟩ := h; exact h.elim)
  | n + 1 => by
    have ih := ok_law_tuples T n
    refine T.F_law_tuples.ok sc_law_tuples (fun vs H Q E h => ?_) (fun cdv A outer s H vs Q E hr h => ?_)
    · obtain ⟨v, d, rfl, _⟩ := h
      rfl
    · obtain ⟨v, d, rfl, hd, ht, q⟩ := h
      refine ⟨_, (pss_cons (ps_if (pt_val (pe_callB call_isi (by rfl) T.m_isinstance (by decide +kernel) (pa_cons (pv 0) (pa_cons (pe_bltn (v := .ty "tuple") (by rfl) T.m_tuple boot_tuple rfl) pa_nil)))) (pss_one (ps_ret (pe_callB (cr_all rfl) (by rfl) T.m_all (by decide +kernel) (pa_cons (pe_lc (own := [("part", 1)]) (g := gName 1) (tt := tYes) rfl sc_law_tuples.nd (pi_tup (pv 0)) (blkOk_by (own := [("part", 1)]) (N := n_law_tuples) (sc := defScope s_law_tuples) (by decide +kernel)) (fun _ _ _ _ _ => (pg_name (i := 1) sc_law_tuples.nd rfl (by first | exact .inl rfl | exact .inr rfl))) (fun _ _ _ _ _ => pts_nil) (fun _ _ _ _ _ => (pe_call ih hr (by rfl) T.g_law_tuples T.F_law_tuples.kp T.b_law_tuples .nil pass0 (pa_cons (pv 1) pa_nil)))) pa_nil)))) pss_nil)
      (pss_one (ps_ret (pe_and (pe_callB call_isi (by rfl) T.m_isinstance (by decide +kernel) (pa_cons (pv 0) (pa_cons (pe_bltn (v := .ty "int") (by rfl) T.m_int boot_int rfl) pa_nil))) (pe_one (pe_not (pe_callB call_isi (by rfl) T.m_isinstance (by decide +kernel) (pa_cons (pv 0) (pa_cons (pe_bltn (v := .ty "bool") (by rfl) T.m_bool boot_bool rfl) pa_nil))))))))), ?_⟩
      cases d with
      | int i =>
        cases hd
        refine ⟨_, rfl, _, _, _, _, _, rfl, .ty _, .base (.int i), kit_ty (r := false) (by decide +kernel), _, rfl, iteF ?_⟩
        refine ⟨_, rfl, _, _, _, _, _, rfl, .ty _, .base (.int i), kit_ty (r := true) (by decide +kernel), _, rfl, iteT ?_⟩
        exact ⟨_, rfl, _, _, _, _, _, rfl, .ty _, .base (.int i), kit_ty (r := false) (by decide +kernel), _, rfl, q H (Same.refl H)⟩
      | tuple ds =>
        cases hd with
        | @tup a xs _ hx hds =>
        refine ⟨_, rfl, _, _, _, _, _, rfl, .ty _, sqt_ty hx, kit_ty (r := true) (by decide +kernel), _, rfl, iteT ?_⟩
        refine ⟨_, rfl, a, rfl, ⟨_, hx⟩, fun D hD => lc_tup (xs := xs) (fun i H' => Same H H' ∧ H' D = some (.lst ((List.replicate i true).map V.bl)) ∧ i ≤ xs.length) ⟨same_upd hD, upd_same, Nat.zero_le _⟩ (fun i H' _ h => h.1.tup hx) (fun i x H' hi hP => ?_) (fun H' hP => ?_)⟩
        · obtain ⟨s1, hl, hix⟩ := hP
          obtain ⟨d, _, hm, hdx⟩ := dpAll_get hds hi
          have hil : i < xs.length := (List.getElem?_eq_some_iff.mp hi).1
          have hlen := dpAll_len hds
          have hz := ht.1
          refine ⟨rfl, _, rfl, x, d, rfl, dp_same s1 hdx, ht.2 d hm, fun H2 s2 => ⟨_, s2 _ _ hl, ?_, fun b o e => ?_, ?_, hil⟩⟩
          · rw [List.length_map, List.length_replicate]
            exact sl_lt (by omega)
          · rw [upd_ne (ne_of_none e hD)]
            exact s2 _ _ (s1 _ _ e)
          · rw [upd_same, List.replicate_succ', List.map_append]
            rfl
        · obtain ⟨s1, hl, _⟩ := hP
          refine ⟨D, List.replicate xs.length true, rfl, SqL.of hl, ?_⟩
          have e : (List.replicate xs.length true).all id = true := by
            rw [List.all_eq_true]
            intro x hx
            rw [List.eq_of_mem_replicate hx]
            rfl
          rw [e]
          exact q H' s1
      | none => exact ht.elim
      | bool b => exact ht.elim
      | str x => exact ht.elim
      | list x => exact ht.elim
      | dict x => exact ht.elim
open K04
/-- the pair p stands as a tuple at a -/
def Fr (K : PySem.W.Frag) (H : Hp) (a : Addr) (p : Int × Int) : Prop := SqT K H a [.int p.1, .int p.2]
theorem _root_.L2.Same.fr {H H' : Hp} {a : Addr} {p : Int × Int} (e : Same H H') (h : Fr K H a p) : Fr K H' a p := Same.tup e h
/-- hands back a new tuple of p -/
def NewF (H : Hp) (Q : VK) (p : Int × Int) : Prop := ∀ a H', Same H H' → H a = none → H' a = some (.tup [.int p.1, .int p.2]) → Q (.ref a) H'
def small (z : Int) : Prop := z.natAbs < 2 ^ 4000
theorem small_log {z : Int} (h : small z) : z.natAbs.log2 < 9000 := log_lt h (by decide) (by decide)
def spFrac : Sp := fun vs H Q _ => ∃ n d : Int, vs = [.int n, .int d] ∧ d ≠ 0 ∧ small d ∧ NewF H Q (F n d)
theorem gs_small {n d : Int} (h : d ≠ 0) (hs : small d) : CDivZ 0 (gs n d) := ⟨gs_ne h, small_log (Nat.lt_of_le_of_lt (gs_le n h) hs)⟩
theorem ok_fraction (T : Top K mg) : FnOk P w K mg base CX0 1 T.f_fraction T.d_fraction ["numerator", "denominator"] spFrac := by
  refine T.F_fraction.ok sc_fraction (fun vs H Q E h => ?_) (fun cdv A outer s H vs Q E hr h => ?_)
  · obtain ⟨n, d, rfl, _⟩ := h
    rfl
  · obtain ⟨n, d, rfl, hd, hs, q⟩ := h
    refine ⟨_, (pss_cons (ps_set (i := 2) sc_fraction.nd rfl (by first | exact .inl rfl | exact .inr rfl) (pe_callBfun cr_gcd (by rfl) T.g_gcd (pa_cons (pv 0) (pa_cons (pv 1) pa_nil))))
      (pss_cons (ps_if (pt_cmpR op_lt (pv 1) pe_int (nomark _)) (pss_one (ps_set (i := 2) sc_fraction.nd rfl (by first | exact .inl rfl | exact .inr rfl) (pe_un un_neg (pv 2)))) pss_nil)
      (pss_one (ps_ret (pe_tup (pa_cons (pe_op op_fdivZ (pv 0) (pv 2)) (pa_cons (pe_op op_fdivZ (pv 1) (pv 2)) pa_nil))))))), ?_⟩
    refine ⟨_, rfl, _, rfl, n, d, rfl, ?_⟩
    refine ⟨_, rfl, _, _, rfl, rfl, _, rfl, ?_⟩
    have g0 := gs_small (n := n) hd hs
    refine ite2 (fun e => ?_) (fun e => ?_)
    · have e := of_decide_eq_true e
      have eg : gs n d = -((Nat.gcd n.natAbs d.natAbs : Nat) : Int) := by
        unfold gs
        rw [if_pos e]
      have q : NewF H Q (n.fdiv (gs n d), d.fdiv (gs n d)) := q
      rw [eg] at q g0
      refine ⟨_, rfl, _, rfl, ?_⟩
      refine ⟨_, rfl, _, rfl, _, _, rfl, rfl, g0, _, rfl, _, rfl, _, _, rfl, rfl, g0, sl2, fun p hp => ?_⟩
      exact q p _ (same_upd hp) hp upd_same
    · have e : ¬ d < 0 := fun z => e (decide_eq_true z)
      have eg : gs n d = ((Nat.gcd n.natAbs d.natAbs : Nat) : Int) := by
        unfold gs
        rw [if_neg e]
      have q : NewF H Q (n.fdiv (gs n d), d.fdiv (gs n d)) := q
      rw [eg] at q g0
      refine ⟨_, rfl, _, rfl, _, _, rfl, rfl, g0, _, rfl, _, rfl, _, _, rfl, rfl, g0, sl2, fun p hp => ?_⟩
      exact q p _ (same_upd hp) hp upd_same
/-- two fractions come in, a new one goes out -/
def spOp2 (K : PySem.W.Frag) (ok : (Int × Int) → (Int × Int) → Prop) (f : (Int × Int) → (Int × Int) → (Int × Int)) : Sp := fun vs H Q _ => ∃ (a b : Addr) (p q : Int × Int), vs = [.ref a, .ref b] ∧ Fr K H a p ∧ Fr K H b q ∧ ok p q ∧ NewF H Q (f p q)
def mid (z : Int) : Prop := z.natAbs < 2 ^ 1900
theorem mid_mul {x y : Int} (hx : mid x) (hy : mid y) : CMulW x y := wide_mul hx hy (by decide) (by decide) (by decide)
theorem mid_small {x y : Int} (hx : mid x) (hy : mid y) : small (x * y) := Nat.lt_of_lt_of_le (wide_lt hx hy) (Nat.pow_le_pow_right (by decide) (by decide))
def okA (p q : Int × Int) : Prop := mid p.1 ∧ mid p.2 ∧ mid q.1 ∧ mid q.2 ∧ p.2 ≠ 0 ∧ q.2 ≠ 0
def okD (p q : Int × Int) : Prop := mid p.1 ∧ mid p.2 ∧ mid q.1 ∧ mid q.2 ∧ p.2 ≠ 0 ∧ q.1 ≠ 0
theorem ok_add (T : Top K mg) : FnOk P w K mg base CX0 2 T.f_add T.d_add ["a", "b"] (spOp2 K okA addF) := by
  refine T.F_add.ok sc_add (fun vs H Q E h => ?_) (fun cdv A outer s H vs Q E hr h => ?_)
  · obtain ⟨a, b, p, q, rfl, _⟩ := h
    rfl
  · obtain ⟨a, b, p, q, rfl, hp, hq, ⟨m1, m2, m3, m4, n1, n2⟩, k⟩ := h
    refine ⟨_, (pss_one (ps_ret (pe_call (ok_fraction T) (hr.mono (by decide)) (by rfl) T.g_fraction T.F_fraction.kp T.b_fraction .nil pass0 (pa_cons (pe_op op_add (pe_op op_mulW (pe_ix ix_tup (pv 0) pe_int (fun _ _ => rfl)) (pe_ix ix_tup (pv 1) pe_int (fun _ _ => rfl))) (pe_op op_mulW (pe_ix ix_tup (pv 1) pe_int (fun _ _ => rfl)) (pe_ix ix_tup (pv 0) pe_int (fun _ _ => rfl)))) (pa_cons (pe_op op_mulW (pe_ix ix_tup (pv 0) pe_int (fun _ _ => rfl)) (pe_ix ix_tup (pv 1) pe_int (fun _ _ => rfl))) pa_nil))))), ?_⟩
    refine ⟨_, rfl, a, _, _, _, rfl, rfl, hp, atI_nat (j := 0) rfl, _, rfl, b, _, _, _, rfl, rfl, hq, atI_nat (j := 1) rfl, _, _, rfl, rfl, mid_mul m1 m4, ?_⟩
    refine ⟨_, rfl, b, _, _, _, rfl, rfl, hq, atI_nat (j := 0) rfl, _, rfl, a, _, _, _, rfl, rfl, hp, atI_nat (j := 1) rfl, _, _, rfl, rfl, mid_mul m3 m2, ?_⟩
    refine ⟨_, _, rfl, rfl, ?_⟩
    refine ⟨_, rfl, a, _, _, _, rfl, rfl, hp, atI_nat (j := 1) rfl, _, rfl, b, _, _, _, rfl, rfl, hq, atI_nat (j := 1) rfl, _, _, rfl, rfl, mid_mul m2 m4, ?_⟩
    exact ⟨_, _, rfl, Int.mul_ne_zero n1 n2, mid_small m2 m4, k⟩
theorem ok_subtract (T : Top K mg) : FnOk P w K mg base CX0 2 T.f_subtract T.d_subtract ["a", "b"] (spOp2 K okA subF) := by
  refine T.F_subtract.ok sc_subtract (fun vs H Q E h => ?_) (fun cdv A outer s H vs Q E hr h => ?_)
  · obtain ⟨a, b, p, q, rfl, _⟩ := h
    rfl
  · obtain ⟨a, b, p, q, rfl, hp, hq, ⟨m1, m2, m3, m4, n1, n2⟩, k⟩ := h
    refine ⟨_, (pss_one (ps_ret (pe_call (ok_fraction T) (hr.mono (by decide)) (by rfl) T.g_fraction T.F_fraction.kp T.b_fraction .nil pass0 (pa_cons (pe_op op_sub (pe_op op_mulW (pe_ix ix_tup (pv 0) pe_int (fun _ _ => rfl)) (pe_ix ix_tup (pv 1) pe_int (fun _ _ => rfl))) (pe_op op_mulW (pe_ix ix_tup (pv 1) pe_int (fun _ _ => rfl)) (pe_ix ix_tup (pv 0) pe_int (fun _ _ => rfl)))) (pa_cons (pe_op op_mulW (pe_ix ix_tup (pv 0) pe_int (fun _ _ => rfl)) (pe_ix ix_tup (pv 1) pe_int (fun _ _ => rfl))) pa_nil))))), ?_⟩
    refine ⟨_, rfl, a, _, _, _, rfl, rfl, hp, atI_nat (j := 0) rfl, _, rfl, b, _, _, _, rfl, rfl, hq, atI_nat (j := 1) rfl, _, _, rfl, rfl, mid_mul m1 m4, ?_⟩
    refine ⟨_, rfl, b, _, _, _, rfl, rfl, hq, atI_nat (j := 0) rfl, _, rfl, a, _, _, _, rfl, rfl, hp, atI_nat (j := 1) rfl, _, _, rfl, rfl, mid_mul m3 m2, ?_⟩
    refine ⟨_, _, rfl, rfl, ?_⟩
    refine ⟨_, rfl, a, _, _, _, rfl, rfl, hp, atI_nat (j := 1) rfl, _, rfl, b, _, _, _, rfl, rfl, hq, atI_nat (j := 1) rfl, _, _, rfl, rfl, mid_mul m2 m4, ?_⟩
    exact ⟨_, _, rfl, Int.mul_ne_zero n1 n2, mid_small m2 m4, k⟩
theorem ok_multiply (T : Top K mg) : FnOk P w K mg base CX0 2 T.f_multiply T.d_multiply ["a", "b"] (spOp2 K okA mulF) := by
  refine T.F_multiply.ok sc_multiply (fun vs H Q E h => ?_) (fun cdv A outer s H vs Q E hr h => ?_)
  · obtain ⟨a, b, p, q, rfl, _⟩ := h
    rfl
  · obtain ⟨a, b, p, q, rfl, hp, hq, ⟨m1, m2, m3, m4, n1, n2⟩, k⟩ := h
    refine ⟨_, (pss_one (ps_ret (pe_call (ok_fraction T) (hr.mono (by decide)) (by rfl) T.g_fraction T.F_fraction.kp T.b_fraction .nil pass0 (pa_cons (pe_op op_mulW (pe_ix ix_tup (pv 0) pe_int (fun _ _ => rfl)) (pe_ix ix_tup (pv 1) pe_int (fun _ _ => rfl))) (pa_cons (pe_op op_mulW (pe_ix ix_tup (pv 0) pe_int (fun _ _ => rfl)) (pe_ix ix_tup (pv 1) pe_int (fun _ _ => rfl))) pa_nil))))), ?_⟩
    refine ⟨_, rfl, a, _, _, _, rfl, rfl, hp, atI_nat (j := 0) rfl, _, rfl, b, _, _, _, rfl, rfl, hq, atI_nat (j := 0) rfl, _, _, rfl, rfl, mid_mul m1 m3, ?_⟩
    refine ⟨_, rfl, a, _, _, _, rfl, rfl, hp, atI_nat (j := 1) rfl, _, rfl, b, _, _, _, rfl, rfl, hq, atI_nat (j := 1) rfl, _, _, rfl, rfl, mid_mul m2 m4, ?_⟩
    exact ⟨_, _, rfl, Int.mul_ne_zero n1 n2, mid_small m2 m4, k⟩
theorem ok_divide (T : Top K mg) : FnOk P w K mg base CX0 2 T.f_divide T.d_divide ["a", "b"] (spOp2 K okD divF) := by
  refine T.F_divide.ok sc_divide (fun vs H Q E h => ?_) (fun cdv A outer s H vs Q E hr h => ?_)
  · obtain ⟨a, b, p, q, rfl, _⟩ := h
    rfl
  · obtain ⟨a, b, p, q, rfl, hp, hq, ⟨m1, m2, m3, m4, n1, n2⟩, k⟩ := h
    refine ⟨_, (pss_one (ps_ret (pe_call (ok_fraction T) (hr.mono (by decide)) (by rfl) T.g_fraction T.F_fraction.kp T.b_fraction .nil pass0 (pa_cons (pe_op op_mulW (pe_ix ix_tup (pv 0) pe_int (fun _ _ => rfl)) (pe_ix ix_tup (pv 1) pe_int (fun _ _ => rfl))) (pa_cons (pe_op op_mulW (pe_ix ix_tup (pv 0) pe_int (fun _ _ => rfl)) (pe_ix ix_tup (pv 1) pe_int (fun _ _ => rfl))) pa_nil))))), ?_⟩
    refine ⟨_, rfl, a, _, _, _, rfl, rfl, hp, atI_nat (j := 0) rfl, _, rfl, b, _, _, _, rfl, rfl, hq, atI_nat (j := 1) rfl, _, _, rfl, rfl, mid_mul m1 m4, ?_⟩
    refine ⟨_, rfl, a, _, _, _, rfl, rfl, hp, atI_nat (j := 1) rfl, _, rfl, b, _, _, _, rfl, rfl, hq, atI_nat (j := 0) rfl, _, _, rfl, rfl, mid_mul m2 m3, ?_⟩
    exact ⟨_, _, rfl, Int.mul_ne_zero n1 n2, mid_small m2 m3, k⟩
def spCmp (K : PySem.W.Frag) : Sp := fun vs H Q _ => ∃ (a b : Addr) (p q : Int × Int), vs = [.ref a, .ref b] ∧ Fr K H a p ∧ Fr K H b q ∧ mid p.1 ∧ mid p.2 ∧ mid q.1 ∧ mid q.2 ∧
  Q (.int (if p.1 * q.2 < q.1 * p.2 then -1 else if q.1 * p.2 < p.1 * q.2 then 1 else 0)) H
theorem ok_compare (T : Top K mg) : FnOk P w K mg base CX0 1 T.f_compare T.d_compare ["a", "b"] (spCmp K) := by
  refine T.F_compare.ok sc_compare (fun vs H Q E h => ?_) (fun cdv A outer s H vs Q E hr h => ?_)
  · obtain ⟨a, b, p, q, rfl, _⟩ := h
    rfl
  · obtain ⟨a, b, p, q, rfl, hp, hq, m1, m2, m3, m4, k⟩ := h
    refine ⟨_, (pss_cons (ps_set (i := 2) sc_compare.nd rfl (by first | exact .inl rfl | exact .inr rfl) (pe_op op_mulW (pe_ix ix_tup (pv 0) pe_int (fun _ _ => rfl)) (pe_ix ix_tup (pv 1) pe_int (fun _ _ => rfl))))
      (pss_cons (ps_set (i := 3) sc_compare.nd rfl (by first | exact .inl rfl | exact .inr rfl) (pe_op op_mulW (pe_ix ix_tup (pv 1) pe_int (fun _ _ => rfl)) (pe_ix ix_tup (pv 0) pe_int (fun _ _ => rfl))))
      (pss_cons (ps_if (pt_cmpR op_lt (pv 2) (pv 3) (nomark _)) (pss_one (ps_ret (pe_un un_neg pe_int))) pss_nil)
      (pss_cons (ps_if (pt_cmpR op_gt (pv 2) (pv 3) (nomark _)) (pss_one (ps_ret pe_int)) pss_nil)
      (pss_one (ps_ret pe_int)))))), ?_⟩
    refine ⟨_, rfl, a, _, _, _, rfl, rfl, hp, atI_nat (j := 0) rfl, _, rfl, b, _, _, _, rfl, rfl, hq, atI_nat (j := 1) rfl, _, _, rfl, rfl, mid_mul m1 m4, ?_⟩
    refine ⟨_, rfl, b, _, _, _, rfl, rfl, hq, atI_nat (j := 0) rfl, _, rfl, a, _, _, _, rfl, rfl, hp, atI_nat (j := 1) rfl, _, _, rfl, rfl, mid_mul m3 m2, ?_⟩
    refine ⟨_, rfl, _, rfl, _, _, rfl, rfl, _, rfl, ite2 (fun e => ?_) (fun e => ?_)⟩
    · rw [if_pos (of_decide_eq_true e)] at k
      exact ⟨_, rfl, k⟩
    · rw [if_neg (fun z => e (decide_eq_true z))] at k
      refine ⟨_, rfl, _, rfl, _, _, rfl, rfl, _, rfl, ite2 (fun e => ?_) (fun e => ?_)⟩
      · rw [if_pos (of_decide_eq_true e)] at k
        exact k
      · rw [if_neg (fun z => e (decide_eq_true z))] at k
        exact k
/-- the power of (n / d) by an exponent that is not negative -/
def spRep (K : PySem.W.Frag) (fM : Addr) : Sp := fun vs H Q _ => ∃ (a o : Addr) (n d : Int) (k : Nat), vs = [.ref a, .int (k : Int), .ref o, .ref fM] ∧ d ≠ 0 ∧ n.natAbs < 2 ^ 60 ∧ d.natAbs < 2 ^ 60 ∧ k ≤ 10 ∧ Fr K H a (F n d) ∧ Fr K H o (1, 1) ∧
  ∀ p H', Same H H' → Fr K H' p (pwF n d k) → Q (.ref p) H'
theorem pw_mid {n d : Int} (h : d ≠ 0) (hn : n.natAbs < 2 ^ 60) (hd : d.natAbs < 2 ^ 60) {k : Nat} (hk : k ≤ 10) : mid (pwF n d k).1 ∧ mid (pwF n d k).2 ∧ (pwF n d k).2 ≠ 0 := by
  have e : 60 * k + 1 ≤ 1900 := by omega
  exact ⟨Nat.lt_of_lt_of_le (pwF_lt1 h hn k) (Nat.pow_le_pow_right (by decide) e), Nat.lt_of_lt_of_le (pwF_lt2 h hd k) (Nat.pow_le_pow_right (by decide) e), Int.ne_of_gt (F_pos _ (pow_ne h k))⟩
theorem bit1 (k : Nat) : Builtin.bitAnd (k : Int) 1 = ((k % 2 : Nat) : Int) := by
  have h := PySem.W.kbt_mask (k : Int) 1
  have e : (2 : Int) ^ 1 - 1 = 1 := by decide
  rw [e] at h
  rw [h]
  have e2 : (2 : Int) ^ 1 = 2 := by decide
  rw [e2]
  omega
theorem ok_repeated (T : Top K mg) : FnOk P w K mg base CX0 3 T.f_repeated T.d_repeated ["base", "exponent", "one", "combine"] (spRep K T.f_multiply) := by
  refine T.F_repeated.ok sc_repeated (fun vs H Q E h => ?_) (fun cdv A outer s H vs Q E hr h => ?_)
  · obtain ⟨a, o, n, d, k, rfl, _⟩ := h
    rfl
  · obtain ⟨a, o, n, d, k, rfl, hd, n60, d60, hk, ha, ho, q⟩ := h
    refine ⟨_, (pss_cons (ps_set (i := 4) sc_repeated.nd rfl (by first | exact .inl rfl | exact .inr rfl) (pv 2))
      (pss_cons (ps_set (i := 5) sc_repeated.nd rfl (by first | exact .inl rfl | exact .inr rfl) (pv 0))
      (pss_cons (ps_set (i := 6) sc_repeated.nd rfl (by first | exact .inl rfl | exact .inr rfl) (pv 1))
      (pss_cons (ps_while PassesOwn.never (pt_cmpR op_gt (pv 6) pe_int (nomark _)) (C8.pss_cut (ps_if (pt_truth (pe_op op_and (pv 6) pe_int) (by intro _; rfl)) (pss_one (ps_set (i := 4) sc_repeated.nd rfl (by first | exact .inl rfl | exact .inr rfl) (pe_callL (i := 3) (ok_multiply T) (hr.mono (by decide)) rfl (Or.inl rfl) T.F_multiply.kp T.b_multiply .nil pass0 (pa_cons (pv 4) (pa_cons (pv 5) pa_nil))))) pss_nil)
      (pss_cons (ps_aug (i := 6) sc_repeated.nd rfl (by first | exact .inl rfl | exact .inr rfl) pe_int iop_shr)
      (pss_one (ps_if (pt_cmpR op_gt (pv 6) pe_int (nomark _)) (pss_one (ps_set (i := 5) sc_repeated.nd rfl (by first | exact .inl rfl | exact .inr rfl) (pe_callL (i := 3) (ok_multiply T) (hr.mono (by decide)) rfl (Or.inl rfl) T.F_multiply.kp T.b_multiply .nil pass0 (pa_cons (pv 5) (pa_cons (pv 5) pa_nil))))) pss_nil)))))
      (pss_one (ps_ret (pv 4))))))), ?_⟩
    refine ⟨_, rfl, _, rfl, _, rfl, ?_⟩
    -- while left > 0
    refine while_by (fun σ H1 => ∃ (r u : Addr) (i j l : Nat), σ = [some (.ref a), some (.int (k : Int)), some (.ref o), some (.ref T.f_multiply), some (.ref r), some (.ref u), some (.int (l : Int))] ∧ Same H H1 ∧
        Fr K H1 r (pwF n d i) ∧ Fr K H1 u (pwF n d j) ∧ i + j * l = k) (fun σ _ => match σ with | [_, _, _, _, _, _, some (.int l)] => l.toNat | _ => 0)
      ⟨o, a, 0, 1, k, rfl, Same.refl H, by rw [pwF_zero]; exact ho, by rw [pwF_one]; exact ha, by omega⟩ ?_ ?_
    · rintro σ H1 ⟨r, u, i, j, l, rfl, s1, hr1, hu1, e⟩
      refine ⟨_, rfl, _, _, rfl, rfl, _, rfl, ite2 (fun el => ?_) (fun el => ?_)⟩
      · have el : 0 < l := by
          have := of_decide_eq_true el
          omega
        have hi : i ≤ 10 := by omega
        have hj : j ≤ 10 := by
          have : j * 1 ≤ j * l := Nat.mul_le_mul_left j el
          omega
        obtain ⟨m1, m2, m3⟩ := pw_mid hd n60 d60 hi
        obtain ⟨m4, m5, m6⟩ := pw_mid hd n60 d60 hj
        have hmod : l = l % 2 + 2 * (l / 2) := by omega
        have e2 : i + j * (l % 2) + j * (2 * (l / 2)) = k := by
          rw [Nat.add_assoc, ← Nat.mul_add, ← hmod]
          exact e
        -- if left & 1
        refine ⟨fun σ' H' => ∃ (r' : Addr), σ' = [some (.ref a), some (.int (k : Int)), some (.ref o), some (.ref T.f_multiply), some (.ref r'), some (.ref u), some (.int (l : Int))] ∧ Same H H' ∧ Fr K H' r' (pwF n d (i + j * (l % 2))) ∧ Fr K H' u (pwF n d j), ?_, ?_⟩
        · refine ⟨_, rfl, _, _, rfl, rfl, _, rfl, ?_⟩
          rw [bit1]
          refine iteB (fun eb => ?_) (fun eb => ?_)
          · have hb : l % 2 = 1 := by
              have : ¬ ((l % 2 : Nat) : Int) = 0 := by simpa using eb
              omega
            refine ⟨rfl, _, rfl, _, rfl, r, u, _, _, rfl, hr1, hu1, ⟨m1, m2, m4, m5, m3, m6⟩, fun p H' sp np hp => ?_⟩
            refine ⟨p, rfl, s1.trans sp, ?_, sp.fr hu1⟩
            rw [pwF_mul hd] at hp
            rw [hb, Nat.mul_one]
            exact SqT.of hp
          · have hb : l % 2 = 0 := by
              have : ((l % 2 : Nat) : Int) = 0 := by simpa using eb
              omega
            refine ⟨r, rfl, s1, ?_, hu1⟩
            rw [hb, Nat.mul_zero, Nat.add_zero]
            exact hr1
        · rintro σ' H' ⟨r', rfl, s2, hr2, hu2⟩
          -- left >>= 1
          refine ⟨_, rfl, _, _, rfl, rfl, (by show (0 : Int) ≤ 1; decide), ?_⟩
          have esh : (l : Int) / 2 ^ (1 : Int).toNat = ((l / 2 : Nat) : Int) := by
            show (l : Int) / 2 = _
            omega
          refine ⟨_, rfl, _, _, rfl, rfl, _, rfl, ite2 (fun e3 => ?_) (fun e3 => ?_)⟩
          · have e3 : 0 < l / 2 := by
              have := of_decide_eq_true e3
              rw [esh] at this
              omega
            have hjj : j + j ≤ 10 := by
              have : j * (2 * 1) ≤ j * (2 * (l / 2)) := Nat.mul_le_mul_left j (by omega)
              omega
            refine ⟨rfl, _, rfl, _, rfl, u, u, _, _, rfl, hu2, hu2, ⟨m4, m5, m4, m5, m6, m6⟩, fun p H' sp np hp => ?_⟩
            rw [pwF_mul hd] at hp
            refine ⟨⟨r', p, i + j * (l % 2), j + j, l / 2, ?_, s2.trans sp, sp.fr hr2, SqT.of hp, ?_⟩, ?_⟩
            · rw [← esh]
              rfl
            · rw [← e2, Nat.add_mul, Nat.mul_left_comm, Nat.two_mul]
            · show ((l : Int) / 2 ^ (1 : Int).toNat).toNat < (l : Int).toNat
              rw [esh]
              omega
          · have e3 : l / 2 = 0 := by
              have : ¬ (0 : Int) < (l : Int) / 2 ^ (1 : Int).toNat := fun z => e3 (decide_eq_true z)
              rw [esh] at this
              omega
            refine ⟨⟨r', u, i + j * (l % 2), j, l / 2, ?_, s2, hr2, hu2, ?_⟩, ?_⟩
            · rw [← esh]
              rfl
            · rw [← e2, e3]
            · show ((l : Int) / 2 ^ (1 : Int).toNat).toNat < (l : Int).toNat
              rw [esh]
              omega
      · have el : l = 0 := by
          have : ¬ (0 : Int) < (l : Int) := fun z => el (decide_eq_true z)
          omega
        subst el
        have : i = k := by omega
        subst this
        exact ⟨_, rfl, q r H1 s1 hr1⟩
    · rintro σ H1 Q1 Q2 hq ⟨v, hv, i, j, hi, hj, b, hb, h⟩
      exact ⟨v, hv, i, j, hi, hj, b, hb, hq _ _ h⟩
def spRaised (K : PySem.W.Frag) : Sp := fun vs H Q _ => ∃ (a : Addr) (n d : Int) (x : Int), vs = [.ref a, .int x] ∧ 0 < d ∧ n.natAbs < 2 ^ 60 ∧ d.natAbs < 2 ^ 60 ∧ x.natAbs ≤ 10 ∧ (x < 0 → n ≠ 0) ∧ Fr K H a (F n d) ∧
  ∀ p H', Same H H' → Fr K H' p (if 0 ≤ x then pwF n d x.natAbs else pwF d n x.natAbs) → Q (.ref p) H'
theorem divF_one {n d : Int} (hn : n ≠ 0) (hd : d ≠ 0) : divF (1, 1) (F n d) = F d n := by
  have h := divF_F (a := 1) (b := 1) (c := n) (d := d) (by decide) hd hn
  rw [F_one] at h
  rw [h, Int.one_mul, Int.one_mul]
theorem ok_raised (T : Top K mg) : FnOk P w K mg base CX0 4 T.f_raised T.d_raised ["a", "exponent"] (spRaised K) := by
  refine T.F_raised.ok sc_raised (fun vs H Q E h => ?_) (fun cdv A outer s H vs Q E hr h => ?_)
  · obtain ⟨a, n, d, x, rfl, _⟩ := h
    rfl
  · obtain ⟨a, n, d, x, rfl, hd, n60, d60, hx, hn, ha, q⟩ := h
    have hd0 : d ≠ 0 := Int.ne_of_gt hd
    have n1 : mid (F n d).1 := by
      have := (pw_mid hd0 n60 d60 (k := 1) (by decide)).1
      rw [pwF_one] at this
      exact this
    have n2 : mid (F n d).2 := by
      have := (pw_mid hd0 n60 d60 (k := 1) (by decide)).2.1
      rw [pwF_one] at this
      exact this
    have mone : mid 1 := Nat.lt_of_lt_of_le (show (1 : Nat) < 2 ^ 1 by decide) (Nat.pow_le_pow_right (by decide) (by decide))
    refine ⟨_, (pss_cons (ps_if (pt_cmpR op_lt (pv 1) pe_int (nomark _)) (pss_one (ps_ret (pe_call (ok_repeated T) (hr.mono (by decide)) (by rfl) T.g_repeated T.F_repeated.kp T.b_repeated .nil pass0 (pa_cons (pe_call (ok_divide T) (hr.mono (by decide)) (by rfl) T.g_divide T.F_divide.kp T.b_divide .nil pass0 (pa_cons (pe_tup (pa_cons pe_int (pa_cons pe_int pa_nil))) (pa_cons (pv 0) pa_nil))) (pa_cons (pe_un un_neg (pv 1)) (pa_cons (pe_tup (pa_cons pe_int (pa_cons pe_int pa_nil))) (pa_cons (pe_glob (v := .ref T.f_multiply) (by rfl) T.g_multiply rfl) pa_nil))))))) pss_nil)
      (pss_one (ps_ret (pe_call (ok_repeated T) (hr.mono (by decide)) (by rfl) T.g_repeated T.F_repeated.kp T.b_repeated .nil pass0 (pa_cons (pv 0) (pa_cons (pv 1) (pa_cons (pe_tup (pa_cons pe_int (pa_cons pe_int pa_nil))) (pa_cons (pe_glob (v := .ref T.f_multiply) (by rfl) T.g_multiply rfl) pa_nil)))))))), ?_⟩
    refine ⟨_, rfl, _, _, rfl, rfl, _, rfl, ite2 (fun e => ?_) (fun e => ?_)⟩
    · have e := of_decide_eq_true e
      rw [if_neg (by omega)] at q
      have hn0 := hn e
      refine ⟨sl2, fun o1 no1 => ?_⟩
      have s1 := same_upd (o := .tup [.int 1, .int 1]) no1
      refine ⟨_, rfl, o1, a, (1, 1), F n d, rfl, SqT.of upd_same, s1.fr ha, ⟨mone, mone, n1, n2, by decide, fun z => hn0 ((F_zero n hd0).mp z)⟩, fun b H2 s2 nb hb => ?_⟩
      rw [divF_one hn0 hd0] at hb
      refine ⟨_, rfl, _, rfl, sl2, fun o2 no2 => ?_⟩
      have s3 := same_upd (o := .tup [.int 1, .int 1]) no2
      refine ⟨b, o2, d, n, x.natAbs, ?_, hn0, d60, n60, hx, s3.fr (SqT.of hb), SqT.of upd_same, fun p H' s4 hp => q p H' (((s1.trans s2).trans s3).trans s4) hp⟩
      show [V.ref b, V.int (-x), V.ref o2, V.ref T.f_multiply] = _
      rw [show -x = ((x.natAbs : Nat) : Int) by omega]
    · have e : ¬ x < 0 := fun z => e (decide_eq_true z)
      rw [if_pos (by omega)] at q
      refine ⟨_, rfl, _, rfl, sl2, fun o2 no2 => ?_⟩
      have s3 := same_upd (o := .tup [.int 1, .int 1]) no2
      refine ⟨a, o2, n, d, x.natAbs, ?_, hd0, n60, d60, hx, s3.fr ha, SqT.of upd_same, fun p H' s4 hp => q p H' (s3.trans s4) hp⟩
      show [V.ref a, V.int x, V.ref o2, V.ref T.f_multiply] = _
      rw [show x = ((x.natAbs : Nat) : Int) by omega]
      rfl
/-! ### the law's own reckoning -/
def spGcd : Sp := fun vs H Q _ => ∃ a b : Int, vs = [.int a, .int b] ∧ Q (.int ((Nat.gcd a.natAbs b.natAbs : Nat) : Int)) H
theorem ok_law_gcd (T : Top K mg) : FnOk P w K mg base CX0 1 T.f_law_gcd T.d_law_gcd ["a", "b"] spGcd := by
  refine T.F_law_gcd.ok sc_law_gcd (fun vs H Q E h => ?_) (fun cdv A outer s H vs Q E hr h => ?_)
  · obtain ⟨a, b, rfl, _⟩ := h
    rfl
  · obtain ⟨a, b, rfl, q⟩ := h
    refine ⟨_, (pss_cons (ps_while PassesOwn.never (pt_truth (pv 1) (by intro _; rfl)) (pss_one (ps_par (i := 0) (j := 1) rfl sc_law_gcd.nd rfl rfl (by decide) rfl rfl (pa_cons (pv 1) (pa_cons (pe_op op_modN (pv 0) (pv 1)) pa_nil)) (by rfl))))
      (pss_one (ps_ret (pe_callB call_abs (by rfl) T.m_abs (by decide +kernel) (pa_cons (pv 0) pa_nil))))), ?_⟩
    refine while_by (fun σ H1 => H1 = H ∧ ∃ x y : Int, σ = [some (.int x), some (.int y)] ∧ Nat.gcd x.natAbs y.natAbs = Nat.gcd a.natAbs b.natAbs) (fun σ _ => match σ with | [_, some (.int y)] => y.natAbs | _ => 0)
      ⟨rfl, a, b, rfl, rfl⟩ ?_ ?_
    · rintro σ H1 ⟨rfl, x, y, rfl, e⟩
      refine ⟨_, rfl, _, rfl, iteB (fun ey => ?_) (fun ey => ?_)⟩
      · have ey : y ≠ 0 := by simpa using ey
        refine ⟨_, rfl, _, rfl, _, rfl, _, _, rfl, rfl, ey, _, _, rfl, ⟨rfl, y, x.fmod y, rfl, ?_⟩, ?_⟩
        · rw [gcd_step]
          exact e
        · exact fmod_small ey
      · have ey : y = 0 := by simpa using ey
        subst ey
        refine ⟨_, rfl, x, rfl, ?_⟩
        have e2 : (if x < 0 then -x else x) = ((Nat.gcd a.natAbs b.natAbs : Nat) : Int) := by
          rw [← e, Int.natAbs_zero, Nat.gcd_zero_right]
          split <;> omega
        rw [e2]
        exact q
    · rintro σ H1 Q1 Q2 hq ⟨v, hv, k, hk, h⟩
      exact ⟨v, hv, k, hk, hq _ _ h⟩
theorem ok_law_frac (T : Top K mg) : FnOk P w K mg base CX0 2 T.f_law_frac T.d_law_frac ["a", "b"] spFrac := by
  refine T.F_law_frac.ok sc_law_frac (fun vs H Q E h => ?_) (fun cdv A outer s H vs Q E hr h => ?_)
  · obtain ⟨n, d, rfl, _⟩ := h
    rfl
  · obtain ⟨n, d, rfl, hd, hs, q⟩ := h
    refine ⟨_, (pss_cons (ps_set (i := 2) sc_law_frac.nd rfl (by first | exact .inl rfl | exact .inr rfl) (pe_call (ok_law_gcd T) (hr.mono (by decide)) (by rfl) T.g_law_gcd T.F_law_gcd.kp T.b_law_gcd .nil pass0 (pa_cons (pv 0) (pa_cons (pv 1) pa_nil))))
      (pss_cons (ps_if (pt_cmpR op_lt (pv 1) pe_int (nomark _)) (pss_one (ps_set (i := 2) sc_law_frac.nd rfl (by first | exact .inl rfl | exact .inr rfl) (pe_un un_neg (pv 2)))) pss_nil)
      (pss_one (ps_ret (pe_tup (pa_cons (pe_op op_fdivZ (pv 0) (pv 2)) (pa_cons (pe_op op_fdivZ (pv 1) (pv 2)) pa_nil))))))), ?_⟩
    refine ⟨_, rfl, _, rfl, n, d, rfl, ?_⟩
    refine ⟨_, rfl, _, _, rfl, rfl, _, rfl, ?_⟩
    have g0 := gs_small (n := n) hd hs
    refine ite2 (fun e => ?_) (fun e => ?_)
    · have e := of_decide_eq_true e
      have eg : gs n d = -((Nat.gcd n.natAbs d.natAbs : Nat) : Int) := by
        unfold gs
        rw [if_pos e]
      have q : NewF H Q (n.fdiv (gs n d), d.fdiv (gs n d)) := q
      rw [eg] at q g0
      refine ⟨_, rfl, _, rfl, ?_⟩
      refine ⟨_, rfl, _, rfl, _, _, rfl, rfl, g0, _, rfl, _, rfl, _, _, rfl, rfl, g0, sl2, fun p hp => ?_⟩
      exact q p _ (same_upd hp) hp upd_same
    · have e : ¬ d < 0 := fun z => e (decide_eq_true z)
      have eg : gs n d = ((Nat.gcd n.natAbs d.natAbs : Nat) : Int) := by
        unfold gs
        rw [if_neg e]
      have q : NewF H Q (n.fdiv (gs n d), d.fdiv (gs n d)) := q
      rw [eg] at q g0
      refine ⟨_, rfl, _, rfl, _, _, rfl, rfl, g0, _, rfl, _, rfl, _, _, rfl, rfl, g0, sl2, fun p hp => ?_⟩
      exact q p _ (same_upd hp) hp upd_same
theorem ok_law_mul (T : Top K mg) : FnOk P w K mg base CX0 3 T.f_law_mul T.d_law_mul ["p", "q"] (spOp2 K okA mulF) := by
  refine T.F_law_mul.ok sc_law_mul (fun vs H Q E h => ?_) (fun cdv A outer s H vs Q E hr h => ?_)
  · obtain ⟨a, b, p, q, rfl, _⟩ := h
    rfl
  · obtain ⟨a, b, p, q, rfl, hp, hq, ⟨m1, m2, m3, m4, n1, n2⟩, k⟩ := h
    refine ⟨_, (pss_one (ps_ret (pe_call (ok_law_frac T) (hr.mono (by decide)) (by rfl) T.g_law_frac T.F_law_frac.kp T.b_law_frac .nil pass0 (pa_cons (pe_op op_mulW (pe_ix ix_tup (pv 0) pe_int (fun _ _ => rfl)) (pe_ix ix_tup (pv 1) pe_int (fun _ _ => rfl))) (pa_cons (pe_op op_mulW (pe_ix ix_tup (pv 0) pe_int (fun _ _ => rfl)) (pe_ix ix_tup (pv 1) pe_int (fun _ _ => rfl))) pa_nil))))), ?_⟩
    refine ⟨_, rfl, a, _, _, _, rfl, rfl, hp, atI_nat (j := 0) rfl, _, rfl, b, _, _, _, rfl, rfl, hq, atI_nat (j := 0) rfl, _, _, rfl, rfl, mid_mul m1 m3, ?_⟩
    refine ⟨_, rfl, a, _, _, _, rfl, rfl, hp, atI_nat (j := 1) rfl, _, rfl, b, _, _, _, rfl, rfl, hq, atI_nat (j := 1) rfl, _, _, rfl, rfl, mid_mul m2 m4, ?_⟩
    exact ⟨_, _, rfl, Int.mul_ne_zero n1 n2, mid_small m2 m4, k⟩
theorem ok_law_pow (T : Top K mg) : FnOk P w K mg base CX0 4 T.f_law_pow T.d_law_pow ["p", "n"] (spRaised K) := by
  refine T.F_law_pow.ok sc_law_pow (fun vs H Q E h => ?_) (fun cdv A outer s H vs Q E hr h => ?_)
  · obtain ⟨a, n, d, x, rfl, _⟩ := h
    rfl
  · obtain ⟨a, n, d, x, rfl, hd, n60, d60, hx, hn, ha, q⟩ := h
    have hd0 : d ≠ 0 := Int.ne_of_gt hd
    obtain ⟨f1, f2, f3⟩ := pw_mid hd0 n60 d60 (k := 1) (by decide)
    rw [pwF_one] at f1 f2 f3
    refine ⟨_, (pss_cons (ps_set (i := 2) sc_law_pow.nd rfl (by first | exact .inl rfl | exact .inr rfl) (pe_tup (pa_cons pe_int (pa_cons pe_int pa_nil))))
      (pss_cons (ps_for PassesOwn.never rfl (pi_range1 (by rfl) T.m_range (pa_cons (pe_callB call_abs (by rfl) T.m_abs (by decide +kernel) (pa_cons (pv 1) pa_nil)) pa_nil)) (pg_name (i := 3) sc_law_pow.nd rfl (by first | exact .inl rfl | exact .inr rfl)) (pss_one (ps_set (i := 2) sc_law_pow.nd rfl (by first | exact .inl rfl | exact .inr rfl) (pe_call (ok_law_mul T) (hr.mono (by decide)) (by rfl) T.g_law_mul T.F_law_mul.kp T.b_law_mul .nil pass0 (pa_cons (pv 2) (pa_cons (pv 0) pa_nil))))))
      (pss_one (ps_ret (pe_ifExp (pt_cmpR op_ge (pv 1) pe_int (nomark _)) (pv 2) (pe_call (ok_law_frac T) (hr.mono (by decide)) (by rfl) T.g_law_frac T.F_law_frac.kp T.b_law_frac .nil pass0 (pa_cons (pe_ix ix_tup (pv 2) pe_int (fun _ _ => rfl)) (pa_cons (pe_ix ix_tup (pv 2) pe_int (fun _ _ => rfl)) pa_nil)))))))), ?_⟩
    refine ⟨sl2, fun o no => ?_⟩
    have s0 := same_upd (o := .tup [.int 1, .int 1]) no
    refine ⟨_, rfl, x, rfl, _, rfl, by split <;> omega, by split <;> omega, ?_⟩
    rw [show (if x < 0 then -x else x).toNat = x.natAbs by split <;> omega]
    refine for_range (fun i σ H1 => ∃ (r : Addr) (y : Option V), σ = [some (.ref a), some (.int x), some (.ref r), y] ∧ Same H H1 ∧ Fr K H1 r (pwF n d i)) ⟨o, none, rfl, s0, by rw [pwF_zero]; exact SqT.of upd_same⟩ ?_ ?_
    · rintro i σ H1 hi ⟨r, y, rfl, s1, hr1⟩
      obtain ⟨m1, m2, m3⟩ := pw_mid hd0 n60 d60 (k := i) (by omega)
      refine ⟨_, rfl, _, rfl, r, a, _, _, rfl, hr1, s1.fr ha, ⟨m1, m2, f1, f2, m3, f3⟩, fun p H' sp np hp => ?_⟩
      refine ⟨p, _, rfl, s1.trans sp, ?_⟩
      rw [← pwF_one, pwF_mul hd0] at hp
      exact SqT.of hp
    · rintro σ H1 ⟨r, y, rfl, s1, hr1⟩
      obtain ⟨m1, m2, m3⟩ := pw_mid hd0 n60 d60 hx
      refine ⟨_, rfl, _, _, rfl, rfl, _, rfl, ite2 (fun e => ?_) (fun e => ?_)⟩
      · have e := of_decide_eq_true e
        rw [if_pos e] at q
        exact ⟨_, rfl, q r H1 s1 hr1⟩
      · have e : ¬ 0 ≤ x := fun z => e (decide_eq_true z)
        rw [if_neg e] at q
        have hn0 : n ≠ 0 := hn (by omega)
        have hnp : n ^ x.natAbs ≠ 0 := Int.pow_ne_zero hn0
        have h1 : (pwF n d x.natAbs).1 ≠ 0 := fun z => hnp ((F_zero _ (pow_ne hd0 _)).mp z)
        have m1' : small (pwF n d x.natAbs).1 := Nat.lt_of_lt_of_le m1 (Nat.pow_le_pow_right (by decide) (by decide))
        refine ⟨_, rfl, r, _, _, _, rfl, rfl, hr1, atI_nat (j := 1) rfl, _, rfl, r, _, _, _, rfl, rfl, hr1, atI_nat (j := 0) rfl, _, _, rfl, h1, m1', fun p H' sp np hp => ?_⟩
        refine q p H' (s1.trans sp) (SqT.of ?_)
        have ef : F (pwF n d x.natAbs).2 (pwF n d x.natAbs).1 = pwF d n x.natAbs := F_flip hnp (pow_ne hd0 _)
        rw [ef] at hp
        exact hp
def frD (p : Int × Int) : PyData := .tuple [.int p.1, .int p.2]
theorem fr_dp {H : Hp} {a : Addr} {p : Int × Int} (h : Fr K H a p) : Dp K H (.ref a) (frD p) := .tup h (.cons (.int _) (.cons (.int _) .nil))
theorem frD_lay (p : Int × Int) : (frD p).canLay0 = true := by
  unfold frD
  simp [PyData.canLay0, PyData.canLayAll0]
theorem frD_depth (p : Int × Int) : (frD p).depth ≤ 3 := by
  unfold frD
  simp [PyData.depth, PyData.depthAll]
theorem frD_shaped (p : Int × Int) : SeqAt.shaped (frD p) = true := by
  unfold SeqAt.shaped
  rw [frD_lay, Bool.true_and]
  have := frD_depth p
  exact decide_eq_true (by omega)
theorem frDs_lay : ∀ ps : List (Int × Int), PyData.canLayAll0 (ps.map frD) = true
  | [] => rfl
  | p :: ps => by
    rw [List.map_cons]
    simp only [PyData.canLayAll0, frD_lay, frDs_lay ps, Bool.and_self]
theorem frDs_depth : ∀ ps : List (Int × Int), PyData.depthAll (ps.map frD) ≤ 3
  | [] => by simp [PyData.depthAll]
  | p :: ps => by
    rw [List.map_cons]
    have h1 := frD_depth p
    have h2 := frDs_depth ps
    simp only [PyData.depthAll]
    omega
theorem frL_shaped (ps : List (Int × Int)) : SeqAt.shaped (.list (ps.map frD)) = true := by
  unfold SeqAt.shaped
  have h1 : (PyData.list (ps.map frD)).canLay0 = true := by
    simp only [PyData.canLay0]
    exact frDs_lay ps
  have h2 : (PyData.list (ps.map frD)).depth ≤ 64 := by
    have := frDs_depth ps
    simp only [PyData.depth]
    omega
  rw [h1, Bool.true_and]
  exact decide_eq_true h2
theorem eqv_self {d : PyData} (h : SeqAt.shaped d = true) : PyData.eqv d d = true := SeqAt.eqv_refl d (SeqAt.canLay_of_shaped h)
theorem sqt_upd {H : Hp} {a g : Addr} {xs ys : List V} {o : HO} (hg : H g = some (.lst xs)) (h : SqT K H a ys) : SqT K (upd H g o) a ys := by
  rcases h with (h | ⟨o', h⟩) | h
  · exact .inl (.inl (by rw [upd_ne (ne_of h hg (by intro z; cases z))]; exact h))
  · exact .inl (.inr ⟨o', by rw [upd_ne (ne_of h hg (by intro z; cases z))]; exact h⟩)
  · exact .inr h
theorem same_put {H0 H : Hp} {g : Addr} {o : HO} (s : Same H0 H) (h : H0 g = none) : Same H0 (upd H g o) := fun b x e => by
  rw [upd_ne (ne_of_none e h)]
  exact s _ _ e
/-- the pairs fs stand one by one at the addresses -/
def Frs (K : PySem.W.Frag) (H : Hp) (as : List Addr) (fs : List (Int × Int)) : Prop := Paired (Fr K H) as fs
theorem Frs.same {H H' : Hp} (s : Same H H') {as : List Addr} {fs : List (Int × Int)} (h : Frs K H as fs) : Frs K H' as fs := Paired.mapP h fun _ _ x => s.fr x
theorem Frs.upd {H : Hp} {g : Addr} {xs : List V} {o : HO} (hg : H g = some (.lst xs)) {as : List Addr} {fs : List (Int × Int)} (h : Frs K H as fs) : Frs K (upd H g o) as fs := Paired.mapP h fun _ _ x => sqt_upd hg x
theorem Frs.snoc : ∀ {H : Hp} {as : List Addr} {fs : List (Int × Int)} {a : Addr} {f : Int × Int}, Frs K H as fs → Fr K H a f → Frs K H (as ++ [a]) (fs ++ [f])
  | _, _, _, _, _, .nil, h => .cons h .nil
  | _, _, _, _, _, .cons x t, h => .cons x (Frs.snoc t h)
theorem Frs.all : ∀ {H : Hp} {as : List Addr} {fs : List (Int × Int)}, Frs K H as fs → DpAll K H (as.map V.ref) (fs.map frD)
  | _, _, _, .nil => .nil
  | _, _, _, .cons x t => .cons (fr_dp x) (Frs.all t)
theorem frD_tup (p : Int × Int) : tupD 2 (frD p) := ⟨by show 2 < 1000000; decide, fun x hx => by
  simp only [List.mem_cons, List.not_mem_nil, or_false] at hx
  rcases hx with rfl | rfl <;> trivial⟩
theorem mem_frD {fs : List (Int × Int)} {d : PyData} (h : d ∈ fs.map frD) : tupD 2 d := by
  obtain ⟨p, _, rfl⟩ := List.mem_map.mp h
  exact frD_tup p
def spLaw (K : PySem.W.Frag) : Sp := fun vs H Q _ => ∃ (l : Addr) (ns : List Int), vs = [.ref l] ∧ SqL K H l (ns.map V.int) ∧ ns.length ≤ 63 ∧ ∀ H', Q (.bl true) H'
theorem big_mid {z : Int} {b : Nat} (h : z.natAbs < 2 ^ b) (hb : b ≤ 1900) : mid z := Nat.lt_of_lt_of_le h (Nat.pow_le_pow_right (by decide) hb)
theorem sg_mul {z sg : Int} (h : sg = 1 ∨ sg = -1) : (z * sg).natAbs = z.natAbs := by
  rcases h with rfl | rfl
  · rw [Int.mul_one]
  · omega
theorem F_sg {a b sg : Int} (h : sg = 1 ∨ sg = -1) (hb : b ≠ 0) : F (a * sg) (b * sg) = F a b := by
  rw [Int.mul_comm a, Int.mul_comm b]
  exact F_scale (by rcases h with rfl | rfl <;> decide) hb
/-- the law's numbers -/
structure Nums (a b c d : Int) : Prop where
  ha : a.natAbs < 2 ^ 60
  hb : b.natAbs < 2 ^ 60
  b0 : 0 < b
  hc : c.natAbs < 2 ^ 70
  hd : d.natAbs < 2 ^ 60
  d0 : 0 < d
/-- what stands when the lists are made -/
structure Lists (K : PySem.W.Frag) (H0 H : Hp) (a b c d : Int) (ap aq g u : Addr) (k : Nat) : Prop where
  same : Same H0 H
  hp : Fr K H ap (F a b)
  hq : Fr K H aq (F c d)
  ng : H0 g = none
  nu : H0 u = none
  ne : g ≠ u
  ls : ∃ gs us fs, H g = some (.lst (gs.map V.ref)) ∧ H u = some (.lst (us.map V.ref)) ∧ Frs K H gs fs ∧ Frs K H us fs ∧ fs.length ≤ k
theorem paired_len {α β : Type} {R : α → β → Prop} : ∀ {xs : List α} {ys : List β}, Paired R xs ys → xs.length = ys.length
  | _, _, .nil => rfl
  | _, _, .cons _ t => congrArg (· + 1) (paired_len t)
/-- got.append(..) of a new fraction, then due.append(..) of the same -/
theorem Lists.more {H0 H H1 H2 : Hp} {a b c d : Int} {ap aq g u x y : Addr} {f : Int × Int} {k : Nat} (L : Lists K H0 H a b c d ap aq g u k) (gs us : List Addr) (fs : List (Int × Int)) (hg : H g = some (.lst (gs.map V.ref))) (hu : H u = some (.lst (us.map V.ref))) (hgs : Frs K H gs fs) (hus : Frs K H us fs) (hl : fs.length ≤ k)
    (s1 : Same H H1) (hx : Fr K H1 x f) (s2 : Same (upd H1 g (.lst (gs.map V.ref ++ [.ref x]))) H2) (hy : Fr K H2 y f) :
    Lists K H0 (upd H2 u (.lst (us.map V.ref ++ [.ref y]))) a b c d ap aq g u (k + 1) := by
  have g1 := s1 _ _ hg
  have u1 : (upd H1 g (.lst (gs.map V.ref ++ [.ref x]))) u = some (.lst (us.map V.ref)) := by
    rw [upd_ne L.ne.symm]
    exact s1 _ _ hu
  have g2 := s2 _ _ (upd_same (H := H1) (a := g) (o := .lst (gs.map V.ref ++ [.ref x])))
  have u2 := s2 _ _ u1
  refine ⟨?_, ?_, ?_, L.ng, L.nu, L.ne, gs ++ [x], us ++ [y], fs ++ [f], ?_, ?_, ?_, ?_, ?_⟩
  · exact same_put ((same_put (L.same.trans s1) L.ng).trans s2) L.nu
  · exact sqt_upd u2 (s2.fr (sqt_upd g1 (s1.fr L.hp)))
  · exact sqt_upd u2 (s2.fr (sqt_upd g1 (s1.fr L.hq)))
  · rw [upd_ne L.ne, List.map_append]
    exact g2
  · rw [upd_same, List.map_append]
    rfl
  · exact (((hgs.same s1).upd g1).same s2).upd u2 |>.snoc (sqt_upd u2 (s2.fr (sqt_upd g1 hx)))
  · exact (((hus.same s1).upd g1).same s2).upd u2 |>.snoc (sqt_upd u2 hy)
  · rw [List.length_append]
    simp only [List.length_cons, List.length_nil]
    omega
theorem Lists.up {H0 H : Hp} {a b c d : Int} {ap aq g u : Addr} {k : Nat} (L : Lists K H0 H a b c d ap aq g u k) : Lists K H0 H a b c d ap aq g u (k + 1) := by
  obtain ⟨h1, h2, h3, h4, h5, h6, gs, us, fs, h7, h8, h9, h10, h11⟩ := L
  exact ⟨h1, h2, h3, h4, h5, h6, gs, us, fs, h7, h8, h9, h10, by omega⟩
theorem law_order {a b c d : Int} (hb : 0 < b) (hd : 0 < d) : (if (F a b).1 * (F c d).2 < (F c d).1 * (F a b).2 then (-1 : Int) else if (F c d).1 * (F a b).2 < (F a b).1 * (F c d).2 then 1 else 0) = b2i (decide (0 < a * d - c * b)) - b2i (decide (a * d - c * b < 0)) := by
  have h1 := cmp_F (a := a) (c := c) hb hd
  have h2 := cmp_F (a := c) (c := a) hd hb
  rw [b2i_decide, b2i_decide]
  by_cases x : (F a b).1 * (F c d).2 < (F c d).1 * (F a b).2
  · have y := h1.mp x
    rw [if_pos x, if_neg (by omega), if_pos (by omega)]
    all_goals rfl
  · rw [if_neg x]
    have y : ¬ a * d < c * b := fun z => x (h1.mpr z)
    by_cases x2 : (F c d).1 * (F a b).2 < (F a b).1 * (F c d).2
    · have y2 := h2.mp x2
      rw [if_pos x2, if_pos (by omega), if_neg (by omega)]
      all_goals rfl
    · have y2 : ¬ c * b < a * d := fun z => x2 (h2.mpr z)
      rw [if_neg x2, if_neg (by omega), if_neg (by omega)]
      all_goals rfl
theorem fr_mid {a b c d : Int} (N : Nums a b c d) : mid (F a b).1 ∧ mid (F a b).2 ∧ mid (F c d).1 ∧ mid (F c d).2 :=
  ⟨big_mid (Nat.lt_of_le_of_lt (F_le1 a (Int.ne_of_gt N.b0)) N.ha) (by decide), big_mid (Nat.lt_of_le_of_lt (F_le2 a (Int.ne_of_gt N.b0)) N.hb) (by decide),
    big_mid (Nat.lt_of_le_of_lt (F_le1 c (Int.ne_of_gt N.d0)) N.hc) (by decide), big_mid (Nat.lt_of_le_of_lt (F_le2 c (Int.ne_of_gt N.d0)) N.hd) (by decide)⟩
theorem ok_law {f : Addr} {fd : FuncData} (LF : Fun K "law" "law" s_law f fd) (T : Top K mg) : FnOk P w K mg base CX0 6 f fd ["script"] (spLaw K) := by
  refine LF.ok sc_law (fun vs H Q E h => ?_) (fun cdv A outer s H vs Q E hr h => ?_)
  · obtain ⟨l, ns, rfl, _⟩ := h
    rfl
  · obtain ⟨l, ns, rfl, hS, hlen, q⟩ := h
    refine ⟨_, (pss_cons (ps_set (i := 1) sc_law.nd rfl (by first | exact .inl rfl | exact .inr rfl) (pe_op op_sub (pe_op op_mod (pe_call (ok_law_cell T) (hr.mono (by decide)) (by rfl) T.g_law_cell T.F_law_cell.kp T.b_law_cell .nil pass0 (pa_cons (pv 0) (pa_cons pe_int pa_nil))) pe_int) pe_int))
      (pss_cons (ps_set (i := 2) sc_law.nd rfl (by first | exact .inl rfl | exact .inr rfl) (pe_op op_add (pe_op op_mod (pe_call (ok_law_cell T) (hr.mono (by decide)) (by rfl) T.g_law_cell T.F_law_cell.kp T.b_law_cell .nil pass0 (pa_cons (pv 0) (pa_cons pe_int pa_nil))) pe_int) pe_int))
      (pss_cons (ps_set (i := 3) sc_law.nd rfl (by first | exact .inl rfl | exact .inr rfl) (pe_op op_sub (pe_op op_mod (pe_call (ok_law_cell T) (hr.mono (by decide)) (by rfl) T.g_law_cell T.F_law_cell.kp T.b_law_cell .nil pass0 (pa_cons (pv 0) (pa_cons pe_int pa_nil))) (pe_op op_pow pe_int pe_int)) (pe_op op_mulW pe_int (pe_op op_pow pe_int pe_int))))
      (pss_cons (ps_set (i := 4) sc_law.nd rfl (by first | exact .inl rfl | exact .inr rfl) (pe_op op_add (pe_op op_mod (pe_call (ok_law_cell T) (hr.mono (by decide)) (by rfl) T.g_law_cell T.F_law_cell.kp T.b_law_cell .nil pass0 (pa_cons (pv 0) (pa_cons pe_int pa_nil))) (pe_op op_pow pe_int pe_int)) pe_int))
      (C8.pss_cut (ps_if (pt_cmpR op_eq (pe_op op_mod (pe_call (ok_law_cell T) (hr.mono (by decide)) (by rfl) T.g_law_cell T.F_law_cell.kp T.b_law_cell .nil pass0 (pa_cons (pv 0) (pa_cons pe_int pa_nil))) pe_int) pe_int (nomark _)) (pss_cons (ps_set (i := 3) sc_law.nd rfl (by first | exact .inl rfl | exact .inr rfl) (pe_op op_sub (pe_op op_mod (pe_call (ok_law_cell T) (hr.mono (by decide)) (by rfl) T.g_law_cell T.F_law_cell.kp T.b_law_cell .nil pass0 (pa_cons (pv 0) (pa_cons pe_int pa_nil))) pe_int) pe_int))
      (pss_one (ps_set (i := 4) sc_law.nd rfl (by first | exact .inl rfl | exact .inr rfl) (pe_op op_add (pe_op op_mod (pe_call (ok_law_cell T) (hr.mono (by decide)) (by rfl) T.g_law_cell T.F_law_cell.kp T.b_law_cell .nil pass0 (pa_cons (pv 0) (pa_cons pe_int pa_nil))) pe_int) pe_int)))) pss_nil)
      (C8.pss_cut (ps_set (i := 5) sc_law.nd rfl (by first | exact .inl rfl | exact .inr rfl) (pe_op op_sub pe_int (pe_op op_mulW pe_int (pe_op op_mod (pe_op op_fdiv (pe_call (ok_law_cell T) (hr.mono (by decide)) (by rfl) T.g_law_cell T.F_law_cell.kp T.b_law_cell .nil pass0 (pa_cons (pv 0) (pa_cons pe_int pa_nil))) pe_int) pe_int))))
      (pss_cons (ps_set (i := 6) sc_law.nd rfl (by first | exact .inl rfl | exact .inr rfl) (pe_call (ok_fraction T) (hr.mono (by decide)) (by rfl) T.g_fraction T.F_fraction.kp T.b_fraction .nil pass0 (pa_cons (pe_op op_mulW (pv 1) (pv 5)) (pa_cons (pe_op op_mulW (pv 2) (pv 5)) pa_nil))))
      (pss_cons (ps_set (i := 7) sc_law.nd rfl (by first | exact .inl rfl | exact .inr rfl) (pe_call (ok_fraction T) (hr.mono (by decide)) (by rfl) T.g_fraction T.F_fraction.kp T.b_fraction .nil pass0 (pa_cons (pe_op op_mulW (pv 3) (pv 5)) (pa_cons (pe_op op_mulW (pv 4) (pv 5)) pa_nil))))
      (pss_cons (ps_if (PW.pt (pw_or (pt_cmpR (op_neD hr.units) (pv 6) (pe_call (ok_law_frac T) (hr.mono (by decide)) (by rfl) T.g_law_frac T.F_law_frac.kp T.b_law_frac .nil pass0 (pa_cons (pv 1) (pa_cons (pv 2) pa_nil))) (nomark _)) (pw_or1 (pt_cmpR (op_neD hr.units) (pv 7) (pe_call (ok_law_frac T) (hr.mono (by decide)) (by rfl) T.g_law_frac T.F_law_frac.kp T.b_law_frac .nil pass0 (pa_cons (pv 3) (pa_cons (pv 4) pa_nil))) (nomark _))))) (pss_one (ps_ret pe_bl)) pss_nil)
      (pss_cons (ps_set (i := 8) sc_law.nd rfl (by first | exact .inl rfl | exact .inr rfl) (pe_op op_sub (pe_op op_mulW (pv 1) (pv 4)) (pe_op op_mulW (pv 3) (pv 2))))
      (C8.pss_cut (ps_set (i := 9) sc_law.nd rfl (by first | exact .inl rfl | exact .inr rfl) (pe_op op_sub_bb (pe_cmpR op_gt (pv 8) pe_int (nomark _)) (pe_cmpR op_lt (pv 8) pe_int (nomark _))))
      (pss_cons (ps_set (i := 10) sc_law.nd rfl (by first | exact .inl rfl | exact .inr rfl) (pe_lst (pa_cons (pv 6) (pa_cons (pv 7) (pa_cons (pe_call (ok_add T) (hr.mono (by decide)) (by rfl) T.g_add T.F_add.kp T.b_add .nil pass0 (pa_cons (pv 6) (pa_cons (pv 7) pa_nil))) (pa_cons (pe_call (ok_subtract T) (hr.mono (by decide)) (by rfl) T.g_subtract T.F_subtract.kp T.b_subtract .nil pass0 (pa_cons (pv 6) (pa_cons (pv 7) pa_nil))) (pa_cons (pe_call (ok_multiply T) (hr.mono (by decide)) (by rfl) T.g_multiply T.F_multiply.kp T.b_multiply .nil pass0 (pa_cons (pv 6) (pa_cons (pv 7) pa_nil))) pa_nil)))))))
      (pss_cons (ps_set (i := 11) sc_law.nd rfl (by first | exact .inl rfl | exact .inr rfl) (pe_lst (pa_cons (pv 6) (pa_cons (pv 7) (pa_cons (pe_call (ok_law_frac T) (hr.mono (by decide)) (by rfl) T.g_law_frac T.F_law_frac.kp T.b_law_frac .nil pass0 (pa_cons (pe_op op_add (pe_op op_mulW (pv 1) (pv 4)) (pe_op op_mulW (pv 3) (pv 2))) (pa_cons (pe_op op_mulW (pv 2) (pv 4)) pa_nil))) (pa_cons (pe_call (ok_law_frac T) (hr.mono (by decide)) (by rfl) T.g_law_frac T.F_law_frac.kp T.b_law_frac .nil pass0 (pa_cons (pv 8) (pa_cons (pe_op op_mulW (pv 2) (pv 4)) pa_nil))) (pa_cons (pe_call (ok_law_frac T) (hr.mono (by decide)) (by rfl) T.g_law_frac T.F_law_frac.kp T.b_law_frac .nil pass0 (pa_cons (pe_op op_mulW (pv 1) (pv 3)) (pa_cons (pe_op op_mulW (pv 2) (pv 4)) pa_nil))) pa_nil)))))))
      (C8.pss_cut (ps_set (i := 12) sc_law.nd rfl (by first | exact .inl rfl | exact .inr rfl) (pe_op op_sub (pe_op op_mod (pe_call (ok_law_cell T) (hr.mono (by decide)) (by rfl) T.g_law_cell T.F_law_cell.kp T.b_law_cell .nil pass0 (pa_cons (pv 0) (pa_cons pe_int pa_nil))) pe_int) pe_int))
      (C8.pss_cut (ps_if (pt_cmpR op_ne (pv 3) pe_int (nomark _)) (pss_cons (ps_expr (pe_bm PySem.F.plainAttrs_list PySem.F.slot_list_append PySem.F.type_list_append mt_append (pv 10) (pa_cons (pe_call (ok_divide T) (hr.mono (by decide)) (by rfl) T.g_divide T.F_divide.kp T.b_divide .nil pass0 (pa_cons (pv 6) (pa_cons (pv 7) pa_nil))) pa_nil)))
      (pss_one (ps_expr (pe_bm PySem.F.plainAttrs_list PySem.F.slot_list_append PySem.F.type_list_append mt_append (pv 11) (pa_cons (pe_call (ok_law_frac T) (hr.mono (by decide)) (by rfl) T.g_law_frac T.F_law_frac.kp T.b_law_frac .nil pass0 (pa_cons (pe_op op_mulW (pv 1) (pv 4)) (pa_cons (pe_op op_mulW (pv 2) (pv 3)) pa_nil))) pa_nil))))) pss_nil)
      (C8.pss_cut (ps_if (PW.pt (pw_or (pt_cmpR op_ne (pv 1) pe_int (nomark _)) (pw_or1 (pt_cmpR op_ge (pv 12) pe_int (nomark _))))) (pss_cons (ps_expr (pe_bm PySem.F.plainAttrs_list PySem.F.slot_list_append PySem.F.type_list_append mt_append (pv 10) (pa_cons (pe_call (ok_raised T) (hr.mono (by decide)) (by rfl) T.g_raised T.F_raised.kp T.b_raised .nil pass0 (pa_cons (pv 6) (pa_cons (pv 12) pa_nil))) pa_nil)))
      (pss_one (ps_expr (pe_bm PySem.F.plainAttrs_list PySem.F.slot_list_append PySem.F.type_list_append mt_append (pv 11) (pa_cons (pe_call (ok_law_pow T) (hr.mono (by decide)) (by rfl) T.g_law_pow T.F_law_pow.kp T.b_law_pow .nil pass0 (pa_cons (pe_call (ok_law_frac T) (hr.mono (by decide)) (by rfl) T.g_law_frac T.F_law_frac.kp T.b_law_frac .nil pass0 (pa_cons (pv 1) (pa_cons (pv 2) pa_nil))) (pa_cons (pv 12) pa_nil))) pa_nil))))) pss_nil)
      (pss_cons (ps_if (PW.pt (pw_or (pt_cmpR (op_neD hr.units) (pv 10) (pv 11) (nomark _)) (pw_or1 (pt_not (pt_val (pe_callB (cr_all rfl) (by rfl) T.m_all (by decide +kernel) (pa_cons (pe_lc (own := [("value", 13)]) (g := gName 13) (tt := tYes) rfl sc_law.nd (pi_list (pv 10)) (blkOk_by (own := [("value", 13)]) (N := n_law) (sc := defScope s_law) (by decide +kernel)) (fun _ _ _ _ _ => (pg_name (i := 13) sc_law.nd rfl (by first | exact .inl rfl | exact .inr rfl))) (fun _ _ _ _ _ => pts_nil) (fun _ _ _ _ _ => (pe_call (ok_law_tuples T 2) (hr.mono (by decide)) (by rfl) T.g_law_tuples T.F_law_tuples.kp T.b_law_tuples .nil pass0 (pa_cons (pv 13) pa_nil)))) pa_nil))))))) (pss_one (ps_ret pe_bl)) pss_nil)
      (pss_cons (ps_set (i := 14) sc_law.nd rfl (by first | exact .inl rfl | exact .inr rfl) (pe_call (ok_compare T) (hr.mono (by decide)) (by rfl) T.g_compare T.F_compare.kp T.b_compare .nil pass0 (pa_cons (pv 6) (pa_cons (pv 7) pa_nil))))
      (pss_one (ps_ret (pe_and (pe_cmpR op_eq (pv 14) (pv 9) (nomark _)) (pe_and (pe_callB call_isi (by rfl) T.m_isinstance (by decide +kernel) (pa_cons (pv 14) (pa_cons (pe_bltn (v := .ty "int") (by rfl) T.m_int boot_int rfl) pa_nil))) (pe_and (pe_not (pe_callB call_isi (by rfl) T.m_isinstance (by decide +kernel) (pa_cons (pv 14) (pa_cons (pe_bltn (v := .ty "bool") (by rfl) T.m_bool boot_bool rfl) pa_nil)))) (pe_one (pe_cmpR op_eq (pe_call (ok_compare T) (hr.mono (by decide)) (by rfl) T.g_compare T.F_compare.kp T.b_compare .nil pass0 (pa_cons (pv 6) (pa_cons (pv 6) pa_nil))) pe_int (nomark _)))))))))))))))))))))))))), ?_⟩
    have c1 : CPow 10 20 := ⟨by decide, by decide, by decide⟩
    have c2 : CPow 10 19 := ⟨by decide, by decide, by decide⟩
    have c3 : CPow 10 15 := ⟨by decide, by decide, by decide⟩
    -- a, b, c, d
    refine ⟨_, rfl, l, ns, 0, rfl, hS, _, _, rfl, rfl, (by show (0 : Int) < 2001; decide), _, _, rfl, rfl, ?_⟩
    refine ⟨_, rfl, l, ns, 1, rfl, hS, _, _, rfl, rfl, (by show (0 : Int) < 1000; decide), _, _, rfl, rfl, ?_⟩
    refine ⟨_, rfl, l, ns, 2, rfl, hS, _, _, rfl, rfl, c1, _, _, rfl, rfl, (by show (0 : Int) < 10 ^ (20 : Int).toNat; decide), _, _, rfl, rfl, c2, _, _, rfl, rfl, (by show CMulW 5 (10 ^ (19 : Int).toNat); exact wide_mul (a := 3) (b := 64) (by decide) (by decide) (by decide) (by decide) (by decide)), _, _, rfl, rfl, ?_⟩
    refine ⟨_, rfl, l, ns, 3, rfl, hS, _, _, rfl, rfl, c3, _, _, rfl, rfl, (by show (0 : Int) < 10 ^ (15 : Int).toNat; decide), _, _, rfl, rfl, ?_⟩
    -- if _law_cell(script, 4) % 2 == 1
    refine ⟨fun σ' H' => H' = H ∧ ∃ a b c d : Int, Nums a b c d ∧ σ' = [some (.ref l), some (.int a), some (.int b), some (.int c), some (.int d), none, none, none, none, none, none, none, none, none, none], ?_, ?_⟩
    · have ha : (cellZ ns 0 % 2001 - 1000).natAbs < 2 ^ 60 := by omega
      have hb : (cellZ ns 1 % 1000 + 1).natAbs < 2 ^ 60 := by omega
      have b0 : 0 < cellZ ns 1 % 1000 + 1 := by omega
      refine ⟨_, rfl, l, ns, 4, rfl, hS, _, _, rfl, rfl, (by show (0 : Int) < 2; decide), rfl, _, rfl, ite2 (fun _ => ?_) (fun _ => ?_)⟩
      · refine ⟨_, rfl, l, ns, 2, rfl, hS, _, _, rfl, rfl, (by show (0 : Int) < 7; decide), _, _, rfl, rfl, ?_⟩
        refine ⟨_, rfl, l, ns, 3, rfl, hS, _, _, rfl, rfl, (by show (0 : Int) < 5; decide), _, _, rfl, rfl, ?_⟩
        exact ⟨rfl, _, _, _, _, ⟨ha, hb, b0, by omega, by omega, by omega⟩, rfl⟩
      · refine ⟨rfl, _, _, _, _, ⟨ha, hb, b0, ?_, ?_, ?_⟩, rfl⟩
        · show (cellZ ns 2 % 10 ^ (20 : Int).toNat - 5 * 10 ^ (19 : Int).toNat).natAbs < 2 ^ 70
          have e1 : (10 : Int) ^ (20 : Int).toNat = 100000000000000000000 := by decide
          have e2 : (10 : Int) ^ (19 : Int).toNat = 10000000000000000000 := by decide
          rw [e1, e2]
          omega
        · show (cellZ ns 3 % 10 ^ (15 : Int).toNat + 1).natAbs < 2 ^ 60
          have e1 : (10 : Int) ^ (15 : Int).toNat = 1000000000000000 := by decide
          rw [e1]
          omega
        · show 0 < cellZ ns 3 % 10 ^ (15 : Int).toNat + 1
          have e1 : (10 : Int) ^ (15 : Int).toNat = 1000000000000000 := by decide
          rw [e1]
          omega
    rintro σ1 H1 ⟨rfl, a, b, c, d, N, rfl⟩
    have b0 : b ≠ 0 := Int.ne_of_gt N.b0
    have d0 : d ≠ 0 := Int.ne_of_gt N.d0
    -- sign
    refine ⟨fun σ' H' => H' = H1 ∧ ∃ sg : Int, (sg = 1 ∨ sg = -1) ∧ σ' = [some (.ref l), some (.int a), some (.int b), some (.int c), some (.int d), some (.int sg), none, none, none, none, none, none, none, none, none], ?_, ?_⟩
    · refine ⟨_, rfl, l, ns, 4, rfl, hS, _, _, rfl, rfl, ⟨by decide, by decide⟩, _, _, rfl, rfl, (by show (0 : Int) < 2; decide), _, _, rfl, rfl, wide_mul (a := 2) (b := 2) (by decide) (by omega) (by decide) (by decide) (by decide), _, _, rfl, rfl, rfl, _, ?_, rfl⟩
      show 1 - 2 * (cellZ ns 4 / 2 % 2) = 1 ∨ 1 - 2 * (cellZ ns 4 / 2 % 2) = -1
      omega
    rintro σ2 H2 ⟨rfl, sg, hsg, rfl⟩
    have sb : (b * sg) ≠ 0 := by rcases hsg with rfl | rfl <;> omega
    have sd : (d * sg) ≠ 0 := by rcases hsg with rfl | rfl <;> omega
    have ms : sg.natAbs < 2 ^ 60 := by rcases hsg with rfl | rfl <;> decide
    have w60 : ∀ {x y : Int}, x.natAbs < 2 ^ 70 → y.natAbs < 2 ^ 70 → CMulW x y := fun hx hy => wide_mul hx hy (by decide) (by decide) (by decide)
    have up : ∀ {x : Int}, x.natAbs < 2 ^ 60 → x.natAbs < 2 ^ 70 := fun h => Nat.lt_of_lt_of_le h (by decide)
    have sm : ∀ {x : Int}, x.natAbs < 2 ^ 60 → small x := fun h => Nat.lt_of_lt_of_le h (Nat.pow_le_pow_right (by decide) (by decide))
    -- p, q
    refine ⟨_, rfl, _, rfl, _, _, rfl, rfl, w60 (up N.ha) (up ms), _, rfl, _, rfl, _, _, rfl, rfl, w60 (up N.hb) (up ms), _, _, rfl, sb, (by show small (b * sg); exact sm (by rw [sg_mul hsg]; exact N.hb)), fun ap H3 s3 np hp => ?_⟩
    rw [show F _ _ = F a b from F_sg hsg b0] at hp
    refine ⟨_, rfl, _, rfl, _, _, rfl, rfl, w60 N.hc (up ms), _, rfl, _, rfl, _, _, rfl, rfl, w60 (up N.hd) (up ms), _, _, rfl, sd, (by show small (d * sg); exact sm (by rw [sg_mul hsg]; exact N.hd)), fun aq H4 s4 nq hq => ?_⟩
    rw [show F _ _ = F c d from F_sg hsg d0] at hq
    have hp4 : Fr K H4 ap (F a b) := s4.fr (SqT.of hp)
    have hq4 : Fr K H4 aq (F c d) := SqT.of hq
    -- if p != .. or q != ..
    refine ⟨_, rfl, _, rfl, _, rfl, _, _, rfl, b0, sm N.hb, fun r1 H5 s5 n5 h5 => ⟨_, _, fr_dp (s5.fr hp4), fr_dp (SqT.of h5), frD_shaped _, frD_shaped _, _, rfl, ?_⟩⟩
    rw [eqv_self (frD_shaped _)]
    refine iteF ?_
    refine ⟨_, rfl, _, rfl, _, rfl, _, _, rfl, d0, sm N.hd, fun r2 H6 s6 n6 h6 => ⟨_, _, fr_dp (s6.fr (s5.fr hq4)), fr_dp (SqT.of h6), frD_shaped _, frD_shaped _, _, rfl, ?_⟩⟩
    rw [eqv_self (frD_shaped _)]
    refine iteF ?_
    have s06 : Same H2 H6 := ((s3.trans s4).trans s5).trans s6
    have hp6 := s6.fr (s5.fr hp4)
    have hq6 := s6.fr (s5.fr hq4)
    -- difference, order
    have hord := law_order (a := a) (c := c) N.b0 N.d0
    refine ⟨_, rfl, _, rfl, _, _, rfl, rfl, w60 (up N.ha) (up N.hd), _, rfl, _, rfl, _, _, rfl, rfl, w60 N.hc (up N.hb), _, _, rfl, rfl, ?_⟩
    refine ⟨fun σ' H' => H' = H6 ∧ σ' = [some (.ref l), some (.int a), some (.int b), some (.int c), some (.int d), some (.int sg), some (.ref ap), some (.ref aq), some (.int (a * d - c * b)), some (.int (b2i (decide (0 < a * d - c * b)) - b2i (decide (a * d - c * b < 0)))), none, none, none, none, none], ?_, ?_⟩
    · exact ⟨_, rfl, _, _, rfl, rfl, _, rfl, _, _, rfl, rfl, _, _, rfl, rfl, rfl, rfl⟩
    rintro σ3 H7 ⟨rfl, rfl⟩
    generalize b2i (decide (0 < a * d - c * b)) - b2i (decide (a * d - c * b < 0)) = ord at hord
    generalize hdf : a * d - c * b = df
    obtain ⟨p1, p2, p3, p4⟩ := fr_mid N
    have pn : (F a b).2 ≠ 0 := Int.ne_of_gt (F_pos a b0)
    have qn : (F c d).2 ≠ 0 := Int.ne_of_gt (F_pos c d0)
    have okpq : okA (F a b) (F c d) := ⟨p1, p2, p3, p4, pn, qn⟩
    -- got
    refine ⟨_, rfl, _, rfl, _, rfl, _, rfl, ap, aq, _, _, rfl, hp6, hq6, okpq, fun x1 J1 t1 _ y1 => ?_⟩
    have hp7 := t1.fr hp6
    have hq7 := t1.fr hq6
    refine ⟨_, rfl, _, rfl, ap, aq, _, _, rfl, hp7, hq7, okpq, fun x2 J2 t2 _ y2 => ?_⟩
    have hp8 := t2.fr hp7
    have hq8 := t2.fr hq7
    refine ⟨_, rfl, _, rfl, ap, aq, _, _, rfl, hp8, hq8, okpq, fun x3 J3 t3 _ y3 => ?_⟩
    refine ⟨sl_of (by show 5 ≤ 1000000; decide), fun g ng => ?_⟩
    have t4 := same_upd (o := .lst [.ref ap, .ref aq, .ref x1, .ref x2, .ref x3]) ng
    have sJ : Same H7 J3 := (t1.trans t2).trans t3
    have hg : (upd J3 g (.lst [.ref ap, .ref aq, .ref x1, .ref x2, .ref x3])) g = some (.lst (([ap, aq, x1, x2, x3] : List Addr).map V.ref)) := upd_same
    rw [addF_F b0 d0] at y1
    rw [subF_F b0 d0] at y2
    rw [mulF_F b0 d0] at y3
    have hgs : Frs K (upd J3 g (.lst [.ref ap, .ref aq, .ref x1, .ref x2, .ref x3])) [ap, aq, x1, x2, x3] [F a b, F c d, F (a * d + c * b) (b * d), F (a * d - c * b) (b * d), F (a * c) (b * d)] :=
      .cons (t4.fr (t3.fr hp8)) (.cons (t4.fr (t3.fr hq8)) (.cons (t4.fr (t3.fr (t2.fr (SqT.of y1)))) (.cons (t4.fr (t3.fr (SqT.of y2))) (.cons (t4.fr (SqT.of y3)) .nil))))
    generalize upd J3 g (.lst [.ref ap, .ref aq, .ref x1, .ref x2, .ref x3]) = J4 at t4 hg hgs ⊢
    -- due
    have wbd : (b * d).natAbs < 2 ^ 140 := wide_lt (up N.hb) (up N.hd)
    have bd0 : b * d ≠ 0 := Int.mul_ne_zero b0 d0
    have sbd : small (b * d) := Nat.lt_of_lt_of_le wbd (Nat.pow_le_pow_right (by decide) (by decide))
    refine ⟨_, rfl, _, rfl, ?_⟩
    refine ⟨_, rfl, _, rfl, _, _, rfl, rfl, w60 (up N.ha) (up N.hd), _, rfl, _, rfl, _, _, rfl, rfl, w60 N.hc (up N.hb), _, _, rfl, rfl, _, rfl, _, rfl, _, _, rfl, rfl, w60 (up N.hb) (up N.hd), _, _, rfl, bd0, sbd, fun z1 J5 t5 _ v1 => ?_⟩
    refine ⟨_, rfl, _, rfl, _, rfl, _, _, rfl, rfl, w60 (up N.hb) (up N.hd), _, _, rfl, bd0, sbd, fun z2 J6 t6 _ v2 => ?_⟩
    refine ⟨_, rfl, _, rfl, _, _, rfl, rfl, w60 (up N.ha) N.hc, _, rfl, _, rfl, _, _, rfl, rfl, w60 (up N.hb) (up N.hd), _, _, rfl, bd0, sbd, fun z3 J7 t7 _ v3 => ?_⟩
    rw [← hdf] at v2
    refine ⟨sl_of (by show 5 ≤ 1000000; decide), fun u nu => ?_⟩
    have t8 := same_upd (o := .lst [.ref ap, .ref aq, .ref z1, .ref z2, .ref z3]) nu
    have hu : (upd J7 u (.lst [.ref ap, .ref aq, .ref z1, .ref z2, .ref z3])) u = some (.lst (([ap, aq, z1, z2, z3] : List Addr).map V.ref)) := upd_same
    have t47 : Same J4 J7 := (t5.trans t6).trans t7
    have hp9 : Fr K J7 ap (F a b) := t47.fr (t4.fr (t3.fr hp8))
    have hq9 : Fr K J7 aq (F c d) := t47.fr (t4.fr (t3.fr hq8))
    have hus : Frs K (upd J7 u (.lst [.ref ap, .ref aq, .ref z1, .ref z2, .ref z3])) [ap, aq, z1, z2, z3] [F a b, F c d, F (a * d + c * b) (b * d), F (a * d - c * b) (b * d), F (a * c) (b * d)] :=
      .cons (t8.fr hp9) (.cons (t8.fr hq9) (.cons (t8.fr (t7.fr (t6.fr (SqT.of v1)))) (.cons (t8.fr (t7.fr (SqT.of v2))) (.cons (t8.fr (SqT.of v3)) .nil))))
    have L0 : Lists K H7 (upd J7 u (.lst [.ref ap, .ref aq, .ref z1, .ref z2, .ref z3])) a b c d ap aq g u 5 :=
      ⟨((sJ.trans t4).trans t47).trans t8, t8.fr hp9, t8.fr hq9, sJ.free ng, ((sJ.trans t4).trans t47).free nu, ne_of_none (t47 _ _ hg) nu, _, _, _, t8 _ _ (t47 _ _ hg), hu, Frs.same t8 (Frs.same t47 hgs), hus, Nat.le_refl _⟩
    generalize upd J7 u (.lst [.ref ap, .ref aq, .ref z1, .ref z2, .ref z3]) = J8 at L0 ⊢
    -- exponent
    refine ⟨fun σ' H' => H' = J8 ∧ ∃ x : Int, x.natAbs ≤ 10 ∧ σ' = [some (.ref l), some (.int a), some (.int b), some (.int c), some (.int d), some (.int sg), some (.ref ap), some (.ref aq), some (.int df), some (.int ord), some (.ref g), some (.ref u), some (.int x), none, none], ?_, ?_⟩
    · refine ⟨_, rfl, l, ns, 5, rfl, (s06.trans L0.same).seq hS, _, _, rfl, rfl, (by show (0 : Int) < 11; decide), _, _, rfl, rfl, rfl, _, ?_, rfl⟩
      show (cellZ ns 5 % 11 - 5).natAbs ≤ 10
      omega
    rintro σ4 H8 ⟨rfl, x, hx, rfl⟩
    -- if c != 0
    refine ⟨fun σ' H' => Lists K H7 H' a b c d ap aq g u 6 ∧ σ' = [some (.ref l), some (.int a), some (.int b), some (.int c), some (.int d), some (.int sg), some (.ref ap), some (.ref aq), some (.int df), some (.int ord), some (.ref g), some (.ref u), some (.int x), none, none], ?_, ?_⟩
    · refine ⟨_, rfl, rfl, _, rfl, iteB (fun e => ?_) (fun e => ?_)⟩
      · have c0 : c ≠ 0 := fun z => by
          rw [z] at e
          revert e
          decide
        obtain ⟨gs, us, fs, hg, hu, hgs, hus, hl⟩ := L0.ls
        have lgs := paired_len hgs
        have lus := paired_len hus
        refine ⟨_, rfl, .inl ⟨rfl, _, .inl (.inl hg)⟩, _, rfl, _, rfl, ap, aq, _, _, rfl, L0.hp, L0.hq, ⟨p1, p2, p3, p4, pn, fun z => c0 ((F_zero c d0).mp z)⟩, fun x1 J1 t1 _ y1 => ⟨g, _, _, rfl, rfl, t1 _ _ hg, sl_lt (by rw [List.length_map]; omega), ?_⟩⟩
        have hu1 : (upd J1 g (.lst (gs.map V.ref ++ [.ref x1]))) u = some (.lst (us.map V.ref)) := by
          rw [upd_ne L0.ne.symm]
          exact t1 _ _ hu
        have bc0 : b * c ≠ 0 := Int.mul_ne_zero b0 c0
        have sbc : small (b * c) := Nat.lt_of_lt_of_le (wide_lt (up N.hb) N.hc) (Nat.pow_le_pow_right (by decide) (by decide))
        refine ⟨_, rfl, .inl ⟨rfl, _, .inl (.inl hu1)⟩, _, rfl, _, rfl, _, _, rfl, rfl, w60 (up N.ha) (up N.hd), _, rfl, _, rfl, _, _, rfl, rfl, w60 (up N.hb) N.hc, _, _, rfl, bc0, sbc, fun x2 J2 t2 _ y2 => ⟨u, _, _, rfl, rfl, t2 _ _ hu1, sl_lt (by rw [List.length_map]; omega), ?_⟩⟩
        rw [divF_F b0 d0 c0] at y1
        exact ⟨L0.more gs us fs hg hu hgs hus hl t1 (SqT.of y1) t2 (SqT.of y2), rfl⟩
      · exact ⟨L0.up, rfl⟩
    rintro σ5 H9 ⟨L1, rfl⟩
    -- if a != 0 or exponent >= 0
    refine ⟨fun σ' H' => Lists K H7 H' a b c d ap aq g u 7 ∧ σ' = [some (.ref l), some (.int a), some (.int b), some (.int c), some (.int d), some (.int sg), some (.ref ap), some (.ref aq), some (.int df), some (.int ord), some (.ref g), some (.ref u), some (.int x), none, none], ?_, ?_⟩
    · have hx1 := L1.ls
      obtain ⟨gs, us, fs, hg, hu, hgs, hus, hl⟩ := hx1
      have lgs := paired_len hgs
      have lus := paired_len hus
      refine ⟨_, rfl, rfl, _, rfl, iteB (fun e => ?_) (fun e => ?_)⟩
      · have a0 : a ≠ 0 := fun z => by
          rw [z] at e
          revert e
          decide
        refine iteT ?_
        refine ⟨_, rfl, .inl ⟨rfl, _, .inl (.inl hg)⟩, _, rfl, _, rfl, ap, a, b, x, rfl, N.b0, N.ha, N.hb, hx, fun _ => a0, L1.hp, fun x1 J1 t1 y1 => ⟨g, _, _, rfl, rfl, t1 _ _ hg, sl_lt (by rw [List.length_map]; omega), ?_⟩⟩
        have hu1 : (upd J1 g (.lst (gs.map V.ref ++ [.ref x1]))) u = some (.lst (us.map V.ref)) := by
          rw [upd_ne L1.ne.symm]
          exact t1 _ _ hu
        refine ⟨_, rfl, .inl ⟨rfl, _, .inl (.inl hu1)⟩, _, rfl, _, rfl, _, _, rfl, b0, sm N.hb, fun r3 J2 t2 _ y2 => ?_⟩
        refine ⟨_, rfl, r3, a, b, x, rfl, N.b0, N.ha, N.hb, hx, fun _ => a0, SqT.of y2, fun x2 J3 t3 y3 => ⟨u, _, _, rfl, rfl, t3 _ _ (t2 _ _ hu1), sl_lt (by rw [List.length_map]; omega), ?_⟩⟩
        exact ⟨L1.more gs us fs hg hu hgs hus hl t1 y1 (t2.trans t3) y3, rfl⟩
      · have a0 : a = 0 := by
          rcases Int.lt_trichotomy a 0 with z | z | z
          · exfalso
            revert e
            simp
            omega
          · exact z
          · exfalso
            revert e
            simp
            omega
        refine ⟨_, rfl, _, _, rfl, rfl, _, rfl, ite2 (fun ex => ?_) (fun ex => ?_)⟩
        · have hx0 : 0 ≤ x := of_decide_eq_true ex
          refine ⟨_, rfl, .inl ⟨rfl, _, .inl (.inl hg)⟩, _, rfl, _, rfl, ap, a, b, x, rfl, N.b0, N.ha, N.hb, hx, fun z => by omega, L1.hp, fun x1 J1 t1 y1 => ⟨g, _, _, rfl, rfl, t1 _ _ hg, sl_lt (by rw [List.length_map]; omega), ?_⟩⟩
          have hu1 : (upd J1 g (.lst (gs.map V.ref ++ [.ref x1]))) u = some (.lst (us.map V.ref)) := by
            rw [upd_ne L1.ne.symm]
            exact t1 _ _ hu
          refine ⟨_, rfl, .inl ⟨rfl, _, .inl (.inl hu1)⟩, _, rfl, _, rfl, _, _, rfl, b0, sm N.hb, fun r3 J2 t2 _ y2 => ?_⟩
          refine ⟨_, rfl, r3, a, b, x, rfl, N.b0, N.ha, N.hb, hx, fun z => by omega, SqT.of y2, fun x2 J3 t3 y3 => ⟨u, _, _, rfl, rfl, t3 _ _ (t2 _ _ hu1), sl_lt (by rw [List.length_map]; omega), ?_⟩⟩
          exact ⟨L1.more gs us fs hg hu hgs hus hl t1 y1 (t2.trans t3) y3, rfl⟩
        · exact ⟨L1.up, rfl⟩
    rintro σ6 H10 ⟨L2, rfl⟩
    obtain ⟨gs, us, fs, hg, hu, hgs, hus, hl⟩ := L2.ls
    have lgs := paired_len hgs
    -- if got != due or not all(..)
    refine ⟨_, rfl, _, rfl, _, _, .lst (SqL.of hg) hgs.all, .lst (SqL.of hu) hus.all, frL_shaped fs, frL_shaped fs, _, rfl, ?_⟩
    rw [eqv_self (frL_shaped fs)]
    refine iteF ?_
    refine ⟨_, rfl, g, rfl, ⟨_, SqL.of hg⟩, fun D hD => lc_list (xs := gs.map V.ref) (fun i H' => Same H10 H' ∧ H' D = some (.lst ((List.replicate i true).map V.bl)) ∧ i ≤ (gs.map V.ref).length) ⟨same_upd hD, upd_same, Nat.zero_le _⟩ (fun i H' _ h => h.1.seq (SqL.of hg)) (fun i y H' hi hP => ?_) (fun H' hP => ?_)⟩
    · obtain ⟨r1, hl1, hix⟩ := hP
      obtain ⟨dt, _, hm, hdx⟩ := dpAll_get hgs.all hi
      have hil : i < (gs.map V.ref).length := (List.getElem?_eq_some_iff.mp hi).1
      refine ⟨rfl, _, rfl, y, dt, rfl, dp_same r1 hdx, mem_frD hm, fun K2 r2 => ⟨_, r2 _ _ hl1, ?_, fun bb o e => ?_, ?_, hil⟩⟩
      · rw [List.length_map, List.length_replicate]
        rw [List.length_map] at hil
        exact sl_lt (by omega)
      · rw [upd_ne (ne_of_none e hD)]
        exact r2 _ _ (r1 _ _ e)
      · rw [upd_same, List.replicate_succ', List.map_append]
        rfl
    · obtain ⟨r1, hl1, _⟩ := hP
      have e : (List.replicate (gs.map V.ref).length true).all id = true := by
        rw [List.all_eq_true]
        intro x hx
        rw [List.eq_of_mem_replicate hx]
        rfl
      refine ⟨D, _, rfl, SqL.of hl1, _, rfl, ?_⟩
      rw [e]
      refine iteF ?_
      -- told = compare(p, q)
      have hpe := r1.fr L2.hp
      have hqe := r1.fr L2.hq
      refine ⟨_, rfl, _, rfl, ap, aq, _, _, rfl, hpe, hqe, p1, p2, p3, p4, ?_⟩
      rw [hord]
      refine ⟨_, rfl, _, rfl, rfl, _, rfl, ?_⟩
      rw [decide_eq_true rfl]
      refine iteT ?_
      refine ⟨_, rfl, _, _, _, _, _, rfl, .ty _, .base (.int _), kit_ty (r := true) (by decide +kernel), _, rfl, iteT ?_⟩
      refine ⟨_, rfl, _, _, _, _, _, rfl, .ty _, .base (.int _), kit_ty (r := false) (by decide +kernel), _, rfl, _, rfl, iteT ?_⟩
      refine ⟨_, rfl, _, rfl, ap, ap, _, _, rfl, hpe, hpe, p1, p2, p1, p2, rfl, ?_⟩
      rw [if_neg (Int.lt_irrefl _), if_neg (Int.lt_irrefl _), decide_eq_true rfl]
      exact q _
end
theorem all_mk {l : PySem.W.OpenLaw} {w : World} {K : PySem.W.Frag} {h : Heap} {mg : Str → Option Value} {fa f0 f1 f2 f3 f4 f5 f6 f7 f8 f9 f10 f11 f12 f13 f14 : Addr} (X : K.In h) (G : h.Ns mainGlobals mg) (hfa : mg "law" = some (.ref fa))
    {od0 an0 od1 an1 od2 an2 od3 an3 od4 an4 od5 an5 od6 an6 od7 an7 od8 an8 od9 an9 od10 an10 od11 an11 od12 an12 od13 an13 od14 an14 : Option Addr} {sl0 sl1 sl2 sl3 sl4 sl5 sl6 sl7 sl8 sl9 sl10 sl11 sl12 sl13 sl14 : Array (Option Value)} {oc0 kV0 dc0 pm0 cd0 ct0 oc1 kV1 dc1 pm1 cd1 ct1 oc2 kV2 dc2 pm2 cd2 ct2 oc3 kV3 dc3 pm3 cd3 ct3 oc4 kV4 dc4 pm4 cd4 ct4 oc5 kV5 dc5 pm5 cd5 ct5 oc6 kV6 dc6 pm6 cd6 ct6 oc7 kV7 dc7 pm7 cd7 ct7 oc8 kV8 dc8 pm8 cd8 ct8 oc9 kV9 dc9 pm9 cd9 ct9 oc10 kV10 dc10 pm10 cd10 ct10 oc11 kV11 dc11 pm11 cd11 ct11 oc12 kV12 dc12 pm12 cd12 ct12 oc13 kV13 dc13 pm13 cd13 ct13 oc14 kV14 dc14 pm14 cd14 ct14 : Value}
    (a0 : PySem.W.nsIn K mainGlobals "fraction" = some (some (.ref f0))) (l0 : K.lookup f0 = some ⟨oc0, od0, .func (PySem.W.fnOf "fraction" "fraction" (defArgs s_fraction) (defBody s_fraction) (defScope s_fraction) .none kV0 dc0 pm0 an0 cd0 ct0), sl0⟩) (c0 : PySem.W.codeIn K cd0 "fraction" = true) (k0 : PySem.W.keepIn K (.ref f0) = true)
    (a1 : PySem.W.nsIn K mainGlobals "add" = some (some (.ref f1))) (l1 : K.lookup f1 = some ⟨oc1, od1, .func (PySem.W.fnOf "add" "add" (defArgs s_add) (defBody s_add) (defScope s_add) .none kV1 dc1 pm1 an1 cd1 ct1), sl1⟩) (c1 : PySem.W.codeIn K cd1 "add" = true) (k1 : PySem.W.keepIn K (.ref f1) = true)
    (a2 : PySem.W.nsIn K mainGlobals "subtract" = some (some (.ref f2))) (l2 : K.lookup f2 = some ⟨oc2, od2, .func (PySem.W.fnOf "subtract" "subtract" (defArgs s_subtract) (defBody s_subtract) (defScope s_subtract) .none kV2 dc2 pm2 an2 cd2 ct2), sl2⟩) (c2 : PySem.W.codeIn K cd2 "subtract" = true) (k2 : PySem.W.keepIn K (.ref f2) = true)
    (a3 : PySem.W.nsIn K mainGlobals "multiply" = some (some (.ref f3))) (l3 : K.lookup f3 = some ⟨oc3, od3, .func (PySem.W.fnOf "multiply" "multiply" (defArgs s_multiply) (defBody s_multiply) (defScope s_multiply) .none kV3 dc3 pm3 an3 cd3 ct3), sl3⟩) (c3 : PySem.W.codeIn K cd3 "multiply" = true) (k3 : PySem.W.keepIn K (.ref f3) = true)
    (a4 : PySem.W.nsIn K mainGlobals "divide" = some (some (.ref f4))) (l4 : K.lookup f4 = some ⟨oc4, od4, .func (PySem.W.fnOf "divide" "divide" (defArgs s_divide) (defBody s_divide) (defScope s_divide) .none kV4 dc4 pm4 an4 cd4 ct4), sl4⟩) (c4 : PySem.W.codeIn K cd4 "divide" = true) (k4 : PySem.W.keepIn K (.ref f4) = true)
    (a5 : PySem.W.nsIn K mainGlobals "compare" = some (some (.ref f5))) (l5 : K.lookup f5 = some ⟨oc5, od5, .func (PySem.W.fnOf "compare" "compare" (defArgs s_compare) (defBody s_compare) (defScope s_compare) .none kV5 dc5 pm5 an5 cd5 ct5), sl5⟩) (c5 : PySem.W.codeIn K cd5 "compare" = true) (k5 : PySem.W.keepIn K (.ref f5) = true)
    (a6 : PySem.W.nsIn K mainGlobals "raised" = some (some (.ref f6))) (l6 : K.lookup f6 = some ⟨oc6, od6, .func (PySem.W.fnOf "raised" "raised" (defArgs s_raised) (defBody s_raised) (defScope s_raised) .none kV6 dc6 pm6 an6 cd6 ct6), sl6⟩) (c6 : PySem.W.codeIn K cd6 "raised" = true) (k6 : PySem.W.keepIn K (.ref f6) = true)
    (a7 : PySem.W.nsIn K mainGlobals "repeated" = some (some (.ref f7))) (l7 : K.lookup f7 = some ⟨oc7, od7, .func (PySem.W.fnOf "repeated" "repeated" (defArgs s_repeated) (defBody s_repeated) (defScope s_repeated) .none kV7 dc7 pm7 an7 cd7 ct7), sl7⟩) (c7 : PySem.W.codeIn K cd7 "repeated" = true) (k7 : PySem.W.keepIn K (.ref f7) = true)
    (a8 : PySem.W.nsIn K mainGlobals "_law_cell" = some (some (.ref f8))) (l8 : K.lookup f8 = some ⟨oc8, od8, .func (PySem.W.fnOf "_law_cell" "_law_cell" (defArgs s_law_cell) (defBody s_law_cell) (defScope s_law_cell) .none kV8 dc8 pm8 an8 cd8 ct8), sl8⟩) (c8 : PySem.W.codeIn K cd8 "_law_cell" = true) (k8 : PySem.W.keepIn K (.ref f8) = true)
    (a9 : PySem.W.nsIn K mainGlobals "_law_tuples" = some (some (.ref f9))) (l9 : K.lookup f9 = some ⟨oc9, od9, .func (PySem.W.fnOf "_law_tuples" "_law_tuples" (defArgs s_law_tuples) (defBody s_law_tuples) (defScope s_law_tuples) .none kV9 dc9 pm9 an9 cd9 ct9), sl9⟩) (c9 : PySem.W.codeIn K cd9 "_law_tuples" = true) (k9 : PySem.W.keepIn K (.ref f9) = true)
    (a10 : PySem.W.nsIn K mainGlobals "_law_gcd" = some (some (.ref f10))) (l10 : K.lookup f10 = some ⟨oc10, od10, .func (PySem.W.fnOf "_law_gcd" "_law_gcd" (defArgs s_law_gcd) (defBody s_law_gcd) (defScope s_law_gcd) .none kV10 dc10 pm10 an10 cd10 ct10), sl10⟩) (c10 : PySem.W.codeIn K cd10 "_law_gcd" = true) (k10 : PySem.W.keepIn K (.ref f10) = true)
    (a11 : PySem.W.nsIn K mainGlobals "_law_frac" = some (some (.ref f11))) (l11 : K.lookup f11 = some ⟨oc11, od11, .func (PySem.W.fnOf "_law_frac" "_law_frac" (defArgs s_law_frac) (defBody s_law_frac) (defScope s_law_frac) .none kV11 dc11 pm11 an11 cd11 ct11), sl11⟩) (c11 : PySem.W.codeIn K cd11 "_law_frac" = true) (k11 : PySem.W.keepIn K (.ref f11) = true)
    (a12 : PySem.W.nsIn K mainGlobals "_law_mul" = some (some (.ref f12))) (l12 : K.lookup f12 = some ⟨oc12, od12, .func (PySem.W.fnOf "_law_mul" "_law_mul" (defArgs s_law_mul) (defBody s_law_mul) (defScope s_law_mul) .none kV12 dc12 pm12 an12 cd12 ct12), sl12⟩) (c12 : PySem.W.codeIn K cd12 "_law_mul" = true) (k12 : PySem.W.keepIn K (.ref f12) = true)
    (a13 : PySem.W.nsIn K mainGlobals "_law_pow" = some (some (.ref f13))) (l13 : K.lookup f13 = some ⟨oc13, od13, .func (PySem.W.fnOf "_law_pow" "_law_pow" (defArgs s_law_pow) (defBody s_law_pow) (defScope s_law_pow) .none kV13 dc13 pm13 an13 cd13 ct13), sl13⟩) (c13 : PySem.W.codeIn K cd13 "_law_pow" = true) (k13 : PySem.W.keepIn K (.ref f13) = true)
    (a14 : PySem.W.nsIn K mainGlobals "law" = some (some (.ref f14))) (l14 : K.lookup f14 = some ⟨oc14, od14, .func (PySem.W.fnOf "law" "law" (defArgs s_law) (defBody s_law) (defScope s_law) .none kV14 dc14 pm14 an14 cd14 ct14), sl14⟩) (c14 : PySem.W.codeIn K cd14 "law" = true) (k14 : PySem.W.keepIn K (.ref f14) = true)
    (i_gcd : PySem.W.nsIn K mainGlobals "gcd" = some (some (.builtin "math.gcd")))
    (z_abs : PySem.W.nsIn K mainGlobals "abs" = some none)
    (z_all : PySem.W.nsIn K mainGlobals "all" = some none)
    (z_bool : PySem.W.nsIn K mainGlobals "bool" = some none)
    (z_int : PySem.W.nsIn K mainGlobals "int" = some none)
    (z_isinstance : PySem.W.nsIn K mainGlobals "isinstance" = some none)
    (z_len : PySem.W.nsIn K mainGlobals "len" = some none)
    (z_range : PySem.W.nsIn K mainGlobals "range" = some none)
    (z_tuple : PySem.W.nsIn K mainGlobals "tuple" = some none) :
    ∃ fd : FuncData, (∀ (s : Shared) (v : Value), BindsTo s fd ⟨[v], []⟩ [("script", v)]) ∧ ∀ base : Heap, K.In base → base.Ns mainGlobals mg → FnOk l.prog w K mg base CX0 6 fa fd ["script"] (spLaw K) := by
  have e := hfa.symm.trans (PySem.W.mg_of X G a14)
  cases e
  have F0 := fun_mk (st := s_fraction) l0 c0 k0
  have b0 := F0.binds (ps := ["numerator", "denominator"]) fun _ _ _ _ _ _ us hl => match us, hl with | [_, _], _ => rfl
  have F1 := fun_mk (st := s_add) l1 c1 k1
  have b1 := F1.binds (ps := ["a", "b"]) fun _ _ _ _ _ _ us hl => match us, hl with | [_, _], _ => rfl
  have F2 := fun_mk (st := s_subtract) l2 c2 k2
  have b2 := F2.binds (ps := ["a", "b"]) fun _ _ _ _ _ _ us hl => match us, hl with | [_, _], _ => rfl
  have F3 := fun_mk (st := s_multiply) l3 c3 k3
  have b3 := F3.binds (ps := ["a", "b"]) fun _ _ _ _ _ _ us hl => match us, hl with | [_, _], _ => rfl
  have F4 := fun_mk (st := s_divide) l4 c4 k4
  have b4 := F4.binds (ps := ["a", "b"]) fun _ _ _ _ _ _ us hl => match us, hl with | [_, _], _ => rfl
  have F5 := fun_mk (st := s_compare) l5 c5 k5
  have b5 := F5.binds (ps := ["a", "b"]) fun _ _ _ _ _ _ us hl => match us, hl with | [_, _], _ => rfl
  have F6 := fun_mk (st := s_raised) l6 c6 k6
  have b6 := F6.binds (ps := ["a", "exponent"]) fun _ _ _ _ _ _ us hl => match us, hl with | [_, _], _ => rfl
  have F7 := fun_mk (st := s_repeated) l7 c7 k7
  have b7 := F7.binds (ps := ["base", "exponent", "one", "combine"]) fun _ _ _ _ _ _ us hl => match us, hl with | [_, _, _, _], _ => rfl
  have F8 := fun_mk (st := s_law_cell) l8 c8 k8
  have b8 := F8.binds (ps := ["script", "k"]) fun _ _ _ _ _ _ us hl => match us, hl with | [_, _], _ => rfl
  have F9 := fun_mk (st := s_law_tuples) l9 c9 k9
  have b9 := F9.binds (ps := ["value"]) fun _ _ _ _ _ _ us hl => match us, hl with | [_], _ => rfl
  have F10 := fun_mk (st := s_law_gcd) l10 c10 k10
  have b10 := F10.binds (ps := ["a", "b"]) fun _ _ _ _ _ _ us hl => match us, hl with | [_, _], _ => rfl
  have F11 := fun_mk (st := s_law_frac) l11 c11 k11
  have b11 := F11.binds (ps := ["a", "b"]) fun _ _ _ _ _ _ us hl => match us, hl with | [_, _], _ => rfl
  have F12 := fun_mk (st := s_law_mul) l12 c12 k12
  have b12 := F12.binds (ps := ["p", "q"]) fun _ _ _ _ _ _ us hl => match us, hl with | [_, _], _ => rfl
  have F13 := fun_mk (st := s_law_pow) l13 c13 k13
  have b13 := F13.binds (ps := ["p", "n"]) fun _ _ _ _ _ _ us hl => match us, hl with | [_, _], _ => rfl
  have F14 := fun_mk (st := s_law) l14 c14 k14
  have T : Top K mg := ⟨f0, _, F0, b0, PySem.W.mg_of X G a0, f1, _, F1, b1, PySem.W.mg_of X G a1, f2, _, F2, b2, PySem.W.mg_of X G a2, f3, _, F3, b3, PySem.W.mg_of X G a3, f4, _, F4, b4, PySem.W.mg_of X G a4, f5, _, F5, b5, PySem.W.mg_of X G a5, f6, _, F6, b6, PySem.W.mg_of X G a6, f7, _, F7, b7, PySem.W.mg_of X G a7, f8, _, F8, b8, PySem.W.mg_of X G a8, f9, _, F9, b9, PySem.W.mg_of X G a9, f10, _, F10, b10, PySem.W.mg_of X G a10, f11, _, F11, b11, PySem.W.mg_of X G a11, f12, _, F12, b12, PySem.W.mg_of X G a12, f13, _, F13, b13, PySem.W.mg_of X G a13, PySem.W.mg_of X G i_gcd, PySem.W.mg_none_of X G z_abs, PySem.W.mg_none_of X G z_all, PySem.W.mg_none_of X G z_bool, PySem.W.mg_none_of X G z_int, PySem.W.mg_none_of X G z_isinstance, PySem.W.mg_none_of X G z_len, PySem.W.mg_none_of X G z_range, PySem.W.mg_none_of X G z_tuple⟩
  exact ⟨PySem.W.fnOf "law" "law" (defArgs s_law) (defBody s_law) (defScope s_law) .none kV14 dc14 pm14 an14 cd14 ct14, fun s v => .of_eq rfl, fun base _ _ => ok_law F14 T⟩
end KP
open PySem PySem.W PyProof.Rows
set_option maxHeartbeats 0 in
theorem PySem.Challenge.cw_spinfield_k04_fractions_holds : PySem.Challenge.rw_spinfield_k04_fractions.Holds := by
  w_on; o_law; k_head; (case hw => w_witness2)
  k_fill
  refine L2.walk_of (l := PySem.Challenge.rw_spinfield_k04_fractions) (n := 63) (k := 6) (x := "script") (CX := fun _ => L2.CX0) (sp := fun w => KP.spLaw _) rfl (by decide) rfl ⟨rfl, by decide, by decide⟩ (fun w h Y => PySem.W.kIn_of Y) ?F (fun _ _ a ns hl _ hS => ⟨a, ns, rfl, hS, hl, fun _ => rfl⟩) (fun _ _ _ _ _ h => h)
  case F =>
    intro w mg fa h KX G hmg
    refine' KP.all_mk KX G hmg ?a0 ?l0 ?c0 ?k0 ?a1 ?l1 ?c1 ?k1 ?a2 ?l2 ?c2 ?k2 ?a3 ?l3 ?c3 ?k3 ?a4 ?l4 ?c4 ?k4 ?a5 ?l5 ?c5 ?k5 ?a6 ?l6 ?c6 ?k6 ?a7 ?l7 ?c7 ?k7 ?a8 ?l8 ?c8 ?k8 ?a9 ?l9 ?c9 ?k9 ?a10 ?l10 ?c10 ?k10 ?a11 ?l11 ?c11 ?k11 ?a12 ?l12 ?c12 ?k12 ?a13 ?l13 ?c13 ?k13 ?a14 ?l14 ?c14 ?k14 ?i_gcd ?z_abs ?z_all ?z_bool ?z_int ?z_isinstance ?z_len ?z_range ?z_tuple
    (case a0 => k_is); (case l0 => k_is); (case c0 => k_is); (case k0 => k_is); (case a1 => k_is); (case l1 => k_is); (case c1 => k_is); (case k1 => k_is); (case a2 => k_is); (case l2 => k_is); (case c2 => k_is); (case k2 => k_is); (case a3 => k_is); (case l3 => k_is); (case c3 => k_is); (case k3 => k_is); (case a4 => k_is); (case l4 => k_is); (case c4 => k_is); (case k4 => k_is); (case a5 => k_is); (case l5 => k_is); (case c5 => k_is); (case k5 => k_is); (case a6 => k_is); (case l6 => k_is); (case c6 => k_is); (case k6 => k_is); (case a7 => k_is); (case l7 => k_is); (case c7 => k_is); (case k7 => k_is); (case a8 => k_is); (case l8 => k_is); (case c8 => k_is); (case k8 => k_is); (case a9 => k_is); (case l9 => k_is); (case c9 => k_is); (case k9 => k_is); (case a10 => k_is); (case l10 => k_is); (case c10 => k_is); (case k10 => k_is); (case a11 => k_is); (case l11 => k_is); (case c11 => k_is); (case k11 => k_is); (case a12 => k_is); (case l12 => k_is); (case c12 => k_is); (case k12 => k_is); (case a13 => k_is); (case l13 => k_is); (case c13 => k_is); (case k13 => k_is); (case a14 => k_is); (case l14 => k_is); (case c14 => k_is); (case k14 => k_is); (case i_gcd => k_is); (case z_abs => k_is); (case z_all => k_is); (case z_bool => k_is); (case z_int => k_is); (case z_isinstance => k_is); (case z_len => k_is); (case z_range => k_is); (case z_tuple => k_is)