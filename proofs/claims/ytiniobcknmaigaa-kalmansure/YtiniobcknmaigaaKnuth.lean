/-
  Plain arithmetic: a long division in halves of 32 bits, as math/bits.Div64 does it. No program in sight.
-/
namespace Go.Proofs.Ytiniobcknmaigaa.Qm

theorem mulV (q v1 v0 : Int) : q * (v1 * 4294967296 + v0) = q * v1 * 4294967296 + q * v0 := by rw [Int.mul_add, Int.mul_assoc]

/-- what stands at the head of a round that mends a guess: q the guess, r what is left of the upper half -/
structure Guess (u v1 v0 c q r : Int) : Prop where
  sum : q * v1 + r = u
  r0 : 0 ≤ r
  r1 : r ≤ 4294967295
  q0 : 0 ≤ q
  q1 : q ≤ 4294967297
  up : u * 4294967296 + c < q * v1 * 4294967296 + q * v0 + v1 * 4294967296 + v0
  a0 : 0 ≤ q * v1
  b0 : 0 ≤ q * v0

/-- what may be divided -/
structure Fit (u v1 v0 c : Int) : Prop where
  v10 : 2147483648 ≤ v1
  v11 : v1 ≤ 4294967295
  v00 : 0 ≤ v0
  v01 : v0 ≤ 4294967295
  u0 : 0 ≤ u
  u1 : u < v1 * 4294967296 + v0
  c0 : 0 ≤ c
  c1 : c ≤ 4294967295

theorem Guess.init {u v1 v0 c : Int} (f : Fit u v1 v0 c) : Guess u v1 v0 c (u / v1) (u - u / v1 * v1) := by
  obtain ⟨v10, v11, v00, v01, u0, u1, c0, c1⟩ := f
  have hq0 : 0 ≤ u / v1 := Int.ediv_nonneg u0 (by omega)
  have e := Int.emod_add_mul_ediv u v1
  have m0 := Int.emod_nonneg u (show v1 ≠ 0 by omega)
  have m1 := Int.emod_lt_of_pos u (show 0 < v1 by omega)
  rw [Int.mul_comm] at e
  have hb0 : 0 ≤ u / v1 * v0 := Int.mul_nonneg hq0 v00
  have ha0 : 0 ≤ u / v1 * v1 := Int.mul_nonneg hq0 (by omega)
  have hq1 : u / v1 < 4294967298 := Int.ediv_lt_of_lt_mul (by omega) (by omega)
  exact ⟨by omega, by omega, by omega, hq0, by omega, by omega, ha0, hb0⟩

/-- a guess that is too great -/
theorem Guess.less {u v1 v0 c q r : Int} (f : Fit u v1 v0 c) (g : Guess u v1 v0 c q r) (h : 4294967296 ≤ q ∨ 4294967296 * r + c < q * v0) :
    1 ≤ q ∧ u * 4294967296 + c < q * v1 * 4294967296 + q * v0 := by
  obtain ⟨v10, v11, v00, v01, u0, u1, c0, c1⟩ := f
  obtain ⟨sum, r0, r1, q0, q1, up, a0, b0⟩ := g
  rcases h with h | h
  · refine ⟨by omega, ?_⟩
    have h1 : 4294967296 * v1 ≤ q * v1 := Int.mul_le_mul_of_nonneg_right h (by omega)
    have h2 : 4294967296 * v0 ≤ q * v0 := Int.mul_le_mul_of_nonneg_right h (by omega)
    omega
  · refine ⟨?_, by omega⟩
    by_cases hq : 0 < q
    · omega
    · have : q = 0 := by omega
      subst this
      rw [Int.zero_mul] at h
      omega

theorem Guess.next {u v1 v0 c q r : Int} (f : Fit u v1 v0 c) (g : Guess u v1 v0 c q r) (h : 4294967296 ≤ q ∨ 4294967296 * r + c < q * v0) (hr : r + v1 < 4294967296) :
    Guess u v1 v0 c (q - 1) (r + v1) := by
  obtain ⟨h1, h2⟩ := g.less f h
  obtain ⟨v10, v11, v00, v01, u0, u1, c0, c1⟩ := f
  obtain ⟨sum, r0, r1, q0, q1, up, a0, b0⟩ := g
  have e1 : (q - 1) * v1 = q * v1 - v1 := by rw [Int.sub_mul, Int.one_mul]
  have e0 : (q - 1) * v0 = q * v0 - v0 := by rw [Int.sub_mul, Int.one_mul]
  have n1 : 0 ≤ (q - 1) * v1 := Int.mul_nonneg (by omega) (by omega)
  have n0 : 0 ≤ (q - 1) * v0 := Int.mul_nonneg (by omega) (by omega)
  exact ⟨by omega, by omega, by omega, by omega, by omega, by omega, n1, n0⟩

/-- the guess is right: the quotient, and what is left, going round at 2^64 or not -/
def Hit (u v1 v0 c q : Int) : Prop := q = (u * 4294967296 + c) / (v1 * 4294967296 + v0)

theorem hit_of {u v1 v0 c q : Int} (f : Fit u v1 v0 c) (h1 : q * v1 * 4294967296 + q * v0 ≤ u * 4294967296 + c) (h2 : u * 4294967296 + c < q * v1 * 4294967296 + q * v0 + v1 * 4294967296 + v0) : Hit u v1 v0 c q := by
  obtain ⟨v10, v11, v00, v01, u0, u1, c0, c1⟩ := f
  unfold Hit
  symm
  have hV : 0 < v1 * 4294967296 + v0 := by omega
  apply (Int.ediv_eq_iff_of_pos hV).2
  have e := mulV q v1 v0
  constructor
  · omega
  · have e2 : (q + 1) * (v1 * 4294967296 + v0) = q * (v1 * 4294967296 + v0) + (v1 * 4294967296 + v0) := by rw [Int.add_mul, Int.one_mul]
    omega

/-- the round that breaks off -/
theorem Guess.broke {u v1 v0 c q r : Int} (f : Fit u v1 v0 c) (g : Guess u v1 v0 c q r) (h : 4294967296 ≤ q ∨ 4294967296 * r + c < q * v0) (hr : ¬ r + v1 < 4294967296) :
    Hit u v1 v0 c (q - 1) := by
  obtain ⟨h1, h2⟩ := g.less f h
  have f' := f
  obtain ⟨v10, v11, v00, v01, u0, u1, c0, c1⟩ := f
  obtain ⟨sum, r0, r1, q0, q1, up, a0, b0⟩ := g
  have e1 : (q - 1) * v1 = q * v1 - v1 := by rw [Int.sub_mul, Int.one_mul]
  have e0 : (q - 1) * v0 = q * v0 - v0 := by rw [Int.sub_mul, Int.one_mul]
  have n0 : (q - 1) * v0 ≤ 4294967296 * 4294967295 := Int.mul_le_mul (by omega) v01 v00 (by omega)
  exact hit_of f' (by omega) (by omega)

/-- the guess stands -/
theorem Guess.stands {u v1 v0 c q r : Int} (f : Fit u v1 v0 c) (g : Guess u v1 v0 c q r) (h : ¬ 4294967296 * r + c < q * v0) :
    Hit u v1 v0 c q := by
  obtain ⟨sum, r0, r1, q0, q1, up, a0, b0⟩ := g
  exact hit_of f (by omega) (by omega)

/-- what a right guess says -/
theorem Hit.bounds {u v1 v0 c q : Int} (f : Fit u v1 v0 c) (h : Hit u v1 v0 c q) :
    0 ≤ q ∧ q ≤ 4294967295 ∧ u * 4294967296 + c - q * (v1 * 4294967296 + v0) = (u * 4294967296 + c) % (v1 * 4294967296 + v0) ∧
    0 ≤ (u * 4294967296 + c) % (v1 * 4294967296 + v0) ∧ (u * 4294967296 + c) % (v1 * 4294967296 + v0) < v1 * 4294967296 + v0 := by
  obtain ⟨v10, v11, v00, v01, u0, u1, c0, c1⟩ := f
  unfold Hit at h
  have hV : 0 < v1 * 4294967296 + v0 := by omega
  have e := Int.emod_add_mul_ediv (u * 4294967296 + c) (v1 * 4294967296 + v0)
  rw [← h, Int.mul_comm (v1 * 4294967296 + v0) q] at e
  have hq0 : 0 ≤ q := by rw [h]; exact Int.ediv_nonneg (by omega) (by omega)
  have hq1 : q < 4294967296 := by rw [h]; exact Int.ediv_lt_of_lt_mul hV (by omega)
  exact ⟨hq0, by omega, by omega, Int.emod_nonneg _ (by omega), Int.emod_lt_of_pos _ hV⟩

end Go.Proofs.Ytiniobcknmaigaa.Qm
