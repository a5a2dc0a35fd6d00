/-
  Plain arithmetic: what a long division in halves comes to.
-/
import Derived.Test.YtiniobcknmaigaaKnuth
namespace Go.Proofs.Ytiniobcknmaigaa.Qm

/-- two words by one -/
def dq (hi lo y : Int) : Int := (hi * 18446744073709551616 + lo) / y
def dr (hi lo y : Int) : Int := (hi * 18446744073709551616 + lo) % y

theorem div_by {n V q r : Int} (h : n = q * V + r) (h0 : 0 ≤ r) (h1 : r < V) : n / V = q ∧ n % V = r := by
  subst h
  have hV : 0 < V := by omega
  rw [Int.add_comm, Int.add_mul_ediv_right _ _ (by omega), Int.add_mul_emod_self_right, Int.ediv_eq_zero_of_lt h0 h1, Int.emod_eq_of_lt h0 h1]
  omega

/-- the two steps together -/
theorem two_steps {hi lo y T V U c1 c0 v1 v0 q q0 R1 : Int} (hT : 0 < T) (hV : y * T = V) (hVs : V = v1 * 4294967296 + v0)
    (hX : (hi * 18446744073709551616 + lo) * T = (U * 4294967296 + c1) * 4294967296 + c0)
    (f : Fit U v1 v0 c1) (h : Hit U v1 v0 c1 q) (hR : R1 = (U * 4294967296 + c1) % (v1 * 4294967296 + v0)) (f2 : Fit R1 v1 v0 c0) (h2 : Hit R1 v1 v0 c0 q0) :
    q * 4294967296 + q0 = dq hi lo y ∧ ((R1 * 4294967296 + c0) % (v1 * 4294967296 + v0)) / T = dr hi lo y := by
  obtain ⟨_, _, e1, _, _⟩ := h.bounds f
  obtain ⟨_, _, e2, m0, m1⟩ := h2.bounds f2
  rw [← hVs] at *
  rw [← hR] at e1
  generalize hR2 : (R1 * 4294967296 + c0) % V = R2 at *
  have hq : (hi * 18446744073709551616 + lo) * T = (q * 4294967296 + q0) * V + R2 := by
    have e3 : (q * 4294967296 + q0) * V = q * V * 4294967296 + q0 * V := by rw [Int.add_mul, Int.mul_right_comm]
    omega
  obtain ⟨d1, d2⟩ := div_by hq m0 m1
  rw [← hV, Int.mul_ediv_mul_of_pos_left _ _ hT] at d1
  rw [← hV, Int.mul_comm _ T, Int.mul_comm y T, Int.mul_emod_mul_of_pos _ _ hT] at d2
  refine ⟨d1.symm, ?_⟩
  rw [← d2, Int.mul_comm, Int.mul_ediv_cancel _ (by omega)]
  rfl

theorem dr_bd {hi lo y : Int} (hy : 0 < y) : 0 ≤ dr hi lo y ∧ dr hi lo y < y := ⟨Int.emod_nonneg _ (by omega), Int.emod_lt_of_pos _ hy⟩

end Go.Proofs.Ytiniobcknmaigaa.Qm
