/-
  Plain arithmetic: what follows of numbers by powers of two.
-/
import Derived.Test.YtiniobcknmaigaaMathD
namespace Go.Proofs.Ytiniobcknmaigaa.Qm

/-- rounded, times the unit, it is off by half a unit at most -/
theorem near_err (n d : Int) (hd : 1 ≤ d) : 2 * (near (n / d) (n % d) d * d - n) ≤ d ∧ -d ≤ 2 * (near (n / d) (n % d) d * d - n) := by
  have e := Int.emod_add_mul_ediv n d
  have m0 := Int.emod_nonneg n (show d ≠ 0 by omega)
  have m1 := Int.emod_lt_of_pos n (show 0 < d by omega)
  rw [Int.mul_comm d] at e
  unfold near
  split
  · rw [Int.add_mul, Int.one_mul]; omega
  · omega
theorem half_err (n : Int) (k : Nat) (hk : k ≤ 62) : 2 * (half n k * 2 ^ k - n) ≤ 2 ^ k ∧ -2 ^ k ≤ 2 * (half n k * 2 ^ k - n) := by
  unfold half
  rw [hk_mid (by omega) (by omega), Int.toNat_natCast]
  exact near_err n (2 ^ k) (pow_bd k hk).1
theorem half_zero (n : Int) : half n 0 = n := by
  unfold half
  rw [hk_mid (by omega) (by omega)]
  have : near (n / 1) (n % 1) 1 = n := by rw [near_stay] <;> simp
  exact this
theorem near_twice (q r d : Int) : near q (2 * r) (2 * d) = near q r d := by
  unfold near
  by_cases h : d < 2 * r ∨ (2 * r = d ∧ q % 2 = 1)
  · rw [if_pos h, if_pos (by omega)]
  · rw [if_neg h, if_neg (by omega)]
theorem half_twice (m : Int) (k : Nat) (hk : k ≤ 60) : half m k = half (2 * m) (k + 1) := by
  unfold half
  rw [hk_mid (by omega) (by omega), hk_mid (by omega) (by omega), Int.toNat_natCast, show ((k : Int) + 1).toNat = k + 1 by omega]
  have hp : (0 : Int) < 2 ^ k := Int.pow_pos (by omega)
  have e : (2 : Int) ^ (k + 1) = 2 * 2 ^ k := by rw [Int.pow_succ, Int.mul_comm]
  rw [e, Int.mul_ediv_mul_of_pos _ _ (by omega), Int.mul_emod_mul_of_pos _ _ (by omega), near_twice]

end Go.Proofs.Ytiniobcknmaigaa.Qm
