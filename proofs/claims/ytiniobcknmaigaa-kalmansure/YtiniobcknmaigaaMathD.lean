/-
  Plain arithmetic: numbers by powers of two.
-/
import Derived.Test.YtiniobcknmaigaaMath
namespace Go.Proofs.Ytiniobcknmaigaa.Qm

/-- which power -/
def hk (b : Int) : Nat := if b < 0 then 0 else if 62 < b then 62 else b.toNat
/-- a number by a power of two, rounded -/
def half (n b : Int) : Int := near (n / 2 ^ hk b) (n % 2 ^ hk b) (2 ^ hk b)
theorem hk_mid {b : Int} (h0 : 0 ≤ b) (h1 : b ≤ 62) : hk b = b.toNat := by unfold hk; rw [if_neg (by omega), if_neg (by omega)]
theorem hk_low {b : Int} (h0 : b < 0) : hk b = 0 := by unfold hk; rw [if_pos h0]
theorem hk_high {b : Int} (h0 : 62 < b) : hk b = 62 := by unfold hk; rw [if_neg (by omega), if_pos h0]
theorem hk_le (b : Int) : hk b ≤ 62 := by unfold hk; split <;> (try split) <;> omega
theorem pow_bd (k : Nat) (h : k ≤ 62) : (1 : Int) ≤ 2 ^ k ∧ (2 : Int) ^ k ≤ 4611686018427387904 := by
  have h1 := Nat.pow_le_pow_right (n := 2) (by decide) h
  have h2 := Nat.two_pow_pos k
  have h3 : ((2 ^ k : Nat) : Int) ≤ ((2 ^ 62 : Nat) : Int) := by omega
  have h4 : ((1 : Nat) : Int) ≤ ((2 ^ k : Nat) : Int) := by omega
  exact ⟨by simpa using h4, by simpa using h3⟩
theorem ediv_bd {n d : Int} (hd : 1 ≤ d) (h0 : -9223372036854775808 ≤ n) (h1 : n ≤ 9223372036854775807) : -9223372036854775808 ≤ n / d ∧ n / d ≤ 9223372036854775807 := by
  have e := Int.emod_add_mul_ediv n d
  have m0 := Int.emod_nonneg n (show d ≠ 0 by omega)
  have m1 := Int.emod_lt_of_pos n (show 0 < d by omega)
  constructor
  · by_cases h : n / d < -9223372036854775808
    · have : d * (n / d) ≤ d * (-9223372036854775809) := Int.mul_le_mul_of_nonneg_left (by omega) (by omega)
      omega
    · omega
  · by_cases h : 9223372036854775807 < n / d
    · have : d * 9223372036854775808 ≤ d * (n / d) := Int.mul_le_mul_of_nonneg_left (by omega) (by omega)
      omega
    · omega
/-- what comes out fits into a word -/
theorem half_bd {n : Int} (k : Nat) (h0 : -9223372036854775808 ≤ n) (h1 : n ≤ 9223372036854775807) : near (n / 2 ^ k) (n % 2 ^ k) (2 ^ k) ≤ 9223372036854775807 := by
  cases k with
  | zero =>
    have : near (n / 2 ^ 0) (n % 2 ^ 0) (2 ^ 0) = n := by
      rw [near_stay] <;> simp
    omega
  | succ k =>
    have h := (near_bd (n / 2 ^ (k + 1)) (n % 2 ^ (k + 1)) (2 ^ (k + 1))).2
    have hp : (0 : Int) < 2 ^ k := Int.pow_pos (by omega)
    have e : (2 : Int) ^ (k + 1) = 2 * 2 ^ k := by rw [Int.pow_succ, Int.mul_comm]
    have h2 : n / 2 ^ (k + 1) ≤ 4611686018427387903 := by
      rw [e, ← Int.ediv_ediv_of_nonneg (by omega)]
      have h3 : n / 2 ≤ 4611686018427387903 := by omega
      by_cases hn : 0 ≤ n / 2
      · exact Int.le_trans (Int.ediv_le_self _ hn) h3
      · have : n / 2 / 2 ^ k < 0 := Int.ediv_neg_of_neg_of_pos (by omega) hp
        omega
    omega

end Go.Proofs.Ytiniobcknmaigaa.Qm
