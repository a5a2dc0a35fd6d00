/-
  The contracts of the leaves of package qfix and of the document's answer: each call returns what the plain arithmetic says.
-/
import Derived.Test.YtliebglildaneaaRows
import Derived.Test.YtliebglildaneaaMath
import Derived.WalkKit
import Derived.ProofKit
import Derived.WalkLawsBesides
namespace Go.Proofs.Ytliebglildaneaa
open Go.RowKit Qm

set_option maxHeartbeats 400000 in
theorem clamp_any (a : Int) (w : World) :
    Calls Try.prog 24 #[.int .i64 a] w fun e w' => e = .returned (.tuple #[.int .i64 (cl a), .bool (ob a)]) ∧ w' = w := by
  by_cases h1 : 70368744177663 < a
  · rw [cl_top h1, ob_top h1]
    go_enter Try.func24, Try.ntmps24
    go_wp2
    go_ret2
    exact ⟨rfl, rfl⟩
  · by_cases h2 : a < -70368744177664
    · rw [cl_low h2, ob_low h2]
      go_enter Try.func24, Try.ntmps24
      go_wp2
      go_ret2
      exact ⟨rfl, rfl⟩
    · rw [cl_in (by omega) (by omega), ob_in (by omega) (by omega)]
      go_enter Try.func24, Try.ntmps24
      go_wp2
      go_ret2
      exact ⟨rfl, rfl⟩

set_option maxHeartbeats 400000 in
theorem rclamp_any (a : Int) (w : World) :
    Calls Try.prog 26 #[.int .i64 a] w fun e w' => e = .returned (.tuple #[.int .i64 (cl a), .bool (ob a)]) ∧ w' = w := by
  by_cases h1 : 70368744177663 < a
  · rw [cl_top h1, ob_top h1]
    go_enter Try.func26, Try.ntmps26
    go_wp2
    go_ret2
    exact ⟨rfl, rfl⟩
  · by_cases h2 : a < -70368744177664
    · rw [cl_low h2, ob_low h2]
      go_enter Try.func26, Try.ntmps26
      go_wp2
      go_ret2
      exact ⟨rfl, rfl⟩
    · rw [cl_in (by omega) (by omega), ob_in (by omega) (by omega)]
      go_enter Try.func26, Try.ntmps26
      go_wp2
      go_ret2
      exact ⟨rfl, rfl⟩

/-- a word's last bit -/
theorem i64_and1 (n : Int) : bits .and .i64 n 1 = n % 2 := by
  have last : ∀ v : BitVec 64, (v &&& 1#64).toNat = v.toNat % 2 := fun v => by rw [BitVec.toNat_and]; exact Nat.and_one_is_mod _
  show IntKind.i64.wrap (((BitVec.ofInt 64 n &&& 1#64).toNat : Nat) : Int) = n % 2
  rw [last, BitVec.toNat_ofInt, IntKind.wrap_i64]
  omega

set_option maxHeartbeats 400000 in
theorem nearest_any (q r d : Int) (w : World) (hr0 : 0 ≤ r) (hr : r ≤ 4611686018427387904) (hq : near q r d ≤ 9223372036854775807) (hq0 : -9223372036854775808 ≤ q) :
    Calls Try.prog 29 #[.int .i64 q, .int .u64 r, .int .u64 d] w fun e w' => e = .returned (.int .i64 (near q r d)) ∧ w' = w := by
  by_cases h1 : d < 2 * r
  · rw [near_up (Or.inl h1)] at hq ⊢
    go_enter Try.func29, Try.ntmps29
    go_wp2
    go_ret
    exact ⟨rfl, rfl⟩
  · by_cases h2 : 2 * r = d
    · by_cases h3 : q % 2 = 1
      · rw [near_up (Or.inr ⟨h2, h3⟩)] at hq ⊢
        have h4 : (bits BinOp.and IntKind.i64 q 1 == 1) = true := by rw [i64_and1]; simp; omega
        have h5 : (2 * r == d) = true := by simp; omega
        clear h2 h3
        go_enter Try.func29, Try.ntmps29
        go_wp2
        go_ret
        exact ⟨rfl, rfl⟩
      · rw [near_stay (by omega)]
        have h4 : (bits BinOp.and IntKind.i64 q 1 == 1) = false := by rw [i64_and1]; simp; omega
        have h5 : (2 * r == d) = true := by simp; omega
        clear h2 h3
        go_enter Try.func29, Try.ntmps29
        go_wp2
        go_ret
        exact ⟨rfl, rfl⟩
    · rw [near_stay (by omega)]
      have h5 : (2 * r == d) = false := by simp; omega
      clear h2
      go_enter Try.func29, Try.ntmps29
      go_wp2
      go_ret
      exact ⟨rfl, rfl⟩

/-! ### the sign's two closures, over a cell of their own -/
end Go.Proofs.Ytliebglildaneaa
