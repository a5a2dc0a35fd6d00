/-
  The contracts of qfix.Half and qfix.Round.
-/
import Derived.Test.YtiniobcknmaigaaMul
import Derived.Test.YtiniobcknmaigaaMathD
import Derived.Deep.QuietTactic
import Derived.BigQuiet
namespace Go.Proofs.Ytiniobcknmaigaa
open Go.RowKit Qm

theorem wrapmod (n : Int) (k : Nat) (hk : k ≤ 62) : IntKind.u64.wrap n % 2 ^ k = n % 2 ^ k := by
  rw [IntKind.wrap_u64]
  have e : (18446744073709551616 : Int) = 2 ^ k * 2 ^ (64 - k) := by rw [← Int.pow_add, show k + (64 - k) = 64 by omega]; rfl
  exact Int.emod_emod_of_dvd _ ⟨_, e⟩
theorem wrap_bd (n : Int) : 0 ≤ IntKind.u64.wrap n ∧ IntKind.u64.wrap n ≤ 18446744073709551615 := by rw [IntKind.wrap_u64]; omega

theorem below0_any (x : Int) (w : World) (hx0 : 0 ≤ x) (hx : x ≤ 18446744073709551615) :
    Calls Try.prog 85 #[.int .u64 x, .int .i64 0] w fun e w' => e = .returned (.int .u64 0) ∧ w' = w := by
  have h := below_any x 0 w hx0 hx (by omega) (by omega)
  simpa only [Int.toNat_zero, Int.pow_zero, Int.emod_one] using h
theorem below62_any (x : Int) (w : World) (hx0 : 0 ≤ x) (hx : x ≤ 18446744073709551615) :
    Calls Try.prog 85 #[.int .u64 x, .int .i64 62] w fun e w' => e = .returned (.int .u64 (x % 4611686018427387904)) ∧ w' = w := below_any x 62 w hx0 hx (by omega) (by omega)

set_option maxHeartbeats 1000000 in
theorem half_mid (n b : Int) (w : World) (n0 : -9223372036854775808 ≤ n) (n1 : n ≤ 9223372036854775807) (h0 : 0 ≤ b) (h1 : b ≤ 62) :
    Calls Try.prog 66 #[.int .i64 n, .int .i64 b] w fun e w' => e = .returned (.int .i64 (half n b)) ∧ ∃ m, w' = w.drewN m := by
  obtain ⟨k, rfl⟩ := Int.eq_ofNat_of_zero_le h0
  have hk : k ≤ 62 := by omega
  unfold half
  rw [hk_mid h0 h1, Int.toNat_natCast]
  obtain ⟨p1, p2⟩ := pow_bd k hk
  obtain ⟨d1, d2⟩ := ediv_bd p1 n0 n1
  have m1 := Int.emod_nonneg n (show (2 : Int) ^ k ≠ 0 by omega)
  have m2 := Int.emod_lt_of_pos n (show (0 : Int) < 2 ^ k by omega)
  have hb := half_bd k n0 n1
  have hwm := wrapmod n k hk
  obtain ⟨u1, u2⟩ := wrap_bd n
  obtain ⟨u, hu⟩ : ∃ u, IntKind.u64.wrap n = u := ⟨_, rfl⟩
  rw [hu] at hwm u1 u2
  go_enter Try.func66, Try.ntmps66
  go_wp2
  go_quiet ((first | (go_at_call 85; exact Calls.quiet_of_same (below_any _ _ _ (by omega) (by omega) (by omega) (by omega))) | (go_at_call 84; exact Calls.quiet_of_same (nearest_any _ _ _ _ (by omega) (by omega) (by omega) (by omega)))))
  go_wp2
  go_ret
  exact ⟨rfl, _, rfl⟩

set_option maxHeartbeats 1000000 in
theorem half_low (n b : Int) (w : World) (n0 : -9223372036854775808 ≤ n) (n1 : n ≤ 9223372036854775807) (h0 : b < 0) :
    Calls Try.prog 66 #[.int .i64 n, .int .i64 b] w fun e w' => e = .returned (.int .i64 (half n b)) ∧ ∃ m, w' = w.drewN m := by
  unfold half
  rw [hk_low h0]
  have hb := half_bd 0 n0 n1
  simp only [Int.pow_zero, Int.ediv_one, Int.emod_one] at hb ⊢
  obtain ⟨u1, u2⟩ := wrap_bd n
  obtain ⟨u, hu⟩ : ∃ u, IntKind.u64.wrap n = u := ⟨_, rfl⟩
  rw [hu] at u1 u2
  go_enter Try.func66, Try.ntmps66
  go_wp2
  go_quiet ((first | (go_at_call 85; exact Calls.quiet_of_same (below0_any _ _ (by omega) (by omega))) | (go_at_call 84; exact Calls.quiet_of_same (nearest_any _ _ _ _ (by omega) (by omega) (by omega) (by omega)))))
  go_wp2
  go_ret
  exact ⟨rfl, _, rfl⟩

set_option maxHeartbeats 1000000 in
theorem half_high (n b : Int) (w : World) (n0 : -9223372036854775808 ≤ n) (n1 : n ≤ 9223372036854775807) (h0 : 62 < b) :
    Calls Try.prog 66 #[.int .i64 n, .int .i64 b] w fun e w' => e = .returned (.int .i64 (half n b)) ∧ ∃ m, w' = w.drewN m := by
  unfold half
  rw [hk_high h0]
  have e62 : (2 : Int) ^ 62 = 4611686018427387904 := rfl
  have hb := half_bd 62 n0 n1
  have hwm := wrapmod n 62 (by omega)
  rw [e62] at hb hwm ⊢
  obtain ⟨u1, u2⟩ := wrap_bd n
  obtain ⟨u, hu⟩ : ∃ u, IntKind.u64.wrap n = u := ⟨_, rfl⟩
  rw [hu] at hwm u1 u2
  clear e62
  go_enter Try.func66, Try.ntmps66
  go_wp2
  go_quiet ((first | (go_at_call 85; exact Calls.quiet_of_same (below62_any _ _ (by omega) (by omega))) | (go_at_call 84; exact Calls.quiet_of_same (nearest_any _ _ _ _ (by omega) (by omega) (by omega) (by omega)))))
  go_wp2
  go_ret
  exact ⟨rfl, _, rfl⟩

/-- qfix.Half: it only reads, and may draw -/
theorem half_drew (n b : Int) (w : World) (n0 : -9223372036854775808 ≤ n) (n1 : n ≤ 9223372036854775807) :
    Calls Try.prog 66 #[.int .i64 n, .int .i64 b] w fun e w' => e = .returned (.int .i64 (half n b)) ∧ ∃ m, w' = w.drewN m := by
  by_cases h : b < 0
  · exact half_low n b w n0 n1 h
  · by_cases h2 : 62 < b
    · exact half_high n b w n0 n1 h2
    · exact half_mid n b w n0 n1 (by omega) (by omega)
/-- qfix.Half -/
theorem half_any (n b : Int) (w : World) (n0 : -9223372036854775808 ≤ n) (n1 : n ≤ 9223372036854775807) :
    Calls Try.prog 66 #[.int .i64 n, .int .i64 b] w fun e w' => e = .returned (.int .i64 (half n b)) ∧ Below w.heap.size w w' := by
  refine (half_drew n b w n0 n1).mono ?_
  rintro e w' ⟨rfl, m, rfl⟩
  exact ⟨rfl, below_drewN (Below.refl _ _) _⟩

end Go.Proofs.Ytiniobcknmaigaa
