/-
  The walk of QfixHalves: it returns true.
-/
import Derived.Test.YtpcajdmbfclfpaaShown
import Derived.Test.YtpcajdmbfclfpaaMathF
import Derived.OpenShut
namespace Go.Proofs.Ytpcajdmbfclfpaa
open Go.RowKit Qm

set_option maxHeartbeats 1000000 in
theorem halves_out (a0 a1 : Int) (w : World) (u0 : 0 ≤ a1) (u1 : a1 ≤ 255) (h : 1152921504606846976 < a0 ∨ a0 < -1152921504606846976) :
    Calls Try.prog 11 #[.int .i64 a0, .int .u8 a1] w fun e w' => e = .returned (.bool true) ∧ Below w.heap.size w w' := by
  rcases h with h | h
  · go_enter Try.func11, Try.ntmps11
    go_wp2_with (go_at_call 12; refine (shown_any _).mono ?_; rintro e w1 ⟨rfl, b1⟩)
    go_ret
    exact ⟨rfl, b1⟩
  · have h' : ¬ 1152921504606846976 < a0 := by omega
    go_enter Try.func11, Try.ntmps11
    go_wp2_with (go_at_call 12; refine (shown_any _).mono ?_; rintro e w1 ⟨rfl, b1⟩)
    go_ret
    exact ⟨rfl, b1⟩

set_option maxHeartbeats 1000000 in
theorem halves_in (a0 a1 : Int) (w : World) (u0 : 0 ≤ a1) (u1 : a1 ≤ 255) (g1 : a0 ≤ 1152921504606846976) (g0 : -1152921504606846976 ≤ a0) :
    Calls Try.prog 11 #[.int .i64 a0, .int .u8 a1] w fun e w' => e = .returned (.bool true) ∧ Below w.heap.size w w' := by
  have b0 : Below w.heap.size w w := Below.refl _ _
  obtain ⟨k, hk⟩ : ∃ k : Nat, a1 % 60 = (k : Int) := ⟨(a1 % 60).toNat, by omega⟩
  have k1 : k ≤ 59 := by omega
  obtain ⟨p1, p2⟩ := pow_bd k (by omega)
  have p3 : (2 : Int) ^ k ≤ 576460752303423488 := by
    have := Nat.pow_le_pow_right (n := 2) (by decide) k1
    have h3 : ((2 ^ k : Nat) : Int) ≤ ((2 ^ 59 : Nat) : Int) := by omega
    simpa using h3
  obtain ⟨e1, e2⟩ := half_err a0 k (by omega)
  have hz := half_zero a0
  obtain ⟨P, hP⟩ : ∃ P : Int, 2 ^ k = P := ⟨_, rfl⟩
  rw [hP] at p1 p2 p3 e1 e2
  by_cases ev : a0 % 2 = 0
  · obtain ⟨m, hm⟩ : ∃ m, a0 = 2 * m := ⟨a0 / 2, by omega⟩
    have t1 : a0.tdiv 2 = m := by rw [hm, Int.mul_tdiv_cancel_left _ (by omega)]
    have t2 : a0.tmod 2 = 0 := by rw [hm]; exact Int.mul_tmod_right _ _
    have hw := half_twice m k (by omega)
    rw [← hm] at hw
    have hw' : (half m k == half a0 (k + 1)) = true := by simp [hw]
    have m0 : -1152921504606846976 ≤ m := by omega
    have m1 : m ≤ 1152921504606846976 := by omega
    clear hw hm ev
    go_enter Try.func11, Try.ntmps11
    go_wp2_with (first | (go_at_call 12; refine (shown_from _ _ (by assumption)).mono ?_; rintro e wx ⟨rfl, bx⟩) | (go_at_call 29; refine (half_from _ _ _ _ (by omega) (by omega) (by assumption)).mono ?_; rintro e wx ⟨rfl, bx⟩))
    go_ret
    exact ⟨rfl, by assumption⟩
  · have t2 : (a0.tmod 2 != 0) = true := by
      simp
      intro h
      have := Int.dvd_of_tmod_eq_zero h
      omega
    clear ev
    go_enter Try.func11, Try.ntmps11
    go_wp2_with (first | (go_at_call 12; refine (shown_from _ _ (by assumption)).mono ?_; rintro e wx ⟨rfl, bx⟩) | (go_at_call 29; refine (half_from _ _ _ _ (by omega) (by omega) (by assumption)).mono ?_; rintro e wx ⟨rfl, bx⟩))
    go_ret
    exact ⟨rfl, by assumption⟩

theorem qfixHalves_walk (a0 : Int) (a1 : Int) (_w0 : (Lit.int .i64 a0).wf = true) (w1 : (Lit.int .u8 a1).wf = true) (w : World) :
    Calls Try.prog 11 #[.int .i64 a0, .int .u8 a1] w fun e w' => e = .returned (.bool true) ∧ Below w.heap.size w w' := by
  obtain ⟨u0, u1⟩ := bounds_u8 w1
  by_cases h : 1152921504606846976 < a0 ∨ a0 < -1152921504606846976
  · exact halves_out a0 a1 w u0 u1 h
  · exact halves_in a0 a1 w u0 u1 (by omega) (by omega)
end Go.Proofs.Ytpcajdmbfclfpaa
