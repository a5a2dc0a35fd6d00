/-
  The walk of QfixRoots: it returns true.
-/
import Derived.Test.YtpcajdmbfclfpaaShown
import Derived.Test.YtpcajdmbfclfpaaSqrt
import Derived.Test.YtpcajdmbfclfpaaMathG
import Derived.OpenShut
namespace Go.Proofs.Ytpcajdmbfclfpaa
open Go.RowKit Qm

theorem root_small {n : Int} (h0 : 0 ≤ n) (h1 : n ≤ 68719476720) :
    sqrtB n = false ∧ 0 ≤ sqrt n ∧ sqrt n ≤ 1073741824 ∧ 0 ≤ sqrt n * sqrt n ∧ sqrt n * sqrt n ≤ n * 16777216 ∧ n * 16777216 < (sqrt n + 1) * (sqrt n + 1) ∧ (sqrt n + 1) * (sqrt n + 1) ≤ 1152921506754330625 := by
  have hc : cl n = n := cl_in (by omega) (by omega)
  obtain ⟨e1, e2⟩ := sqrt_pos (a := n) (by rw [hc]; omega)
  rw [hc] at e1
  obtain ⟨r0, r1, r2, r3⟩ := root_spec (N := n * 16777216) (by omega) (by omega)
  rw [← e1] at r0 r1 r2 r3
  have r4 : sqrt n ≤ 1073741824 := sq_lt r0 (by omega) (by omega)
  have r5 : (sqrt n + 1) * (sqrt n + 1) ≤ 1073741825 * 1073741825 := Int.mul_le_mul (by omega) (by omega) (by omega) (by omega)
  rw [e2, ob_in (by omega) (by omega)]
  exact ⟨rfl, r0, r4, Int.mul_nonneg r0 r0, r2, r3, by omega⟩

set_option maxHeartbeats 1000000 in
theorem qfixRoots_walk (a0 : Int) (a1 : Int) (w0 : (Lit.int .u32 a0).wf = true) (w1 : (Lit.int .u8 a1).wf = true) (w : World) :
    Calls Try.prog 10 #[.int .u32 a0, .int .u8 a1] w fun e w' => e = .returned (.bool true) ∧ Below w.heap.size w w' := by
  have b0 : Below w.heap.size w w := Below.refl _ _
  obtain ⟨u0, u1⟩ := bounds_u32 w0
  obtain ⟨v0, v1⟩ := bounds_u8 w1
  clear w0 w1
  obtain ⟨m, hm⟩ : ∃ m, a1 % 16 + 1 = m := ⟨_, rfl⟩
  have m0 : 1 ≤ m := by omega
  have m1 : m ≤ 16 := by omega
  have p0 : 0 ≤ a0 * m := Int.mul_nonneg u0 (by omega)
  have p1 : a0 * m ≤ 4294967295 * 16 := Int.mul_le_mul u1 m1 (by omega) (by omega)
  obtain ⟨n, hn⟩ : ∃ n, a0 * m = n := ⟨_, rfl⟩
  rw [hn] at p0 p1
  obtain ⟨s0, s1, s2, s3, s4, s5, s6⟩ := root_small p0 (by omega)
  go_enter Try.func10, Try.ntmps10
  go_wp2_with (first | (go_at_call 12; refine (shown_from _ _ (by assumption)).mono ?_; rintro e wx ⟨rfl, bx⟩) | (go_at_call 21; refine (sqrt_any _ _).mono ?_; rintro e w' ⟨rfl, rfl⟩))
  go_ret
  exact ⟨rfl, by assumption⟩
end Go.Proofs.Ytpcajdmbfclfpaa
