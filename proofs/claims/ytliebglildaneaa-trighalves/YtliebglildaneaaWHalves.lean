/-
  The walk of TrigHalves: it returns true.
-/
import Derived.Test.YtliebglildaneaaTShown
import Derived.OpenShut
namespace Go.Proofs.Ytliebglildaneaa
open Go.RowKit Qm Tm

namespace Tm
theorem sine_bd (a : Int) : -16777232 ≤ sine a ∧ sine a ≤ 16777232 := by
  obtain ⟨h, -, -, -⟩ := squares (ang a)
  unfold sine
  split <;> omega
theorem cosine_bd (a : Int) : -16777232 ≤ cosine a ∧ cosine a ≤ 16777232 := by
  obtain ⟨-, h, -, -⟩ := squares (ang a)
  unfold cosine
  split <;> omega
theorem half_turn {a A : Int} (h0 : 0 ≤ a) (h1 : a ≤ 4294967295) (hA : (a + 2147483648) % 4294967296 = A) : ang A = ang a ∧ bh A = !(bh a) := by
  by_cases c1 : a < 1073741824
  · obtain ⟨e1, e2⟩ := ang1 h0 c1
    obtain ⟨f1, f2⟩ := ang2 (a := A) (by omega) (by omega)
    rw [e1, e2, f1, f2]
    exact ⟨by omega, rfl⟩
  · by_cases c2 : a < 3221225472
    · obtain ⟨e1, e2⟩ := ang2 (a := a) (by omega) c2
      by_cases c3 : a < 2147483648
      · obtain ⟨f1, f2⟩ := ang3 (a := A) (by omega) (by omega)
        rw [e1, e2, f1, f2]
        exact ⟨by omega, rfl⟩
      · obtain ⟨f1, f2⟩ := ang1 (a := A) (by omega) (by omega)
        rw [e1, e2, f1, f2]
        exact ⟨by omega, rfl⟩
    · obtain ⟨e1, e2⟩ := ang3 (a := a) (by omega) (by omega)
      obtain ⟨f1, f2⟩ := ang2 (a := A) (by omega) (by omega)
      rw [e1, e2, f1, f2]
      exact ⟨by omega, rfl⟩
theorem sine_half {a A : Int} (h0 : 0 ≤ a) (h1 : a ≤ 4294967295) (hA : (a + 2147483648) % 4294967296 = A) : sine A = -(sine a) ∧ cosine A = -(cosine a) := by
  obtain ⟨e1, e2⟩ := half_turn h0 h1 hA
  unfold sine cosine
  rw [e1, e2]
  cases bh a <;> simp
end Tm

set_option maxHeartbeats 1000000 in
theorem trigHalves_walk (a0 : Int) (w0 : (Lit.int .u32 a0).wf = true) (w : World) :
    Calls Try.prog 4 #[.int .u32 a0] w fun e w' => e = .returned (.bool true) ∧ Below w.heap.size w w' := by
  obtain ⟨u0, u1⟩ := bounds_u32 w0
  clear w0
  have b0 : Below w.heap.size w w := Below.refl _ _
  obtain ⟨A, hA⟩ : ∃ A, (a0 + 2147483648) % 4294967296 = A := ⟨_, rfl⟩
  have k1 : IntKind.u32.wrap (a0 + 2147483648) = A := by rw [IntKind.wrap_u32]; exact hA
  obtain ⟨e1, e2⟩ := sine_half u0 u1 hA
  obtain ⟨A0, A1⟩ : 0 ≤ A ∧ A ≤ 4294967295 := by omega
  obtain ⟨s0, s1⟩ := sine_bd a0
  obtain ⟨c0, c1⟩ := cosine_bd a0
  obtain ⟨S, hS⟩ : ∃ S, sine a0 = S := ⟨_, rfl⟩
  obtain ⟨C, hC⟩ : ∃ C, cosine a0 = C := ⟨_, rfl⟩
  rw [hS] at e1 s0 s1
  rw [hC] at e2 c0 c1
  go_enter Try.func4, Try.ntmps4
  go_wp2_with (first | (go_at_call 9; refine (shown_from w _ (by assumption)).mono ?_; rintro e wx ⟨rfl, bx⟩) | (go_at_call 10; refine (sincos_from w _ _ (by omega) (by omega) (by assumption)).mono ?_; rintro e wx ⟨rfl, bx⟩) | (go_at_call 12; refine (atan_from w _ _ _ (by assumption)).mono ?_; rintro e wx ⟨rfl, bx⟩) | (go_at_call 16; refine (wrap_from w _ _ _ (by assumption)).mono ?_; rintro e wx ⟨rfl, bx⟩) | (go_at_call 14; refine (turn_from w _ _ (by assumption)).mono ?_; rintro e wx ⟨rfl, bx⟩))
  go_ret
  exact ⟨rfl, by assumption⟩
end Go.Proofs.Ytliebglildaneaa
