/-
  The walk of TrigSquares: it returns true.
-/
import Derived.Test.YtliebglildaneaaTShown
import Derived.OpenShut
namespace Go.Proofs.Ytliebglildaneaa
open Go.RowKit Qm Tm

namespace Tm
theorem neg_sq (x : Int) : -x * -x = x * x := Int.neg_mul_neg x x
theorem squared (a : Int) : (-16777232 ≤ sine a ∧ sine a ≤ 16777232) ∧ (-16777232 ≤ cosine a ∧ cosine a ≤ 16777232) ∧ sine a * sine a + cosine a * cosine a - 281474976710656 < 1073741824 ∧ -1073741824 < sine a * sine a + cosine a * cosine a - 281474976710656 := by
  obtain ⟨h1, h2, h3, h4⟩ := squares (ang a)
  unfold sine cosine
  cases bh a
  · simp only [Bool.false_eq_true, if_false]
    exact ⟨h1, h2, h3, h4⟩
  · simp only [if_true]
    rw [neg_sq, neg_sq]
    exact ⟨by omega, by omega, h3, h4⟩
end Tm

set_option maxHeartbeats 1000000 in
theorem trigSquares_walk (a0 : Int) (w0 : (Lit.int .u32 a0).wf = true) (w : World) :
    Calls Try.prog 6 #[.int .u32 a0] w fun e w' => e = .returned (.bool true) ∧ Below w.heap.size w w' := by
  obtain ⟨u0, u1⟩ := bounds_u32 w0
  clear w0
  have b0 : Below w.heap.size w w := Below.refl _ _
  obtain ⟨⟨s0, s1⟩, ⟨c0, c1⟩, q0, q1⟩ := squared a0
  obtain ⟨S, hS⟩ : ∃ S, sine a0 = S := ⟨_, rfl⟩
  obtain ⟨C, hC⟩ : ∃ C, cosine a0 = C := ⟨_, rfl⟩
  rw [hS] at s0 s1
  rw [hC] at c0 c1
  rw [hS, hC] at q0 q1
  have S2 : 0 ≤ S * S := by
    rcases Int.le_total 0 S with c | c
    · exact Int.mul_nonneg c c
    · exact Int.mul_nonneg_of_nonpos_of_nonpos c c
  have C2 : 0 ≤ C * C := by
    rcases Int.le_total 0 C with c | c
    · exact Int.mul_nonneg c c
    · exact Int.mul_nonneg_of_nonpos_of_nonpos c c
  obtain ⟨P, hP⟩ : ∃ P, S * S = P := ⟨_, rfl⟩
  obtain ⟨Q, hQ⟩ : ∃ Q, C * C = Q := ⟨_, rfl⟩
  rw [hP] at S2
  rw [hQ] at C2
  rw [hP, hQ] at q0 q1
  go_enter Try.func6, Try.ntmps6
  go_wp2_with (first | (go_at_call 9; refine (shown_from w _ (by assumption)).mono ?_; rintro e wx ⟨rfl, bx⟩) | (go_at_call 10; refine (sincos_from w _ _ (by omega) (by omega) (by assumption)).mono ?_; rintro e wx ⟨rfl, bx⟩) | (go_at_call 12; refine (atan_from w _ _ _ (by assumption)).mono ?_; rintro e wx ⟨rfl, bx⟩) | (go_at_call 16; refine (wrap_from w _ _ _ (by assumption)).mono ?_; rintro e wx ⟨rfl, bx⟩) | (go_at_call 14; refine (turn_from w _ _ (by assumption)).mono ?_; rintro e wx ⟨rfl, bx⟩))
  go_ret
  exact ⟨rfl, by assumption⟩
end Go.Proofs.Ytliebglildaneaa
