/-
  The walk of QfixNear: it returns true.
-/
import Derived.Test.YtpcajdmbfclfpaaShown
import Derived.Test.YtpcajdmbfclfpaaMathH
import Derived.OpenShut
namespace Go.Proofs.Ytpcajdmbfclfpaa
open Go.RowKit Qm

set_option maxHeartbeats 2000000 in
theorem qfixNear_walk (a0 : Int) (a1 : Int) (w0 : (Lit.int .i32 a0).wf = true) (w1 : (Lit.int .i32 a1).wf = true) (w : World) :
    Calls Try.prog 8 #[.int .i32 a0, .int .i32 a1] w fun e w' => e = .returned (.bool true) ∧ Below w.heap.size w w' := by
  have b0 : Below w.heap.size w w := Below.refl _ _
  obtain ⟨u0, u1⟩ := bounds_i32 w0
  obtain ⟨v0, v1⟩ := bounds_i32 w1
  clear w0 w1
  obtain ⟨m1, m2, m3, m4, m5, m6, m7⟩ := mul_near' u0 u1 v0 v1
  by_cases hb : a1 = 0
  · have hb' : (a1 == 0) = true := by simp [hb]
    clear hb
    go_enter Try.func8, Try.ntmps8
    go_wp2_with (first | (go_at_call 12; refine (shown_from _ _ (by assumption)).mono ?_; rintro e wx ⟨rfl, bx⟩) | (go_at_call 13; refine (add_any _ _ _).mono ?_; rintro e w' ⟨rfl, rfl⟩) | (go_at_call 17; refine (mul_from _ _ _ _ (by assumption)).mono ?_; rintro e wx ⟨rfl, bx⟩) | (go_at_call 19; refine (div_from _ _ _ _ (by assumption)).mono ?_; rintro e wx ⟨rfl, bx⟩) | (go_at_call 27; refine (round_from _ _ _ (by assumption)).mono ?_; rintro e wx ⟨rfl, bx⟩))
    go_ret
    exact ⟨rfl, by assumption⟩
  · have hb' : (a1 == 0) = false := by simp [hb]
    cases hf : divB a0 a1
    · obtain ⟨d1, d2⟩ := div_near' u0 u1 v0 v1 hb hf
      clear hb
      by_cases hn : a1 < 0
      · rw [ab_neg hn] at d1 d2
        go_enter Try.func8, Try.ntmps8
        go_wp2_with (first | (go_at_call 12; refine (shown_from _ _ (by assumption)).mono ?_; rintro e wx ⟨rfl, bx⟩) | (go_at_call 13; refine (add_any _ _ _).mono ?_; rintro e w' ⟨rfl, rfl⟩) | (go_at_call 17; refine (mul_from _ _ _ _ (by assumption)).mono ?_; rintro e wx ⟨rfl, bx⟩) | (go_at_call 19; refine (div_from _ _ _ _ (by assumption)).mono ?_; rintro e wx ⟨rfl, bx⟩) | (go_at_call 27; refine (round_from _ _ _ (by assumption)).mono ?_; rintro e wx ⟨rfl, bx⟩))
        go_ret
        exact ⟨by simp; omega, by assumption⟩
      · rw [ab_pos hn] at d1 d2
        go_enter Try.func8, Try.ntmps8
        go_wp2_with (first | (go_at_call 12; refine (shown_from _ _ (by assumption)).mono ?_; rintro e wx ⟨rfl, bx⟩) | (go_at_call 13; refine (add_any _ _ _).mono ?_; rintro e w' ⟨rfl, rfl⟩) | (go_at_call 17; refine (mul_from _ _ _ _ (by assumption)).mono ?_; rintro e wx ⟨rfl, bx⟩) | (go_at_call 19; refine (div_from _ _ _ _ (by assumption)).mono ?_; rintro e wx ⟨rfl, bx⟩) | (go_at_call 27; refine (round_from _ _ _ (by assumption)).mono ?_; rintro e wx ⟨rfl, bx⟩))
        go_ret
        exact ⟨by simp; omega, by assumption⟩
    · clear hb
      go_enter Try.func8, Try.ntmps8
      go_wp2_with (first | (go_at_call 12; refine (shown_from _ _ (by assumption)).mono ?_; rintro e wx ⟨rfl, bx⟩) | (go_at_call 13; refine (add_any _ _ _).mono ?_; rintro e w' ⟨rfl, rfl⟩) | (go_at_call 17; refine (mul_from _ _ _ _ (by assumption)).mono ?_; rintro e wx ⟨rfl, bx⟩) | (go_at_call 19; refine (div_from _ _ _ _ (by assumption)).mono ?_; rintro e wx ⟨rfl, bx⟩) | (go_at_call 27; refine (round_from _ _ _ (by assumption)).mono ?_; rintro e wx ⟨rfl, bx⟩))
      go_ret
      exact ⟨rfl, by assumption⟩
end Go.Proofs.Ytpcajdmbfclfpaa
