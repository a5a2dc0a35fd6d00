/-
  The walk of QfixRises: it returns true.
-/
import Derived.Test.YtpcajdmbfclfpaaShown
import Derived.Test.YtpcajdmbfclfpaaSqrt
import Derived.Test.YtpcajdmbfclfpaaMathH
import Derived.OpenShut
namespace Go.Proofs.Ytpcajdmbfclfpaa
open Go.RowKit Qm

set_option maxHeartbeats 1000000 in
theorem qfixRises_walk (a0 : Int) (a1 : Int) (a2 : Int) (_w0 : (Lit.int .i64 a0).wf = true) (_w1 : (Lit.int .i64 a1).wf = true) (_w2 : (Lit.int .i64 a2).wf = true) (w : World) :
    Calls Try.prog 7 #[.int .i64 a0, .int .i64 a1, .int .i64 a2] w fun e w' => e = .returned (.bool true) ∧ Below w.heap.size w w' := by
  have b0 : Below w.heap.size w w := Below.refl _ _
  clear _w0 _w1 _w2
  by_cases h : a1 < a0
  · go_enter Try.func7, Try.ntmps7
    go_wp2_with (first | (go_at_call 12; refine (shown_from _ _ (by assumption)).mono ?_; rintro e wx ⟨rfl, bx⟩) | (go_at_call 13; refine (add_any _ _ _).mono ?_; rintro e w' ⟨rfl, rfl⟩) | (go_at_call 17; refine (mul_from _ _ _ _ (by assumption)).mono ?_; rintro e wx ⟨rfl, bx⟩) | (go_at_call 19; refine (div_from _ _ _ _ (by assumption)).mono ?_; rintro e wx ⟨rfl, bx⟩) | (go_at_call 21; refine (sqrt_any _ _).mono ?_; rintro e w' ⟨rfl, rfl⟩) | (go_at_call 27; refine (round_from _ _ _ (by assumption)).mono ?_; rintro e wx ⟨rfl, bx⟩))
    go_ret
    exact ⟨rfl, by assumption⟩
  · have h' : a0 ≤ a1 := by omega
    have r1 := add_rises a2 h'
    have r2 := sqrt_rises h'
    have r3 := round_rises h'
    by_cases c : a2 < 0
    · clear h'
      go_enter Try.func7, Try.ntmps7
      go_wp2_with (first | (go_at_call 12; refine (shown_from _ _ (by assumption)).mono ?_; rintro e wx ⟨rfl, bx⟩) | (go_at_call 13; refine (add_any _ _ _).mono ?_; rintro e w' ⟨rfl, rfl⟩) | (go_at_call 17; refine (mul_from _ _ _ _ (by assumption)).mono ?_; rintro e wx ⟨rfl, bx⟩) | (go_at_call 19; refine (div_from _ _ _ _ (by assumption)).mono ?_; rintro e wx ⟨rfl, bx⟩) | (go_at_call 21; refine (sqrt_any _ _).mono ?_; rintro e w' ⟨rfl, rfl⟩) | (go_at_call 27; refine (round_from _ _ _ (by assumption)).mono ?_; rintro e wx ⟨rfl, bx⟩))
      go_ret
      exact ⟨by simp [*], by assumption⟩
    · have r4 := mul_rises h' c
      clear h'
      go_enter Try.func7, Try.ntmps7
      go_wp2_with (first | (go_at_call 12; refine (shown_from _ _ (by assumption)).mono ?_; rintro e wx ⟨rfl, bx⟩) | (go_at_call 13; refine (add_any _ _ _).mono ?_; rintro e w' ⟨rfl, rfl⟩) | (go_at_call 17; refine (mul_from _ _ _ _ (by assumption)).mono ?_; rintro e wx ⟨rfl, bx⟩) | (go_at_call 19; refine (div_from _ _ _ _ (by assumption)).mono ?_; rintro e wx ⟨rfl, bx⟩) | (go_at_call 21; refine (sqrt_any _ _).mono ?_; rintro e w' ⟨rfl, rfl⟩) | (go_at_call 27; refine (round_from _ _ _ (by assumption)).mono ?_; rintro e wx ⟨rfl, bx⟩))
      go_ret
      exact ⟨by simp [*], by assumption⟩
end Go.Proofs.Ytpcajdmbfclfpaa
