/-
  The walk of QfixOrders: it returns true.
-/
import Derived.Test.YtpcajdmbfclfpaaShown
import Derived.Test.YtpcajdmbfclfpaaMathG
import Derived.Test.YtpcajdmbfclfpaaOf
import Derived.OpenShut
namespace Go.Proofs.Ytpcajdmbfclfpaa
open Go.RowKit Qm

set_option maxHeartbeats 2000000 in
theorem qfixOrders_walk (a0 : Int) (a1 : Int) (_w0 : (Lit.int .i64 a0).wf = true) (_w1 : (Lit.int .i64 a1).wf = true) (w : World) :
    Calls Try.prog 6 #[.int .i64 a0, .int .i64 a1] w fun e w' => e = .returned (.bool true) ∧ Below w.heap.size w w' := by
  have b0 : Below w.heap.size w w := Below.refl _ _
  have x1 := add_comm' a0 a1
  have x2 := addB_comm a0 a1
  have x3 := mul_comm' a0 a1
  have x4 := mulB_comm a0 a1
  clear _w0 _w1
  by_cases h : ob a0 = true
  · have hi : inB a0 = false := by unfold inB; rw [h]; rfl
    clear h
    go_enter Try.func6, Try.ntmps6
    go_wp2_with (first | (go_at_call 12; refine (shown_from _ _ (by assumption)).mono ?_; rintro e wx ⟨rfl, bx⟩) | (go_at_call 13; refine (add_any _ _ _).mono ?_; rintro e w' ⟨rfl, rfl⟩) | (go_at_call 15; refine (sub_any _ _ _).mono ?_; rintro e w' ⟨rfl, rfl⟩) | (go_at_call 17; refine (mul_from _ _ _ _ (by assumption)).mono ?_; rintro e wx ⟨rfl, bx⟩) | (go_at_call 19; refine (div_from _ _ _ _ (by assumption)).mono ?_; rintro e wx ⟨rfl, bx⟩) | (go_at_call 31; refine (rin_any _ _).mono ?_; rintro e w' ⟨rfl, rfl⟩))
    go_ret
    exact ⟨rfl, by assumption⟩
  · have h' : ob a0 = false := by simpa using h
    have hi : inB a0 = true := by unfold inB; rw [h']; rfl
    obtain ⟨c1, c2⟩ := ob_out h'
    obtain ⟨y1, y2⟩ := mul_one' c1 c2
    obtain ⟨y3, y4⟩ := div_one' c1 c2
    obtain ⟨y5, y6⟩ := sub_self' c1 c2
    clear h h' c1 c2
    go_enter Try.func6, Try.ntmps6
    go_wp2_with (first | (go_at_call 12; refine (shown_from _ _ (by assumption)).mono ?_; rintro e wx ⟨rfl, bx⟩) | (go_at_call 13; refine (add_any _ _ _).mono ?_; rintro e w' ⟨rfl, rfl⟩) | (go_at_call 15; refine (sub_any _ _ _).mono ?_; rintro e w' ⟨rfl, rfl⟩) | (go_at_call 17; refine (mul_from _ _ _ _ (by assumption)).mono ?_; rintro e wx ⟨rfl, bx⟩) | (go_at_call 19; refine (div_from _ _ _ _ (by assumption)).mono ?_; rintro e wx ⟨rfl, bx⟩) | (go_at_call 31; refine (rin_any _ _).mono ?_; rintro e w' ⟨rfl, rfl⟩))
    go_ret
    exact ⟨rfl, by assumption⟩
end Go.Proofs.Ytpcajdmbfclfpaa
