/-
  The walk of QfixReckons: it returns true.
-/
import Derived.Test.YtpcajdmbfclfpaaShown
import Derived.Test.YtpcajdmbfclfpaaSqrt
import Derived.Test.YtpcajdmbfclfpaaRMul
import Derived.Test.YtpcajdmbfclfpaaRDiv
import Derived.Test.YtpcajdmbfclfpaaRSqrt
import Derived.OpenShut
namespace Go.Proofs.Ytpcajdmbfclfpaa
open Go.RowKit Qm

set_option maxHeartbeats 1000000 in
theorem qfixReckons_walk (a0 : Int) (a1 : Int) (_w0 : (Lit.int .i64 a0).wf = true) (_w1 : (Lit.int .i64 a1).wf = true) (w : World) :
    Calls Try.prog 3 #[.int .i64 a0, .int .i64 a1] w fun e w' => e = .returned (.bool true) ∧ Below w.heap.size w w' := by
  have b0 : Below w.heap.size w w := Below.refl _ _
  clear _w0 _w1
  go_enter Try.func3, Try.ntmps3
  go_wp2_with (first | (go_at_call 12; refine (shown_from _ _ (by assumption)).mono ?_; rintro e wx ⟨rfl, bx⟩) | (go_at_call 13; refine (add_any _ _ _).mono ?_; rintro e w' ⟨rfl, rfl⟩) | (go_at_call 14; refine (radd_any _ _ _).mono ?_; rintro e w' ⟨rfl, rfl⟩) | (go_at_call 15; refine (sub_any _ _ _).mono ?_; rintro e w' ⟨rfl, rfl⟩) | (go_at_call 16; refine (rsub_any _ _ _).mono ?_; rintro e w' ⟨rfl, rfl⟩) | (go_at_call 18; refine (rmul_any _ _ _).mono ?_; rintro e w' ⟨rfl, rfl⟩) | (go_at_call 20; refine (rdiv_any _ _ _).mono ?_; rintro e w' ⟨rfl, rfl⟩) | (go_at_call 21; refine (sqrt_any _ _).mono ?_; rintro e w' ⟨rfl, rfl⟩) | (go_at_call 22; refine (rsqrt_any _ _).mono ?_; rintro e w' ⟨rfl, rfl⟩) | (go_at_call 17; refine (mul_from _ _ _ _ (by assumption)).mono ?_; rintro e wx ⟨rfl, bx⟩) | (go_at_call 19; refine (div_from _ _ _ _ (by assumption)).mono ?_; rintro e wx ⟨rfl, bx⟩))
  go_ret
  exact ⟨rfl, by assumption⟩
end Go.Proofs.Ytpcajdmbfclfpaa
