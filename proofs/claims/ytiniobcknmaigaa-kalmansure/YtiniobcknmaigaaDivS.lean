/-
  The contract of math/bits.Div64, whole: two words by one.
-/
import Derived.Test.YtiniobcknmaigaaDivW
import Derived.Deep.QuietTactic
import Derived.BigQuiet
namespace Go.Proofs.Ytiniobcknmaigaa
open Go.RowKit Qm

set_option maxHeartbeats 1000000 in
theorem div64_small (lo y : Int) (w : World) (h1 : 1 ≤ y) (l0 : 0 ≤ lo) (l1 : lo ≤ 18446744073709551615) (y1 : y ≤ 18446744073709551615) :
    Calls Try.prog 94 #[.int .u64 0, .int .u64 lo, .int .u64 y] w fun e w' => e = .returned (.tuple #[.int .u64 (lo / y), .int .u64 (lo % y)]) ∧ Below w.heap.size w w' := by
  go_enter Try.func94, Try.ntmps94
  go_wp2
  go_quiet (fail)
  go_wp2
  go_ret2
  exact ⟨rfl, below_drewN (Below.refl _ _) _⟩

theorem div64_any (hi lo y : Int) (w : World) (h0 : 0 ≤ hi) (h1 : hi < y) (l0 : 0 ≤ lo) (l1 : lo ≤ 18446744073709551615) (y1 : y ≤ 18446744073709551615) :
    Calls Try.prog 94 #[.int .u64 hi, .int .u64 lo, .int .u64 y] w fun e w' => e = .returned (.tuple #[.int .u64 (dq hi lo y), .int .u64 (dr hi lo y)]) ∧ Below w.heap.size w w' := by
  by_cases h : 1 ≤ hi
  · refine (div64_big hi lo y w h h1 l0 l1 y1).mono ?_
    rintro e w' ⟨he, hw⟩
    subst hw
    exact ⟨he, Below.refl _ _⟩
  · obtain rfl : hi = 0 := by omega
    have e1 : dq 0 lo y = lo / y := by unfold dq; rw [Int.zero_mul, Int.zero_add]
    have e2 : dr 0 lo y = lo % y := by unfold dr; rw [Int.zero_mul, Int.zero_add]
    rw [e1, e2]
    exact div64_small lo y w (by omega) l0 l1 y1
end Go.Proofs.Ytiniobcknmaigaa
