/-
  The contracts of qfix.Of, of the document's Of and In.
-/
import Derived.Test.YtiniobcknmaigaaBase
namespace Go.Proofs.Ytiniobcknmaigaa
open Go.RowKit Qm

namespace Qm
/-- a whole number -/
def ofq (n : Int) : Int := cl (n * 16777216)
def ofB (n : Int) : Bool := ob (n * 16777216)
/-- is a number in bounds? -/
def inB (a : Int) : Bool := !(ob a)
theorem inB_cl (a : Int) : inB (cl a) = true := by unfold inB; rw [ob_in (cl_lo a) (cl_hi a)]; rfl
end Qm

set_option maxHeartbeats 400000 in
theorem rin_any (a : Int) (w : World) :
    Calls Try.prog 29 #[.int .i64 a] w fun e w' => e = .returned (.bool (inB a)) ∧ w' = w := by
  unfold inB
  by_cases h1 : 70368744177663 < a
  · rw [ob_top h1]
    have h2 : ¬ a ≤ 70368744177663 := by omega
    go_enter Try.func29, Try.ntmps29
    go_wp2
    all_goals
      go_ret
      exact ⟨by simp, rfl⟩
  · by_cases h2 : a < -70368744177664
    · rw [ob_low h2]
      go_enter Try.func29, Try.ntmps29
      go_wp2
      all_goals
        go_ret
        exact ⟨by simp, rfl⟩
    · rw [ob_in (by omega) (by omega)]
      go_enter Try.func29, Try.ntmps29
      go_wp2
      all_goals
        go_ret
        exact ⟨by simp, rfl⟩
end Go.Proofs.Ytiniobcknmaigaa
