/-
  The contracts of qfix.Of, of the document's Of and In.
-/
import Derived.Test.YtpcajdmbfclfpaaBase
namespace Go.Proofs.Ytpcajdmbfclfpaa
open Go.RowKit Qm

namespace Qm
/-- a whole number -/
def ofq (n : Int) : Int := cl (n * 16777216)
def ofB (n : Int) : Bool := ob (n * 16777216)
/-- is a number in bounds? -/
def inB (a : Int) : Bool := !(ob a)
theorem inB_cl (a : Int) : inB (cl a) = true := by unfold inB; rw [ob_in (cl_lo a) (cl_hi a)]; rfl
end Qm

set_option maxHeartbeats 400000 in
theorem of_any (n : Int) (w : World) :
    Calls Try.prog 25 #[.int .i64 n] w fun e w' => e = .returned (.tuple #[.int .i64 (ofq n), .bool (ofB n)]) ∧ w' = w := by
  unfold ofq ofB
  by_cases h1 : 4194303 < n
  · rw [cl_top (by omega), ob_top (by omega)]
    go_enter Try.func25, Try.ntmps25
    go_wp2
    go_ret2
    exact ⟨rfl, rfl⟩
  · by_cases h2 : n < -4194304
    · rw [cl_low (by omega), ob_low (by omega)]
      go_enter Try.func25, Try.ntmps25
      go_wp2
      go_ret2
      exact ⟨rfl, rfl⟩
    · rw [cl_in (by omega) (by omega), ob_in (by omega) (by omega)]
      go_enter Try.func25, Try.ntmps25
      go_wp2
      go_ret2
      exact ⟨rfl, rfl⟩

set_option maxHeartbeats 400000 in
theorem rof_any (n : Int) (w : World) :
    Calls Try.prog 26 #[.int .i64 n] w fun e w' => e = .returned (.tuple #[.int .i64 (ofq n), .bool (ofB n)]) ∧ w' = w := by
  unfold ofq ofB
  by_cases h1 : 4194303 < n
  · rw [cl_top (by omega), ob_top (by omega)]
    go_enter Try.func26, Try.ntmps26
    go_wp2
    go_ret2
    exact ⟨rfl, rfl⟩
  · by_cases h2 : n < -4194304
    · rw [cl_low (by omega), ob_low (by omega)]
      go_enter Try.func26, Try.ntmps26
      go_wp2
      go_ret2
      exact ⟨rfl, rfl⟩
    · rw [cl_in (by omega) (by omega), ob_in (by omega) (by omega)]
      go_enter Try.func26, Try.ntmps26
      go_wp2
      go_ret2
      exact ⟨rfl, rfl⟩

set_option maxHeartbeats 400000 in
theorem rin_any (a : Int) (w : World) :
    Calls Try.prog 31 #[.int .i64 a] w fun e w' => e = .returned (.bool (inB a)) ∧ w' = w := by
  unfold inB
  by_cases h1 : 70368744177663 < a
  · rw [ob_top h1]
    have h2 : ¬ a ≤ 70368744177663 := by omega
    go_enter Try.func31, Try.ntmps31
    go_wp2
    all_goals
      go_ret
      exact ⟨by simp, rfl⟩
  · by_cases h2 : a < -70368744177664
    · rw [ob_low h2]
      go_enter Try.func31, Try.ntmps31
      go_wp2
      all_goals
        go_ret
        exact ⟨by simp, rfl⟩
    · rw [ob_in (by omega) (by omega)]
      go_enter Try.func31, Try.ntmps31
      go_wp2
      all_goals
        go_ret
        exact ⟨by simp, rfl⟩
end Go.Proofs.Ytpcajdmbfclfpaa
