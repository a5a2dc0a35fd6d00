/-
  The document's example, at the head of all statements of quaternions.
-/
import Derived.Test.YtgekignonjfaiaaDoorQTn
import Derived.Test.YtgekignonjfaiaaDoorQEq
namespace Go.Proofs.YtgekignonjfaiaaDoor
open Go.RowKit Go.Sort Qm

def Qm.exq (k : Nat) : Int := if k = 3 then 16777216 else 0
def Qm.exv (k : Nat) : Int := if k = 0 then 16777216 else 0
def Qm.ext (k : Nat) : Int := if k = 0 then 70368744177663 else 0
theorem ex_turn (w : World) (hG : Less w) :
    Calls Tryd.prog 21 #[.agg #[.int .i64 0, .int .i64 0, .int .i64 0, .int .i64 16777216], .agg #[.int .i64 16777216, .int .i64 0, .int .i64 0]] w fun e w' =>
      e = .returned (.tuple #[.agg #[.int .i64 (-16777216), .int .i64 0, .int .i64 0], .bool false]) ∧ Below w.heap.size w w' := by
  have h := turn_any exq exv w hG
  have e1 : tn exq exv 1 = -16777216 := by decide
  have e2 : tn exq exv 2 = 0 := by decide
  have e3 : tn exq exv 3 = 0 := by decide
  have e4 : tnB exq exv = false := by decide
  rw [e1, e2, e3, e4] at h
  exact h
theorem ex_right (w : World) :
    Calls Tryd.prog 19 #[.agg #[.int .i64 70368744177663, .int .i64 0, .int .i64 0, .int .i64 0]] w fun e w' => e = .returned (.bool true) ∧ Below w.heap.size w w' := right_any ext w

set_option maxHeartbeats 1000000 in
theorem shown_any (w : World) (hG : Less w) : Calls Tryd.prog 10 #[] w fun e w' => e = .returned (.bool true) ∧ Below w.heap.size w w' := by
  have q3 := run_eq3
  have z3 := guard35
  have s3 := eq3_self
  go_enter Tryd.func10, Tryd.ntmps10
  go_wp2_with (first | (go_at_call 21; refine (ex_turn _ hG).mono ?_; rintro e wx ⟨rfl, bx⟩) | (go_at_call 19; refine (ex_right _).mono ?_; rintro e wy ⟨rfl, by'⟩))
  go_ret
  exact ⟨rfl, bt (bt bx (ball1 _ _)) by'⟩
end Go.Proofs.YtgekignonjfaiaaDoor
