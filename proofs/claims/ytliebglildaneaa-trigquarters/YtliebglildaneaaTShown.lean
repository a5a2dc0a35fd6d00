/-
  The contract of 'shown', the document's examples at the head of each statement: it returns true; and the contracts from an elder world on.
-/
import Derived.Test.YtliebglildaneaaAtan
import Derived.Test.YtliebglildaneaaRTurn
namespace Go.Proofs.Ytliebglildaneaa
open Go.RowKit Qm Tm

theorem shown_sine : sine 1073741824 = 16777216 := by decide +kernel
theorem shown_cosine : cosine 1073741824 = 0 := by decide +kernel
theorem shown_atan : atanv 16777216 16777216 = 536870915 := by decide +kernel
theorem shown_turn : turnv 29 = 1 := by decide +kernel

theorem sincos_from (w0 : World) (a : Int) (w : World) (h0 : 0 ≤ a) (h1 : a ≤ 4294967295) (b : Below w0.heap.size w0 w) :
    Calls Try.prog 10 #[.int .u32 a] w fun e w' => e = .returned (.tuple #[.int .i64 (sine a), .int .i64 (cosine a)]) ∧ Below w0.heap.size w0 w' := (sincos_any a w h0 h1).mono fun _ _ h => ⟨h.1, bt b h.2⟩
theorem atan_from (w0 : World) (y x : Int) (w : World) (b : Below w0.heap.size w0 w) :
    Calls Try.prog 12 #[.int .i64 y, .int .i64 x] w fun e w' => e = .returned (.int .u32 (atanv y x)) ∧ Below w0.heap.size w0 w' := (atan_any y x w).mono fun _ _ h => ⟨h.1, bt b h.2⟩
theorem turn_from (w0 : World) (i : Int) (w : World) (b : Below w0.heap.size w0 w) :
    Calls Try.prog 14 #[.int .i64 i] w fun e w' => e = .returned (.int .i32 (turnv i)) ∧ Below w0.heap.size w0 w' := (turn_any i w).mono fun _ _ h => ⟨h.1, bt b h.2⟩
theorem wrap_from (w0 : World) (a c : Int) (w : World) (b : Below w0.heap.size w0 w) :
    Calls Try.prog 16 #[.int .u32 a, .int .u32 c] w fun e w' => e = .returned (.int .i32 (wrapv a c)) ∧ Below w0.heap.size w0 w' := (wrap_any a c w).mono fun _ _ h => ⟨h.1, by rw [h.2]; exact b⟩

set_option maxHeartbeats 400000 in
theorem near_in (a c d : Int) (w0 w : World) (b : Below w0.heap.size w0 w) (h0 : -4611686018427387904 ≤ a - c) (h1 : a - c ≤ 4611686018427387904) (h2 : a - c < d) (h3 : c - a < d) :
    Calls Try.prog 18 #[.int .i64 a, .int .i64 c, .int .i64 d] w fun e w' => e = .returned (.bool true) ∧ Below w0.heap.size w0 w' := by
  go_enter Try.func18, Try.ntmps18
  go_wp2
  go_ret
  exact ⟨rfl, b⟩

set_option maxHeartbeats 1000000 in
theorem shown_any (w : World) : Calls Try.prog 9 #[] w fun e w' => e = .returned (.bool true) ∧ Below w.heap.size w w' := by
  have b0 : Below w.heap.size w w := Below.refl _ _
  have e1 := shown_sine
  have e2 := shown_cosine
  have e3 := shown_atan
  have e4 := shown_turn
  have e5 : wrapv 536870915 536870912 = 3 := by decide
  go_enter Try.func9, Try.ntmps9
  go_wp2_with (first | (go_at_call 10; refine (sincos_from w _ _ (by omega) (by omega) (by assumption)).mono ?_; rintro e wx ⟨rfl, bx⟩) | (go_at_call 12; refine (atan_from w _ _ _ (by assumption)).mono ?_; rintro e wx ⟨rfl, bx⟩) | (go_at_call 16; refine (wrap_from w _ _ _ (by assumption)).mono ?_; rintro e wx ⟨rfl, bx⟩) | (go_at_call 14; refine (turn_from w _ _ (by assumption)).mono ?_; rintro e wx ⟨rfl, bx⟩) | (go_at_call 18; refine (near_in _ _ _ w _ (by assumption) (by omega) (by omega) (by omega) (by omega)).mono ?_; rintro e wx ⟨rfl, bx⟩))
  go_ret
  exact ⟨rfl, by assumption⟩
theorem shown_from (w0 : World) (w : World) (b : Below w0.heap.size w0 w) :
    Calls Try.prog 9 #[] w fun e w' => e = .returned (.bool true) ∧ Below w0.heap.size w0 w' := (shown_any w).mono fun _ _ h => ⟨h.1, bt b h.2⟩
end Go.Proofs.Ytliebglildaneaa
