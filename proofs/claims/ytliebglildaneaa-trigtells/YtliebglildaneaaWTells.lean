/-
  The walk of TrigTells: it returns true.
-/
import Derived.Test.YtliebglildaneaaTShown
import Derived.Test.YtliebglildaneaaRAtan
import Derived.OpenShut
namespace Go.Proofs.Ytliebglildaneaa
open Go.RowKit Qm Tm

theorem rsincos_from (w0 : World) (a : Int) (w : World) (h0 : 0 ≤ a) (h1 : a ≤ 4294967295) (b : Below w0.heap.size w0 w) :
    Calls Try.prog 11 #[.int .u32 a] w fun e w' => e = .returned (.tuple #[.int .i64 (sine a), .int .i64 (cosine a)]) ∧ Below w0.heap.size w0 w' := (rsincos_any a w h0 h1).mono fun _ _ h => ⟨h.1, bt b h.2⟩
theorem ratan_from (w0 : World) (y x : Int) (w : World) (b : Below w0.heap.size w0 w) :
    Calls Try.prog 13 #[.int .i64 y, .int .i64 x] w fun e w' => e = .returned (.int .u32 (atanv y x)) ∧ Below w0.heap.size w0 w' := (ratan_any y x w).mono fun _ _ h => ⟨h.1, bt b h.2⟩
theorem rturnv_from (w0 : World) (i : Int) (w : World) (b : Below w0.heap.size w0 w) :
    Calls Try.prog 15 #[.int .i64 i] w fun e w' => e = .returned (.int .i32 (turnv i)) ∧ Below w0.heap.size w0 w' := (rturn_any i w).mono fun _ _ h => ⟨h.1, bt b h.2⟩
theorem rwrap_from (w0 : World) (a c : Int) (w : World) (b : Below w0.heap.size w0 w) :
    Calls Try.prog 17 #[.int .u32 a, .int .u32 c] w fun e w' => e = .returned (.int .i32 (wrapv a c)) ∧ Below w0.heap.size w0 w' := (rwrap_any a c w).mono fun _ _ h => ⟨h.1, by rw [h.2]; exact b⟩

set_option maxRecDepth 20000 in
set_option maxHeartbeats 2000000 in
theorem trigTells_walk (a b y x i : Int) (w0 : (Lit.int .u32 a).wf = true) (w : World) :
    Calls Try.prog 3 #[.agg #[.int .u32 a, .int .u32 b, .int .i64 y, .int .i64 x, .int .i64 i]] w fun e w' => e = .returned (.bool true) ∧ Below w.heap.size w w' := by
  obtain ⟨u0, u1⟩ := bounds_u32 w0
  clear w0
  have b0 : Below w.heap.size w (w.alloc (.cells #[.int .u32 a, .int .u32 b, .int .i64 y, .int .i64 x, .int .i64 i] 25)) := (Below.refl _ _).alloc (Nat.le_refl _) _
  go_enter Try.func3, Try.ntmps3
  go_wp2_with (first | (go_at_call 9; refine (shown_from w _ (by assumption)).mono ?_; rintro e wx ⟨rfl, bx⟩) | (go_at_call 10; refine (sincos_from w _ _ (by omega) (by omega) (by assumption)).mono ?_; rintro e wx ⟨rfl, bx⟩) | (go_at_call 12; refine (atan_from w _ _ _ (by assumption)).mono ?_; rintro e wx ⟨rfl, bx⟩) | (go_at_call 16; refine (wrap_from w _ _ _ (by assumption)).mono ?_; rintro e wx ⟨rfl, bx⟩) | (go_at_call 14; refine (turn_from w _ _ (by assumption)).mono ?_; rintro e wx ⟨rfl, bx⟩) | (go_at_call 11; refine (rsincos_from w _ _ (by omega) (by omega) (by assumption)).mono ?_; rintro e wx ⟨rfl, bx⟩) | (go_at_call 13; refine (ratan_from w _ _ _ (by assumption)).mono ?_; rintro e wx ⟨rfl, bx⟩) | (go_at_call 15; refine (rturnv_from w _ _ (by assumption)).mono ?_; rintro e wx ⟨rfl, bx⟩) | (go_at_call 17; refine (rwrap_from w _ _ _ (by assumption)).mono ?_; rintro e wx ⟨rfl, bx⟩))
  go_ret
  exact ⟨rfl, by assumption⟩
end Go.Proofs.Ytliebglildaneaa
