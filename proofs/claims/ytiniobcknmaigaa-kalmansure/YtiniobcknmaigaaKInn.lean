/-
  The contract of the code's Innov.
-/
import Derived.Test.YtiniobcknmaigaaKRI6
import Derived.Test.YtiniobcknmaigaaKRI7
import Derived.Test.YtiniobcknmaigaaRInn
import Derived.BigQuiet
namespace Go.Proofs.Ytiniobcknmaigaa
open Go.RowKit Go.Sort Qm

set_option maxHeartbeats 800000 in
theorem hasSize_any (r c a b : Int) (ao : Option Addr) (n cap : Nat) (w : World) :
    Calls Try.prog 31 #[.agg #[.int .i64 r, .int .i64 c, .slice ao n cap], .int .i64 a, .int .i64 b] w fun e w' => e = .returned (.bool (decide (r = a ∧ c = b))) ∧ Below w.heap.size w w' := by
  by_cases h1 : r = a
  · subst h1
    by_cases h2 : c = b
    · subst h2
      go_enter Try.func31, Try.ntmps31
      go_wp2
      go_ret
      exact ⟨by simp, box_below w _⟩
    · have h3 : (c == b) = false := by simpa using h2
      go_enter Try.func31, Try.ntmps31
      go_wp2
      go_ret
      exact ⟨by simp [h2], box_below w _⟩
  · have h3 : (r == a) = false := by simpa using h1
    go_enter Try.func31, Try.ntmps31
    go_wp2
    go_ret
    exact ⟨by simp [h1], box_below w _⟩

set_option maxRecDepth 20000 in
set_option maxHeartbeats 1600000 in
theorem kinnov_not (R1 C1 R2 C2 rh ch : Int) (n1 c1 n2 c2 n3 c3 : Nat) (xo po ho : Option Addr) (z r : Int) (h : ¬ (rh = 1 ∧ ch = R1) ∨ r ≤ 0) (w : World) :
    Calls Try.prog 23 #[.agg #[.int .i64 R1, .int .i64 C1, .slice xo n1 c1, .int .i64 R2, .int .i64 C2, .slice po n2 c2], .agg #[.int .i64 rh, .int .i64 ch, .slice ho n3 c3], .int .i64 z, .int .i64 r] w fun e b =>
      e = .returned (.tuple #[.int .i64 0, .int .i64 0, .bool false, .int .i64 (if rh = 1 ∧ ch = R1 then 1 else 9)]) ∧ Below w.heap.size w b := by
  obtain ⟨W, hW⟩ : ∃ W, (((w.alloc (.cells #[.int .i64 R1, .int .i64 C1, .slice xo n1 c1, .int .i64 R2, .int .i64 C2, .slice po n2 c2] 26)).alloc (.cells #[.int .i64 rh, .int .i64 ch, .slice ho n3 c3] 24)).alloc (.cells #[.int .i64 z] 41)).alloc (.cells #[.int .i64 r] 41) = W := ⟨_, rfl⟩
  have bW := ball4 w (.cells #[.int .i64 R1, .int .i64 C1, .slice xo n1 c1, .int .i64 R2, .int .i64 C2, .slice po n2 c2] 26) (.cells #[.int .i64 rh, .int .i64 ch, .slice ho n3 c3] 24) (.cells #[.int .i64 z] 41) (.cells #[.int .i64 r] 41)
  obtain ⟨x1, x2, x3, x4⟩ := allocs4 w (.cells #[.int .i64 R1, .int .i64 C1, .slice xo n1 c1, .int .i64 R2, .int .i64 C2, .slice po n2 c2] 26) (.cells #[.int .i64 rh, .int .i64 ch, .slice ho n3 c3] 24) (.cells #[.int .i64 z] 41) (.cells #[.int .i64 r] 41)
  rw [hW] at bW x1 x2 x3 x4
  have k1 := hasSize_any rh ch 1 R1 ho n3 c3 W
  have HW : Hid (_ = W) := hW
  obtain ⟨q0, q1, q2, _⟩ := mat_cells x2
  obtain ⟨c0, _⟩ := six_cells x1
  by_cases hd : rh = 1 ∧ ch = R1
  · have hr : r ≤ 0 := h.resolve_left (fun g => g hd)
    rw [if_pos hd]
    rw [show decide (rh = 1 ∧ ch = R1) = true from by simpa using hd] at k1
    have hr' : decide (r ≤ 0) = true := by simpa using hr
    clear hd h
    go_enter Try.func23, Try.ntmps23
    go_wp2_with (go_at_call 31; refine k1.mono ?_; rintro e wx ⟨rfl, bx⟩; have c4 := cell_of_one (keep bx x4))
    refine bodyPost_ret (v := .tuple #[.int .i64 0, .int .i64 0, .bool false, .int .i64 1]) (by simp [results, Try.results23, go_sem]) rfl ?_
    exact ⟨rfl, bt bW bx⟩
  · rw [if_neg hd]
    rw [show decide (rh = 1 ∧ ch = R1) = false from by simpa using hd] at k1
    clear hd h
    go_enter Try.func23, Try.ntmps23
    go_wp2_with (go_at_call 31; refine k1.mono ?_; rintro e wx ⟨rfl, bx⟩)
    refine bodyPost_ret (v := .tuple #[.int .i64 0, .int .i64 0, .bool false, .int .i64 9]) (by simp [results, Try.results23, go_sem]) rfl ?_
    exact ⟨rfl, bt bW bx⟩
end Go.Proofs.Ytiniobcknmaigaa
