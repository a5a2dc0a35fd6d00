/-
  The contract of 'shown', the chapter's example at the head of each statement: it returns true.
-/
import Derived.Test.YtiniobcknmaigaaKShM
namespace Go.Proofs.Ytiniobcknmaigaa
open Go.RowKit Go.Sort Qm

set_option maxRecDepth 20000 in
set_option maxHeartbeats 400000 in
theorem kshown_any (w : World) : Calls Try.prog 10 #[] w fun e w' => e = .returned (.bool true) ∧ Below w.heap.size w w' := by
  obtain ⟨x1, x2⟩ := allocs2 w (.cells #[.int .i64 0] 41) (.cells #[.int .i64 16777216] 41)
  have bW := ball2 w (.cells #[.int .i64 0] 41) (.cells #[.int .i64 16777216] 41)
  obtain ⟨W, hW⟩ : ∃ W, (w.alloc (.cells #[.int .i64 0] 41)).alloc (.cells #[.int .i64 16777216] 41) = W := ⟨_, rfl⟩
  rw [hW] at x1 x2 bW
  have kN := kshow_new _ _ W (sees_one x1) (sees_one x2)
  have hW2 : w.heap.size + 2 = W.heap.size := by rw [← hW]; simp
  go_enter Try.func10, Try.ntmps10
  go_wp2_with (first
    | (have _ := b1; go_at_call 22; go_must (refine kU.mono ?_); rintro e wb ⟨va, vb, rfl, s1, s2, b2⟩; obtain ⟨a1, p1, rfl, l1, v1⟩ := s1.first rfl; obtain ⟨a2, p2, rfl, l2, v2⟩ := s2.first rfl; have v1' := old_cell' (v := .int .i64 16777216) v1 l1 (.cells #[.int .i64 1, .int .i64 1, .slice (some a1) 1 p1, .int .i64 1, .int .i64 1, .slice (some a2) 1 p2] 26); have v2' := old_cell' (v := .int .i64 8388608) v2 l2 (.cells #[.int .i64 1, .int .i64 1, .slice (some a1) 1 p1, .int .i64 1, .int .i64 1, .slice (some a2) 1 p2] 26); clear v1 v2 s1 s2)
    | (go_at_call 11; go_must (refine kN.mono ?_); rintro e wa ⟨va, vb, rfl, sa, sb, b1⟩; obtain ⟨oa, pa, rfl, _, _⟩ := sa.first rfl; obtain ⟨ob', pb, rfl, _, _⟩ := sb.first rfl; have y2 := sees_one (allocs3 wa (.cells #[.int .i64 1, .int .i64 1, .slice (some oa) 1 pa, .int .i64 1, .int .i64 1, .slice (some ob') 1 pb] 26) (.cells #[.int .i64 16777216] 41) (.cells #[.int .i64 1, .int .i64 1, .slice (some ⟨wa.heap.size + 1, 0, none⟩) 1 1] 24)).2.1; have y3 := ball3 wa (.cells #[.int .i64 1, .int .i64 1, .slice (some oa) 1 pa, .int .i64 1, .int .i64 1, .slice (some ob') 1 pb] 26) (.cells #[.int .i64 16777216] 41) (.cells #[.int .i64 1, .int .i64 1, .slice (some ⟨wa.heap.size + 1, 0, none⟩) 1 1] 24); have kU := kshow_up _ _ _ _ (sa.below y3) (sb.below y3) y2; clear sa sb y2))
  go_ret
  exact ⟨rfl, bt bW (bt b1 (bt y3 (bt b2 (box_below wb _))))⟩
end Go.Proofs.Ytiniobcknmaigaa
