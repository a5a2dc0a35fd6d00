/-
  Ends: the code's Right.
-/
import Derived.Test.YtbhgffbmeaomkaaLC
namespace Go.Proofs.Ytbhgffbmeaomkaa.Gr
open Go.RowKit Go.Sort Lm
set_option linter.unusedVariables false

set_option maxRecDepth 20000 in
set_option maxHeartbeats 2000000 in
theorem right_any (v : Value) (l : Lk) (w : World) (hn : l.sent.length ≤ 1000) (sv : SeesL w v l) :
    Calls Try.prog 15 #[v] w fun e w' => e = .returned (.bool (rightL l)) ∧ Below w.heap.size w w' := by
  obtain ⟨vs, rfl, sl⟩ := sv
  obtain ⟨so, sc, rfl⟩ := sl.slice
  obtain ⟨V, hV⟩ : ∃ V, w.alloc (.cells #[.int .i64 l.own, .int .i64 l.other, .int .i64 l.first, .slice so l.sent.length sc, .int .i64 l.next] 24) = V := ⟨_, rfl⟩
  have hB := heap_new w (.cells #[.int .i64 l.own, .int .i64 l.other, .int .i64 l.first, .slice so l.sent.length sc, .int .i64 l.next] 24)
  have bV : Below w.heap.size w V := by rw [← hV]; exact box_below _ _
  rw [hV] at hB
  have HB : Hid (V.heap[w.heap.size]? = _) := hB
  clear hB sl
  rw [rightL_in]
  obtain ⟨n, hn'⟩ : ∃ n, l.sent.length = n := ⟨_, rfl⟩
  rw [hn'] at hn hV HB ⊢
  clear hn'
  cases h1 : inB 1 4611686018427387904 l.own with
  | false =>
    --[a
    go_enter Try.func15, Try.ntmps15
    go_wp2_with (first
      | (have _ := x1; go_at_call 30; go_must (refine (in_any _ _ _ _ _ _ (by assumption) (by assumption)).mono ?_); rintro e _ ⟨rfl, rfl⟩)
      | (have _ := b1; go_at_call 25; go_must (refine (between_any 0 4611686018427387904 w1).mono ?_); rintro e w2 ⟨x1, y1, rfl, hx1, hy1, b2⟩; have c1 := hx1.cell; have c2 := hy1.cell; have a1 := (b2.cell (block_lt_of_cell hx.cell)).trans hx.cell; have a2 := (b2.cell (block_lt_of_cell hy.cell)).trans hy.cell; obtain ⟨k1, k2, k3, k4, k5⟩ := five_cells (keep (bt b1 b2) HB.out))
      | (go_at_call 25; go_must (refine (between_any 1 4611686018427387904 V).mono ?_); rintro e w1 ⟨x, y, rfl, hx, hy, b1⟩))
    go_ret
    exact ⟨by simp, bV.trans ((bt b1 b2).mono (by have := bV.size; omega))⟩
    --]a
  | true =>
    cases h2 : inB 0 4611686018427387904 l.other with
    | false =>
      --[b
      go_enter Try.func15, Try.ntmps15
      go_wp2_with (first
        | (have _ := x1; go_at_call 30; go_must (refine (in_any _ _ _ _ _ _ (by assumption) (by assumption)).mono ?_); rintro e _ ⟨rfl, rfl⟩)
        | (have _ := b1; go_at_call 25; go_must (refine (between_any 0 4611686018427387904 w1).mono ?_); rintro e w2 ⟨x1, y1, rfl, hx1, hy1, b2⟩; have c1 := hx1.cell; have c2 := hy1.cell; have a1 := (b2.cell (block_lt_of_cell hx.cell)).trans hx.cell; have a2 := (b2.cell (block_lt_of_cell hy.cell)).trans hy.cell; obtain ⟨k1, k2, k3, k4, k5⟩ := five_cells (keep (bt b1 b2) HB.out))
        | (go_at_call 25; go_must (refine (between_any 1 4611686018427387904 V).mono ?_); rintro e w1 ⟨x, y, rfl, hx, hy, b1⟩))
      go_ret
      exact ⟨by simp, bV.trans ((bt b1 b2).mono (by have := bV.size; omega))⟩
      --]b
    | true =>
      cases h3 : inB 0 4611686018427387904 l.first with
      | false =>
        --[c
        go_enter Try.func15, Try.ntmps15
        go_wp2_with (first
          | (have _ := x1; go_at_call 30; go_must (refine (in_any _ _ _ _ _ _ (by assumption) (by assumption)).mono ?_); rintro e _ ⟨rfl, rfl⟩)
          | (have _ := b1; go_at_call 25; go_must (refine (between_any 0 4611686018427387904 w1).mono ?_); rintro e w2 ⟨x1, y1, rfl, hx1, hy1, b2⟩; have c1 := hx1.cell; have c2 := hy1.cell; have a1 := (b2.cell (block_lt_of_cell hx.cell)).trans hx.cell; have a2 := (b2.cell (block_lt_of_cell hy.cell)).trans hy.cell; obtain ⟨k1, k2, k3, k4, k5⟩ := five_cells (keep (bt b1 b2) HB.out))
          | (go_at_call 25; go_must (refine (between_any 1 4611686018427387904 V).mono ?_); rintro e w1 ⟨x, y, rfl, hx, hy, b1⟩))
        go_ret
        exact ⟨by simp, bV.trans ((bt b1 b2).mono (by have := bV.size; omega))⟩
        --]c
      | true =>
        cases h4 : inB 0 4611686018427387904 l.next with
        | false =>
          --[d
          go_enter Try.func15, Try.ntmps15
          go_wp2_with (first
            | (have _ := x1; go_at_call 30; go_must (refine (in_any _ _ _ _ _ _ (by assumption) (by assumption)).mono ?_); rintro e _ ⟨rfl, rfl⟩)
            | (have _ := b1; go_at_call 25; go_must (refine (between_any 0 4611686018427387904 w1).mono ?_); rintro e w2 ⟨x1, y1, rfl, hx1, hy1, b2⟩; have c1 := hx1.cell; have c2 := hy1.cell; have a1 := (b2.cell (block_lt_of_cell hx.cell)).trans hx.cell; have a2 := (b2.cell (block_lt_of_cell hy.cell)).trans hy.cell; obtain ⟨k1, k2, k3, k4, k5⟩ := five_cells (keep (bt b1 b2) HB.out))
            | (go_at_call 25; go_must (refine (between_any 1 4611686018427387904 V).mono ?_); rintro e w1 ⟨x, y, rfl, hx, hy, b1⟩))
          go_ret
          exact ⟨by simp, bV.trans ((bt b1 b2).mono (by have := bV.size; omega))⟩
          --]d
        | true =>
          --[e
          go_enter Try.func15, Try.ntmps15
          go_wp2_with (first
            | (have _ := x1; go_at_call 30; go_must (refine (in_any _ _ _ _ _ _ (by assumption) (by assumption)).mono ?_); rintro e _ ⟨rfl, rfl⟩)
            | (have _ := b1; go_at_call 25; go_must (refine (between_any 0 4611686018427387904 w1).mono ?_); rintro e w2 ⟨x1, y1, rfl, hx1, hy1, b2⟩; have c1 := hx1.cell; have c2 := hy1.cell; have a1 := (b2.cell (block_lt_of_cell hx.cell)).trans hx.cell; have a2 := (b2.cell (block_lt_of_cell hy.cell)).trans hy.cell; obtain ⟨k1, k2, k3, k4, k5⟩ := five_cells (keep (bt b1 b2) HB.out))
            | (go_at_call 25; go_must (refine (between_any 1 4611686018427387904 V).mono ?_); rintro e w1 ⟨x, y, rfl, hx, hy, b1⟩))
          go_ret
          exact ⟨by simp; omega, bV.trans ((bt b1 b2).mono (by have := bV.size; omega))⟩
          --]e
end Go.Proofs.Ytbhgffbmeaomkaa.Gr
