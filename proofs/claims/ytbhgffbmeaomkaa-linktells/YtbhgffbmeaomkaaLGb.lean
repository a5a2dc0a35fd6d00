/-
  Ends: the code's isFor, what is let in.
-/
import Derived.Test.YtbhgffbmeaomkaaLC
namespace Go.Proofs.Ytbhgffbmeaomkaa.Gr
open Go.RowKit Go.Sort Lm
set_option linter.unusedVariables false

set_option maxRecDepth 20000 in
set_option maxHeartbeats 2000000 in
theorem isfor_dn (v vp : Value) (l : Lk) (p : Pk) (w : World) (hp : p.words.length ≤ 1000) (sv : SeesL w v l) (sp : SeesP w vp p)
    (h1 : inB 1 4611686018427387904 p.frm = true) (h2 : decide (p.frm < l.other) = false) (h3 : ¬ p.to = 0) (h4 : p.to = l.own) (h4c : ¬ l.own = 0) (h5 : inB 0 4611686018427387896 p.place = false) :
    Calls Try.prog 28 #[v, vp] w fun e w' => e = .returned (.bool (false)) ∧ Below w.heap.size w w' := by
  obtain ⟨vs, rfl, sl⟩ := sv
  obtain ⟨so, sc, rfl⟩ := sl.slice
  obtain ⟨ws, rfl, sp⟩ := sp
  obtain ⟨po, pc, rfl⟩ := sp.slice
  rw [h4]
  clear h3 h4
  obtain ⟨V, hV⟩ : ∃ V, (w.alloc (.cells #[.int .i64 l.own, .int .i64 l.other, .int .i64 l.first, .slice so l.sent.length sc, .int .i64 l.next] 24)).alloc (.cells #[.int .i64 p.frm, .int .i64 l.own, .int .i64 p.place, .slice po p.words.length pc, .int .i64 p.wait] 26) = V := ⟨_, rfl⟩
  obtain ⟨hB, hC⟩ := heaps2' w (.cells #[.int .i64 l.own, .int .i64 l.other, .int .i64 l.first, .slice so l.sent.length sc, .int .i64 l.next] 24) (.cells #[.int .i64 p.frm, .int .i64 l.own, .int .i64 p.place, .slice po p.words.length pc, .int .i64 p.wait] 26)
  have bV : Below w.heap.size w V := by rw [← hV]; exact bt (box_below _ _) (box_below _ _)
  rw [hV] at hB hC
  have HB : Hid (V.heap[w.heap.size]? = _) := hB
  have HC : Hid (V.heap[w.heap.size + 1]? = _) := hC
  clear hB hC sl sp
  obtain ⟨n, hn'⟩ : ∃ n, l.sent.length = n := ⟨_, rfl⟩
  obtain ⟨m, hm'⟩ : ∃ m, p.words.length = m := ⟨_, rfl⟩
  rw [hn'] at hV HB ⊢
  rw [hm'] at hp hV HC ⊢
  go_enter Try.func28, Try.ntmps28
  go_wp2_with (first
    | (have _ := x2; go_at_call 30; go_must (refine (in_any _ _ _ _ _ _ (by assumption) (by assumption)).mono ?_); rintro e _ ⟨rfl, rfl⟩)
    | (have _ := b2; go_at_call 25; go_must (refine (between_any 0 4611686018427387904 w2).mono ?_); rintro e w3 ⟨x2, y2, rfl, hx2, hy2, b3⟩; have c1 := hx2.cell; have c2 := hy2.cell; have a1 := (b3.cell (block_lt_of_cell hx1.cell)).trans hx1.cell; have a2 := (b3.cell (block_lt_of_cell hy1.cell)).trans hy1.cell; have d1 := ((bt b2 b3).cell (block_lt_of_cell hx.cell)).trans hx.cell; have d2 := ((bt b2 b3).cell (block_lt_of_cell hy.cell)).trans hy.cell; obtain ⟨k1, k2, k3, k4, k5⟩ := five_cells (keep (bt (bt b1 b2) b3) HB.out); obtain ⟨q1, q2, q3, q4, q5⟩ := five_cells (keep (bt (bt b1 b2) b3) HC.out))
    | (have _ := b1; go_at_call 25; go_must (refine (between_any 0 4611686018427387896 w1).mono ?_); rintro e w2 ⟨x1, y1, rfl, hx1, hy1, b2⟩)
    | (go_at_call 25; go_must (refine (between_any 1 4611686018427387904 V).mono ?_); rintro e w1 ⟨x, y, rfl, hx, hy, b1⟩))
  go_ret
  exact ⟨by rfl, bV.trans ((bt (bt b1 b2) b3).mono (by have := bV.size; omega))⟩
set_option maxRecDepth 20000 in
set_option maxHeartbeats 2000000 in
theorem isfor_en (v vp : Value) (l : Lk) (p : Pk) (w : World) (hp : p.words.length ≤ 1000) (sv : SeesL w v l) (sp : SeesP w vp p)
    (h1 : inB 1 4611686018427387904 p.frm = true) (h2 : decide (p.frm < l.other) = false) (h3 : ¬ p.to = 0) (h4 : p.to = l.own) (h4c : ¬ l.own = 0) (h5 : inB 0 4611686018427387896 p.place = true) (h6 : inB 0 4611686018427387904 p.wait = false) :
    Calls Try.prog 28 #[v, vp] w fun e w' => e = .returned (.bool (false)) ∧ Below w.heap.size w w' := by
  obtain ⟨vs, rfl, sl⟩ := sv
  obtain ⟨so, sc, rfl⟩ := sl.slice
  obtain ⟨ws, rfl, sp⟩ := sp
  obtain ⟨po, pc, rfl⟩ := sp.slice
  rw [h4]
  clear h3 h4
  obtain ⟨V, hV⟩ : ∃ V, (w.alloc (.cells #[.int .i64 l.own, .int .i64 l.other, .int .i64 l.first, .slice so l.sent.length sc, .int .i64 l.next] 24)).alloc (.cells #[.int .i64 p.frm, .int .i64 l.own, .int .i64 p.place, .slice po p.words.length pc, .int .i64 p.wait] 26) = V := ⟨_, rfl⟩
  obtain ⟨hB, hC⟩ := heaps2' w (.cells #[.int .i64 l.own, .int .i64 l.other, .int .i64 l.first, .slice so l.sent.length sc, .int .i64 l.next] 24) (.cells #[.int .i64 p.frm, .int .i64 l.own, .int .i64 p.place, .slice po p.words.length pc, .int .i64 p.wait] 26)
  have bV : Below w.heap.size w V := by rw [← hV]; exact bt (box_below _ _) (box_below _ _)
  rw [hV] at hB hC
  have HB : Hid (V.heap[w.heap.size]? = _) := hB
  have HC : Hid (V.heap[w.heap.size + 1]? = _) := hC
  clear hB hC sl sp
  obtain ⟨n, hn'⟩ : ∃ n, l.sent.length = n := ⟨_, rfl⟩
  obtain ⟨m, hm'⟩ : ∃ m, p.words.length = m := ⟨_, rfl⟩
  rw [hn'] at hV HB ⊢
  rw [hm'] at hp hV HC ⊢
  go_enter Try.func28, Try.ntmps28
  go_wp2_with (first
    | (have _ := x2; go_at_call 30; go_must (refine (in_any _ _ _ _ _ _ (by assumption) (by assumption)).mono ?_); rintro e _ ⟨rfl, rfl⟩)
    | (have _ := b2; go_at_call 25; go_must (refine (between_any 0 4611686018427387904 w2).mono ?_); rintro e w3 ⟨x2, y2, rfl, hx2, hy2, b3⟩; have c1 := hx2.cell; have c2 := hy2.cell; have a1 := (b3.cell (block_lt_of_cell hx1.cell)).trans hx1.cell; have a2 := (b3.cell (block_lt_of_cell hy1.cell)).trans hy1.cell; have d1 := ((bt b2 b3).cell (block_lt_of_cell hx.cell)).trans hx.cell; have d2 := ((bt b2 b3).cell (block_lt_of_cell hy.cell)).trans hy.cell; obtain ⟨k1, k2, k3, k4, k5⟩ := five_cells (keep (bt (bt b1 b2) b3) HB.out); obtain ⟨q1, q2, q3, q4, q5⟩ := five_cells (keep (bt (bt b1 b2) b3) HC.out))
    | (have _ := b1; go_at_call 25; go_must (refine (between_any 0 4611686018427387896 w1).mono ?_); rintro e w2 ⟨x1, y1, rfl, hx1, hy1, b2⟩)
    | (go_at_call 25; go_must (refine (between_any 1 4611686018427387904 V).mono ?_); rintro e w1 ⟨x, y, rfl, hx, hy, b1⟩))
  go_ret
  exact ⟨by rfl, bV.trans ((bt (bt b1 b2) b3).mono (by have := bV.size; omega))⟩
set_option maxRecDepth 20000 in
set_option maxHeartbeats 2000000 in
theorem isfor_fn (v vp : Value) (l : Lk) (p : Pk) (w : World) (hp : p.words.length ≤ 1000) (sv : SeesL w v l) (sp : SeesP w vp p)
    (h1 : inB 1 4611686018427387904 p.frm = true) (h2 : decide (p.frm < l.other) = false) (h3 : ¬ p.to = 0) (h4 : p.to = l.own) (h4c : ¬ l.own = 0) (h5 : inB 0 4611686018427387896 p.place = true) (h6 : inB 0 4611686018427387904 p.wait = true) :
    Calls Try.prog 28 #[v, vp] w fun e w' => e = .returned (.bool (decide ((p.words.length : Int) ≤ 8))) ∧ Below w.heap.size w w' := by
  obtain ⟨vs, rfl, sl⟩ := sv
  obtain ⟨so, sc, rfl⟩ := sl.slice
  obtain ⟨ws, rfl, sp⟩ := sp
  obtain ⟨po, pc, rfl⟩ := sp.slice
  rw [h4]
  clear h3 h4
  obtain ⟨V, hV⟩ : ∃ V, (w.alloc (.cells #[.int .i64 l.own, .int .i64 l.other, .int .i64 l.first, .slice so l.sent.length sc, .int .i64 l.next] 24)).alloc (.cells #[.int .i64 p.frm, .int .i64 l.own, .int .i64 p.place, .slice po p.words.length pc, .int .i64 p.wait] 26) = V := ⟨_, rfl⟩
  obtain ⟨hB, hC⟩ := heaps2' w (.cells #[.int .i64 l.own, .int .i64 l.other, .int .i64 l.first, .slice so l.sent.length sc, .int .i64 l.next] 24) (.cells #[.int .i64 p.frm, .int .i64 l.own, .int .i64 p.place, .slice po p.words.length pc, .int .i64 p.wait] 26)
  have bV : Below w.heap.size w V := by rw [← hV]; exact bt (box_below _ _) (box_below _ _)
  rw [hV] at hB hC
  have HB : Hid (V.heap[w.heap.size]? = _) := hB
  have HC : Hid (V.heap[w.heap.size + 1]? = _) := hC
  clear hB hC sl sp
  obtain ⟨n, hn'⟩ : ∃ n, l.sent.length = n := ⟨_, rfl⟩
  obtain ⟨m, hm'⟩ : ∃ m, p.words.length = m := ⟨_, rfl⟩
  rw [hn'] at hV HB ⊢
  rw [hm'] at hp hV HC ⊢
  go_enter Try.func28, Try.ntmps28
  go_wp2_with (first
    | (have _ := x2; go_at_call 30; go_must (refine (in_any _ _ _ _ _ _ (by assumption) (by assumption)).mono ?_); rintro e _ ⟨rfl, rfl⟩)
    | (have _ := b2; go_at_call 25; go_must (refine (between_any 0 4611686018427387904 w2).mono ?_); rintro e w3 ⟨x2, y2, rfl, hx2, hy2, b3⟩; have c1 := hx2.cell; have c2 := hy2.cell; have a1 := (b3.cell (block_lt_of_cell hx1.cell)).trans hx1.cell; have a2 := (b3.cell (block_lt_of_cell hy1.cell)).trans hy1.cell; have d1 := ((bt b2 b3).cell (block_lt_of_cell hx.cell)).trans hx.cell; have d2 := ((bt b2 b3).cell (block_lt_of_cell hy.cell)).trans hy.cell; obtain ⟨k1, k2, k3, k4, k5⟩ := five_cells (keep (bt (bt b1 b2) b3) HB.out); obtain ⟨q1, q2, q3, q4, q5⟩ := five_cells (keep (bt (bt b1 b2) b3) HC.out))
    | (have _ := b1; go_at_call 25; go_must (refine (between_any 0 4611686018427387896 w1).mono ?_); rintro e w2 ⟨x1, y1, rfl, hx1, hy1, b2⟩)
    | (go_at_call 25; go_must (refine (between_any 1 4611686018427387904 V).mono ?_); rintro e w1 ⟨x, y, rfl, hx, hy, b1⟩))
  go_ret
  exact ⟨by simp, bV.trans ((bt (bt b1 b2) b3).mono (by have := bV.size; omega))⟩
end Go.Proofs.Ytbhgffbmeaomkaa.Gr
