/-
  The contracts of the code's Predict and Update, of what they refuse.
-/
import Derived.Test.YtiniobcknmaigaaG35
namespace Go.Proofs.Ytiniobcknmaigaa
open Go.RowKit Go.Sort Qm

set_option maxRecDepth 20000 in
set_option maxHeartbeats 800000 in
theorem kpredict_not (R1 C1 R2 C2 rf cf rq cq : Int) (l1 k1 l2 k2 l3 k3 l4 k4 : Nat) (xo po fo qo : Option Addr) (h : ¬ ((rf = R2 ∧ cf = C2) ∧ rq = R2 ∧ cq = C2)) (w : World) :
    Calls Try.prog 21 #[.agg #[.int .i64 R1, .int .i64 C1, .slice xo l1 k1, .int .i64 R2, .int .i64 C2, .slice po l2 k2], .agg #[.int .i64 rf, .int .i64 cf, .slice fo l3 k3], .agg #[.int .i64 rq, .int .i64 cq, .slice qo l4 k4]] w fun e b =>
      e = .returned (.tuple #[.agg #[.int .i64 0, .int .i64 0, .slice none 0 0, .int .i64 0, .int .i64 0, .slice none 0 0], .bool false, .int .i64 9]) ∧ Below w.heap.size w b := by
  obtain ⟨W, hW⟩ : ∃ W, (((w.alloc (.cells #[.int .i64 R1, .int .i64 C1, .slice xo l1 k1, .int .i64 R2, .int .i64 C2, .slice po l2 k2] 26)).alloc (.cells #[.int .i64 rf, .int .i64 cf, .slice fo l3 k3] 24)).alloc (.cells #[.int .i64 rq, .int .i64 cq, .slice qo l4 k4] 24)).alloc (.cells #[.int .i64 0, .int .i64 0, .slice none 0 0, .int .i64 0, .int .i64 0, .slice none 0 0] 26) = W := ⟨_, rfl⟩
  have bW := ball4 w (.cells #[.int .i64 R1, .int .i64 C1, .slice xo l1 k1, .int .i64 R2, .int .i64 C2, .slice po l2 k2] 26) (.cells #[.int .i64 rf, .int .i64 cf, .slice fo l3 k3] 24) (.cells #[.int .i64 rq, .int .i64 cq, .slice qo l4 k4] 24) (.cells #[.int .i64 0, .int .i64 0, .slice none 0 0, .int .i64 0, .int .i64 0, .slice none 0 0] 26)
  obtain ⟨x1, x2, x3, x4⟩ := allocs4 w (.cells #[.int .i64 R1, .int .i64 C1, .slice xo l1 k1, .int .i64 R2, .int .i64 C2, .slice po l2 k2] 26) (.cells #[.int .i64 rf, .int .i64 cf, .slice fo l3 k3] 24) (.cells #[.int .i64 rq, .int .i64 cq, .slice qo l4 k4] 24) (.cells #[.int .i64 0, .int .i64 0, .slice none 0 0, .int .i64 0, .int .i64 0, .slice none 0 0] 26)
  rw [hW] at bW x1 x2 x3 x4
  have g1 := fun v => hasSize_any rf cf R2 C2 fo l3 k3 v
  have g2 := fun v => hasSize_any rq cq R2 C2 qo l4 k4 v
  obtain ⟨t0, t1, t2, t3, t4, t5⟩ := six_cells x1
  obtain ⟨q0, q1, q2, _⟩ := mat_cells x2
  obtain ⟨z0, z1, z2, z3, z4, z5⟩ := six_cells x4
  have HS := fun v (hv : Below W.heap.size W v) y0 y1 y2 y3 y4 y5 => below_six (D := w.heap.size + 1 + 1 + 1) (bt bW hv) (by omega) y0 y1 y2 y3 y4 y5
  by_cases hf : rf = R2 ∧ cf = C2
  · have hq : ¬ (rq = R2 ∧ cq = C2) := fun g => h ⟨hf, g⟩
    rw [decide_eq_true hf] at g1
    rw [decide_eq_false hq] at g2
    clear h hf hq
    go_enter Try.func21, Try.ntmps21
    go_wp2_with (first
      | (have _ := bx; go_at_call 31; go_must (refine (g2 _).mono ?_); rintro e wy ⟨rfl, by_⟩; obtain ⟨z0, z1, z2, z3, z4, z5⟩ := six_cells (keep (bt bx by_) x4); obtain ⟨f0, f1, f2, f3, f4, f5⟩ := six_free (keep (bt bx by_) x4))
      | (go_at_call 31; go_must (refine (g1 _).mono ?_); rintro e wx ⟨rfl, bx⟩; obtain ⟨r0, r1, r2, _⟩ := mat_cells (keep bx x3); obtain ⟨t0, t1, t2, t3, t4, t5⟩ := six_cells (keep bx x1)))
    refine bodyPost_ret (v := .tuple #[.agg #[.int .i64 0, .int .i64 0, .slice none 0 0, .int .i64 0, .int .i64 0, .slice none 0 0], .bool false, .int .i64 9]) (by simp [results, Try.results21, go_sem, z0, z1, z2, z3, z4, z5]) rfl ?_
    exact ⟨rfl, HS _ (bt bx by_) _ _ _ _ _ _⟩
  · rw [decide_eq_false hf] at g1
    clear h hf
    go_enter Try.func21, Try.ntmps21
    go_wp2_with (go_at_call 31; go_must (refine (g1 _).mono ?_); rintro e wx ⟨rfl, bx⟩; obtain ⟨z0, z1, z2, z3, z4, z5⟩ := six_cells (keep bx x4); obtain ⟨f0, f1, f2, f3, f4, f5⟩ := six_free (keep bx x4))
    refine bodyPost_ret (v := .tuple #[.agg #[.int .i64 0, .int .i64 0, .slice none 0 0, .int .i64 0, .int .i64 0, .slice none 0 0], .bool false, .int .i64 9]) (by simp [results, Try.results21, go_sem, z0, z1, z2, z3, z4, z5]) rfl ?_
    exact ⟨rfl, HS _ bx _ _ _ _ _ _⟩

set_option maxRecDepth 20000 in
set_option maxHeartbeats 800000 in
theorem kupdate_bad (R1 C1 R2 C2 rh ch : Int) (l1 k1 l2 k2 l3 k3 : Nat) (xo po ho : Option Addr) (z r gate : Int) (h : ¬ (rh = 1 ∧ ch = R1) ∨ r ≤ 0) (w : World) :
    Calls Try.prog 22 #[.agg #[.int .i64 R1, .int .i64 C1, .slice xo l1 k1, .int .i64 R2, .int .i64 C2, .slice po l2 k2], .agg #[.int .i64 rh, .int .i64 ch, .slice ho l3 k3], .int .i64 z, .int .i64 r, .int .i64 gate] w fun e b =>
      e = .returned (.tuple #[.agg #[.int .i64 0, .int .i64 0, .slice none 0 0, .int .i64 0, .int .i64 0, .slice none 0 0], .bool false, .bool false, .int .i64 (if rh = 1 ∧ ch = R1 then 1 else 9)]) ∧ Below w.heap.size w b := by
  obtain ⟨W, hW⟩ : ∃ W, ((w.alloc (.cells #[.int .i64 R1, .int .i64 C1, .slice xo l1 k1, .int .i64 R2, .int .i64 C2, .slice po l2 k2] 26)).alloc (.cells #[.int .i64 rh, .int .i64 ch, .slice ho l3 k3] 24)).alloc (.cells #[.int .i64 0, .int .i64 0, .slice none 0 0, .int .i64 0, .int .i64 0, .slice none 0 0] 26) = W := ⟨_, rfl⟩
  have bW := ball3 w (.cells #[.int .i64 R1, .int .i64 C1, .slice xo l1 k1, .int .i64 R2, .int .i64 C2, .slice po l2 k2] 26) (.cells #[.int .i64 rh, .int .i64 ch, .slice ho l3 k3] 24) (.cells #[.int .i64 0, .int .i64 0, .slice none 0 0, .int .i64 0, .int .i64 0, .slice none 0 0] 26)
  obtain ⟨x1, x2, x3⟩ := allocs3 w (.cells #[.int .i64 R1, .int .i64 C1, .slice xo l1 k1, .int .i64 R2, .int .i64 C2, .slice po l2 k2] 26) (.cells #[.int .i64 rh, .int .i64 ch, .slice ho l3 k3] 24) (.cells #[.int .i64 0, .int .i64 0, .slice none 0 0, .int .i64 0, .int .i64 0, .slice none 0 0] 26)
  rw [hW] at bW x1 x2 x3
  have g1 := kinnov_not R1 C1 R2 C2 rh ch l1 k1 l2 k2 l3 k3 xo po ho z r h W
  obtain ⟨E, hE⟩ : ∃ E, (if rh = 1 ∧ ch = R1 then (1 : Int) else 9) = E := ⟨_, rfl⟩
  have hE0 : (E == 0) = false := by rw [← hE]; split <;> rfl
  rw [hE] at g1 ⊢
  obtain ⟨t0, t1, t2, t3, t4, t5⟩ := six_cells x1
  obtain ⟨q0, q1, q2, _⟩ := mat_cells x2
  have HS := fun v (hv : Below W.heap.size W v) y0 y1 y2 y3 y4 y5 => below_six (D := w.heap.size + 1 + 1) (bt bW hv) (by omega) y0 y1 y2 y3 y4 y5
  clear h hE
  go_enter Try.func22, Try.ntmps22
  go_wp2_with (go_at_call 23; go_must (refine g1.mono ?_); rintro e wx ⟨rfl, bx⟩; obtain ⟨z0, z1, z2, z3, z4, z5⟩ := six_cells (keep bx x3); obtain ⟨f0, f1, f2, f3, f4, f5⟩ := six_free (keep bx x3))
  refine bodyPost_ret (v := .tuple #[.agg #[.int .i64 0, .int .i64 0, .slice none 0 0, .int .i64 0, .int .i64 0, .slice none 0 0], .bool false, .bool false, .int .i64 E]) (by simp [results, Try.results22, go_sem, z0, z1, z2, z3, z4, z5]) rfl ?_
  exact ⟨rfl, HS _ bx _ _ _ _ _ _⟩
end Go.Proofs.Ytiniobcknmaigaa
