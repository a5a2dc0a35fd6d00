/-
  The contracts of mat.Add and of mat.Sub.
-/
import Derived.Test.YtiniobcknmaigaaPaired
namespace Go.Proofs.Ytiniobcknmaigaa
open Go.RowKit Go.Sort Qm

set_option maxHeartbeats 800000 in
theorem paired_not (G : Nat) (R C R' C' : Int) (h : ¬ (R = R' ∧ C = C')) (va vb : Value) (xs ys : List Int) (w : World) (sa : Sees w va xs) (sb : Sees w vb ys) :
    Calls Try.prog 90 #[.agg #[.int .i64 R, .int .i64 C, va], .agg #[.int .i64 R', .int .i64 C', vb], .func (.func G) #[] #[]] w fun e b =>
      e = .returned (.tuple #[.agg #[.int .i64 0, .int .i64 0, .slice none 0 0], .bool false, .int .i64 9]) ∧ Below w.heap.size w b := by
  obtain ⟨ao, cap, rfl⟩ := sa.slice
  obtain ⟨bo, bcap, rfl⟩ := sb.slice
  clear sa sb
  obtain ⟨W, hW⟩ : ∃ W, (((w.alloc (.cells #[.int .i64 R, .int .i64 C, .slice ao xs.length cap] 24)).alloc (.cells #[.int .i64 R', .int .i64 C', .slice bo ys.length bcap] 24)).alloc (.cells #[.func (.func G) #[] #[]] 87)).alloc (.cells #[.int .i64 0, .int .i64 0, .slice none 0 0] 24) = W := ⟨_, rfl⟩
  obtain ⟨x1, x2, x3, x4⟩ := allocs4 w (.cells #[.int .i64 R, .int .i64 C, .slice ao xs.length cap] 24) (.cells #[.int .i64 R', .int .i64 C', .slice bo ys.length bcap] 24) (.cells #[.func (.func G) #[] #[]] 87) (.cells #[.int .i64 0, .int .i64 0, .slice none 0 0] 24)
  have bq := ball4 w (.cells #[.int .i64 R, .int .i64 C, .slice ao xs.length cap] 24) (.cells #[.int .i64 R', .int .i64 C', .slice bo ys.length bcap] 24) (.cells #[.func (.func G) #[] #[]] 87) (.cells #[.int .i64 0, .int .i64 0, .slice none 0 0] 24)
  rw [hW] at x1 x2 x3 x4 bq
  obtain ⟨u0, u1, u2, _⟩ := mat_cells x1
  obtain ⟨v0, v1, v2, _⟩ := mat_cells x2
  have m0 := cell_regrown u0
  have m1 := cell_regrown u1
  have m2 := cell_regrown u2
  have m3 := cell_regrown v0
  have m4 := cell_regrown v1
  have m5 := cell_regrown v2
  by_cases hr : R = R'
  · subst hr
    have hc : ¬ (C = C') := fun e => h ⟨rfl, e⟩
    have hc' : (C == C') = false := by simpa using hc
    clear h
    go_enter Try.func90, Try.ntmps90
    go_upto_region 1 with fail
    refine wp_region_quiet_below (by kernel_rfl) (by kernel_rfl) ?_
    clear hW
    repeat (quiet_step ((go_at_call 58; exact sizeOf_calm _ _ _ _ _ _ _ _)))
    refine wpQuiet_nil ?_
    intro _ hw'
    obtain ⟨⟨dq, osq⟩, hw''⟩ := hw'
    have bz : Below _ _ _ := below_regrown W dq osq
    rw [← hw''] at bz
    clear hw'' m0 m1 m2 m3 m4 m5 u0 u1 u2 v0 v1 v2
    have y4 := keep bz x4
    have b0 := bt bq bz
    obtain ⟨f0, f1, f2, g0, g1, g2⟩ := mat_cells y4
    clear bz bq x1 x2 x3 x4
    go_wp2
    refine bodyPost_ret (v := .tuple #[.agg #[.int .i64 0, .int .i64 0, .slice none 0 0], .bool false, .int .i64 9]) (by simp [results, Try.results90, go_sem, f0, f1, f2]) rfl ?_
    exact ⟨rfl, below_put b0 (by omega) _ _ _⟩
  · have hc' : (R == R') = false := by simpa using hr
    clear h
    go_enter Try.func90, Try.ntmps90
    go_upto_region 1 with fail
    refine wp_region_quiet_below (by kernel_rfl) (by kernel_rfl) ?_
    clear hW
    repeat (quiet_step ((go_at_call 58; exact sizeOf_calm _ _ _ _ _ _ _ _)))
    refine wpQuiet_nil ?_
    intro _ hw'
    obtain ⟨⟨dq, osq⟩, hw''⟩ := hw'
    have bz : Below _ _ _ := below_regrown W dq osq
    rw [← hw''] at bz
    clear hw'' m0 m1 m2 m3 m4 m5 u0 u1 u2 v0 v1 v2
    have y4 := keep bz x4
    have b0 := bt bq bz
    obtain ⟨f0, f1, f2, g0, g1, g2⟩ := mat_cells y4
    clear bz bq x1 x2 x3 x4
    go_wp2
    refine bodyPost_ret (v := .tuple #[.agg #[.int .i64 0, .int .i64 0, .slice none 0 0], .bool false, .int .i64 9]) (by simp [results, Try.results90, go_sem, f0, f1, f2]) rfl ?_
    exact ⟨rfl, below_put b0 (by omega) _ _ _⟩

set_option maxHeartbeats 400000 in
theorem add_mat (R C : Nat) (r1 : 1 ≤ R) (hR : R ≤ 8) (c1 : 1 ≤ C) (hC8 : C ≤ 8) (va vb : Value) (xs ys : List Int) (hx : xs.length = R * C) (hy : ys.length = R * C) (w : World) (sa : Sees w va xs) (sb : Sees w vb ys) :
    Calls Try.prog 72 #[.agg #[.int .i64 R, .int .i64 C, va], .agg #[.int .i64 R, .int .i64 C, vb]] w fun e b =>
      ∃ v, e = .returned (.tuple #[.agg #[.int .i64 R, .int .i64 C, v], .bool (paiB addB xs ys), .int .i64 0]) ∧ Sees b v (pai add xs ys) ∧ New w.heap.size v ∧ Below w.heap.size w b := by
  obtain ⟨ao, cap, rfl⟩ := sa.slice
  obtain ⟨bo, bcap, rfl⟩ := sb.slice
  have bW := ball3 w (.cells #[.int .i64 R, .int .i64 C, .slice ao xs.length cap] 24) (.cells #[.int .i64 R, .int .i64 C, .slice bo ys.length bcap] 24) (.cells #[.int .i64 0, .int .i64 0, .slice none 0 0] 24)
  obtain ⟨_, _, x3⟩ := allocs3 w (.cells #[.int .i64 R, .int .i64 C, .slice ao xs.length cap] 24) (.cells #[.int .i64 R, .int .i64 C, .slice bo ys.length bcap] 24) (.cells #[.int .i64 0, .int .i64 0, .slice none 0 0] 24)
  have hp := paired_any 52 enters34 add addB add_any R C r1 hR c1 hC8 _ _ xs ys hx hy _ (sa.below bW) (sb.below bW)
  obtain ⟨S, hS⟩ : ∃ S, paiB addB xs ys = S := ⟨_, rfl⟩
  rw [hS] at hp ⊢
  clear hx hy hS
  go_enter Try.func72, Try.ntmps72
  go_wp2_with (go_at_call 90; refine hp.mono ?_; rintro e w4 ⟨v4, rfl, s4, n4, b4⟩; obtain ⟨ao4, cap4, rfl⟩ := s4.slice; obtain ⟨f0, f1, f2, k0, k1, k2⟩ := mat_cells (keep b4 x3))
  refine bodyPost_ret (v := .tuple #[.agg #[.int .i64 R, .int .i64 C, .slice ao4 (pai add xs ys).length cap4], .bool S, .int .i64 0]) (by simp [results, Try.results72, go_sem, f0, f1, f2]) rfl ?_
  exact ⟨_, rfl, s4.put n4 (lt_of_block x3) _ _ _, n4.mono bW.size, below_put (bt bW b4) (by omega) _ _ _⟩

set_option maxHeartbeats 400000 in
theorem add_not (R C R' C' : Int) (h : ¬ (R = R' ∧ C = C')) (va vb : Value) (xs ys : List Int) (w : World) (sa : Sees w va xs) (sb : Sees w vb ys) :
    Calls Try.prog 72 #[.agg #[.int .i64 R, .int .i64 C, va], .agg #[.int .i64 R', .int .i64 C', vb]] w fun e b =>
      e = .returned (.tuple #[.agg #[.int .i64 0, .int .i64 0, .slice none 0 0], .bool false, .int .i64 9]) ∧ Below w.heap.size w b := by
  obtain ⟨ao, cap, rfl⟩ := sa.slice
  obtain ⟨bo, bcap, rfl⟩ := sb.slice
  have bW := ball3 w (.cells #[.int .i64 R, .int .i64 C, .slice ao xs.length cap] 24) (.cells #[.int .i64 R', .int .i64 C', .slice bo ys.length bcap] 24) (.cells #[.int .i64 0, .int .i64 0, .slice none 0 0] 24)
  obtain ⟨_, _, x3⟩ := allocs3 w (.cells #[.int .i64 R, .int .i64 C, .slice ao xs.length cap] 24) (.cells #[.int .i64 R', .int .i64 C', .slice bo ys.length bcap] 24) (.cells #[.int .i64 0, .int .i64 0, .slice none 0 0] 24)
  have hp := paired_not 52 R C R' C' h _ _ xs ys _ (sa.below bW) (sb.below bW)
  go_enter Try.func72, Try.ntmps72
  go_wp2_with (go_at_call 90; refine hp.mono ?_; rintro e w4 ⟨rfl, b4⟩; obtain ⟨f0, f1, f2, k0, k1, k2⟩ := mat_cells (keep b4 x3))
  refine bodyPost_ret (v := .tuple #[.agg #[.int .i64 0, .int .i64 0, .slice none 0 0], .bool false, .int .i64 9]) (by simp [results, Try.results72, go_sem, f0, f1, f2]) rfl ?_
  exact ⟨rfl, below_put (bt bW b4) (by omega) _ _ _⟩

set_option maxHeartbeats 400000 in
theorem sub_mat (R C : Nat) (r1 : 1 ≤ R) (hR : R ≤ 8) (c1 : 1 ≤ C) (hC8 : C ≤ 8) (va vb : Value) (xs ys : List Int) (hx : xs.length = R * C) (hy : ys.length = R * C) (w : World) (sa : Sees w va xs) (sb : Sees w vb ys) :
    Calls Try.prog 99 #[.agg #[.int .i64 R, .int .i64 C, va], .agg #[.int .i64 R, .int .i64 C, vb]] w fun e b =>
      ∃ v, e = .returned (.tuple #[.agg #[.int .i64 R, .int .i64 C, v], .bool (paiB subB xs ys), .int .i64 0]) ∧ Sees b v (pai sub xs ys) ∧ New w.heap.size v ∧ Below w.heap.size w b := by
  obtain ⟨ao, cap, rfl⟩ := sa.slice
  obtain ⟨bo, bcap, rfl⟩ := sb.slice
  have bW := ball3 w (.cells #[.int .i64 R, .int .i64 C, .slice ao xs.length cap] 24) (.cells #[.int .i64 R, .int .i64 C, .slice bo ys.length bcap] 24) (.cells #[.int .i64 0, .int .i64 0, .slice none 0 0] 24)
  obtain ⟨_, _, x3⟩ := allocs3 w (.cells #[.int .i64 R, .int .i64 C, .slice ao xs.length cap] 24) (.cells #[.int .i64 R, .int .i64 C, .slice bo ys.length bcap] 24) (.cells #[.int .i64 0, .int .i64 0, .slice none 0 0] 24)
  have hp := paired_any 50 enters37 sub subB sub_any R C r1 hR c1 hC8 _ _ xs ys hx hy _ (sa.below bW) (sb.below bW)
  obtain ⟨S, hS⟩ : ∃ S, paiB subB xs ys = S := ⟨_, rfl⟩
  rw [hS] at hp ⊢
  clear hx hy hS
  go_enter Try.func99, Try.ntmps99
  go_wp2_with (go_at_call 90; refine hp.mono ?_; rintro e w4 ⟨v4, rfl, s4, n4, b4⟩; obtain ⟨ao4, cap4, rfl⟩ := s4.slice; obtain ⟨f0, f1, f2, k0, k1, k2⟩ := mat_cells (keep b4 x3))
  refine bodyPost_ret (v := .tuple #[.agg #[.int .i64 R, .int .i64 C, .slice ao4 (pai sub xs ys).length cap4], .bool S, .int .i64 0]) (by simp [results, Try.results99, go_sem, f0, f1, f2]) rfl ?_
  exact ⟨_, rfl, s4.put n4 (lt_of_block x3) _ _ _, n4.mono bW.size, below_put (bt bW b4) (by omega) _ _ _⟩

set_option maxHeartbeats 400000 in
theorem sub_not (R C R' C' : Int) (h : ¬ (R = R' ∧ C = C')) (va vb : Value) (xs ys : List Int) (w : World) (sa : Sees w va xs) (sb : Sees w vb ys) :
    Calls Try.prog 99 #[.agg #[.int .i64 R, .int .i64 C, va], .agg #[.int .i64 R', .int .i64 C', vb]] w fun e b =>
      e = .returned (.tuple #[.agg #[.int .i64 0, .int .i64 0, .slice none 0 0], .bool false, .int .i64 9]) ∧ Below w.heap.size w b := by
  obtain ⟨ao, cap, rfl⟩ := sa.slice
  obtain ⟨bo, bcap, rfl⟩ := sb.slice
  have bW := ball3 w (.cells #[.int .i64 R, .int .i64 C, .slice ao xs.length cap] 24) (.cells #[.int .i64 R', .int .i64 C', .slice bo ys.length bcap] 24) (.cells #[.int .i64 0, .int .i64 0, .slice none 0 0] 24)
  obtain ⟨_, _, x3⟩ := allocs3 w (.cells #[.int .i64 R, .int .i64 C, .slice ao xs.length cap] 24) (.cells #[.int .i64 R', .int .i64 C', .slice bo ys.length bcap] 24) (.cells #[.int .i64 0, .int .i64 0, .slice none 0 0] 24)
  have hp := paired_not 50 R C R' C' h _ _ xs ys _ (sa.below bW) (sb.below bW)
  go_enter Try.func99, Try.ntmps99
  go_wp2_with (go_at_call 90; refine hp.mono ?_; rintro e w4 ⟨rfl, b4⟩; obtain ⟨f0, f1, f2, k0, k1, k2⟩ := mat_cells (keep b4 x3))
  refine bodyPost_ret (v := .tuple #[.agg #[.int .i64 0, .int .i64 0, .slice none 0 0], .bool false, .int .i64 9]) (by simp [results, Try.results99, go_sem, f0, f1, f2]) rfl ?_
  exact ⟨rfl, below_put (bt bW b4) (by omega) _ _ _⟩
end Go.Proofs.Ytiniobcknmaigaa
