/-
  The contract of the code's Right, of lists of whatever length.
-/
import Derived.Test.YtiniobcknmaigaaG30
namespace Go.Proofs.Ytiniobcknmaigaa
open Go.RowKit Go.Sort Qm

theorem Qm.laid_len {r c : Int} {n : Nat} (h : laidB r c n = true) : n ≤ 64 := by
  obtain ⟨R, C, _, _, _, h4, _, h6, h7⟩ := laidB_in h
  have := mul_le_64 h4 h6
  omega
theorem Qm.right_len {r c : Int} {xs : List Int} (h : rightB r c xs = true) : xs.length ≤ 64 := by
  unfold rightB at h
  simp only [Bool.and_eq_true] at h
  exact laid_len h.1
theorem right_all (r c : Int) (v : Value) (xs : List Int) (w : World) (hs : Sees w v xs) :
    Calls Try.prog 30 #[.agg #[.int .i64 r, .int .i64 c, v]] w fun e w' => e = .returned (.bool (rightB r c xs)) ∧ Below w.heap.size w w' := by
  cases hl : laidB r c xs.length with
  | true => exact right_any r c v xs w (by have := laid_len hl; omega) hs
  | false =>
    obtain ⟨ao, cap, rfl⟩ := hs.slice
    have hR : rightB r c xs = (laidB r c xs.length && !outB xs xs.length) := rfl
    rw [hR, hl]
    go_enter Try.func30, Try.ntmps30
    go_wp2_with (go_at_call 57; refine (laid_any _ _ _ _ _ _).mono ?_; rintro e w' ⟨rfl, bx⟩)
    go_ret
    exact ⟨rfl, bt (box_below _ _) bx⟩
set_option maxRecDepth 20000 in
set_option maxHeartbeats 1600000 in
theorem kright_all (r1 c1 r2 c2 : Int) (va vb : Value) (xs ps : List Int) (w : World) (sa : Sees w va xs) (sb : Sees w vb ps) :
    Calls Try.prog 15 #[.agg #[.int .i64 r1, .int .i64 c1, va, .int .i64 r2, .int .i64 c2, vb]] w fun e b => e = .returned (.bool (trkB r1 c1 xs r2 c2 ps)) ∧ Below w.heap.size w b := by
  cases hA : rightB r1 c1 xs with
  | true =>
    cases hB : rightB r2 c2 ps with
    | true => exact kright_any r1 c1 r2 c2 va vb xs ps (by have := right_len hA; omega) (by have := right_len hB; omega) w sa sb
    | false =>
      obtain ⟨ao, ac, rfl⟩ := sa.slice
      obtain ⟨bo, bc, rfl⟩ := sb.slice
      obtain ⟨W, hW⟩ : ∃ W, w.alloc (.cells #[.int .i64 r1, .int .i64 c1, .slice ao xs.length ac, .int .i64 r2, .int .i64 c2, .slice bo ps.length bc] 26) = W := ⟨_, rfl⟩
      have x1 := heap_new w (.cells #[.int .i64 r1, .int .i64 c1, .slice ao xs.length ac, .int .i64 r2, .int .i64 c2, .slice bo ps.length bc] 26)
      have bW := box_below w (.cells #[.int .i64 r1, .int .i64 c1, .slice ao xs.length ac, .int .i64 r2, .int .i64 c2, .slice bo ps.length bc] 26)
      rw [hW] at x1 bW
      have k1 := right_all r1 c1 _ xs W (sa.below bW)
      have k2 := fun v hv => right_all r2 c2 _ ps v ((sb.below bW).below hv)
      obtain ⟨c0, c1', c2', c3, c4, c5⟩ := six_cells x1
      unfold trkB
      rw [hA, hB]
      rw [hA] at k1
      rw [hB] at k2
      clear hA hB
      go_enter Try.func15, Try.ntmps15
      go_wp2_with (first
        | (have _ := b1; go_at_call 30; go_must (refine (k2 _ b1).mono ?_); rintro e wb ⟨rfl, b2⟩; obtain ⟨e0, e1, e2, e3, e4, e5⟩ := six_cells (keep (bt b1 b2) x1))
        | (go_at_call 30; go_must (refine k1.mono ?_); rintro e wa ⟨rfl, b1⟩; obtain ⟨d0, d1, d2, d3, d4, d5⟩ := six_cells (keep b1 x1)))
      go_ret
      exact ⟨rfl, bt bW (bt b1 b2)⟩
  | false =>
    obtain ⟨ao, ac, rfl⟩ := sa.slice
    obtain ⟨bo, bc, rfl⟩ := sb.slice
    obtain ⟨W, hW⟩ : ∃ W, w.alloc (.cells #[.int .i64 r1, .int .i64 c1, .slice ao xs.length ac, .int .i64 r2, .int .i64 c2, .slice bo ps.length bc] 26) = W := ⟨_, rfl⟩
    have x1 := heap_new w (.cells #[.int .i64 r1, .int .i64 c1, .slice ao xs.length ac, .int .i64 r2, .int .i64 c2, .slice bo ps.length bc] 26)
    have bW := box_below w (.cells #[.int .i64 r1, .int .i64 c1, .slice ao xs.length ac, .int .i64 r2, .int .i64 c2, .slice bo ps.length bc] 26)
    rw [hW] at x1 bW
    have k1 := right_all r1 c1 _ xs W (sa.below bW)
    obtain ⟨c0, c1', c2', c3, c4, c5⟩ := six_cells x1
    unfold trkB
    rw [hA]
    rw [hA] at k1
    clear hA
    go_enter Try.func15, Try.ntmps15
    go_wp2_with (first
      | (go_at_call 30; go_must (refine k1.mono ?_); rintro e wa ⟨rfl, b1⟩; obtain ⟨d0, d1, d2, d3, d4, d5⟩ := six_cells (keep b1 x1)))
    go_ret
    exact ⟨rfl, bt bW b1⟩
end Go.Proofs.Ytiniobcknmaigaa
