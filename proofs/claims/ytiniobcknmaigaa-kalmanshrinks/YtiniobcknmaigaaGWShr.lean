/-
  The walk of KalmanShrinks.
-/
import Derived.Test.YtiniobcknmaigaaGKShrM
import Derived.Test.YtiniobcknmaigaaGWSure
namespace Go.Proofs.Ytiniobcknmaigaa
open Go.RowKit Go.Sort Qm

set_option maxRecDepth 20000 in
set_option maxHeartbeats 1600000 in
theorem kalmanShrinks_walk (x z y r : Int) (w : World) (hx : 0 ≤ x ∧ x ≤ 65535) (hz : 0 ≤ z ∧ z ≤ 65535) (hy : 0 ≤ y ∧ y ≤ 255) (hr : 0 ≤ r ∧ r ≤ 255) :
    Calls Try.prog 8 #[.agg #[.int .u16 x, .int .u16 z, .int .u8 y, .int .u8 r]] w fun e w' => e = .returned (.bool true) ∧ Below w.heap.size w w' := by
  obtain ⟨X, hX⟩ : ∃ X, x.tmod 1000 = X := ⟨_, rfl⟩
  obtain ⟨Z, hZ⟩ : ∃ Z, z.tmod 1000 = Z := ⟨_, rfl⟩
  obtain ⟨V, hV⟩ : ∃ V, y.tmod 100 = V := ⟨_, rfl⟩
  obtain ⟨R, hR⟩ : ∃ R, r.tmod 100 = R := ⟨_, rfl⟩
  have X1 : 0 ≤ X ∧ X ≤ 999 := by have h1 := Int.tmod_lt_of_pos x (show (0 : Int) < 1000 by omega); have h2 := Int.tmod_nonneg 1000 hx.1; omega
  have Z1 : 0 ≤ Z ∧ Z ≤ 999 := by have h1 := Int.tmod_lt_of_pos z (show (0 : Int) < 1000 by omega); have h2 := Int.tmod_nonneg 1000 hz.1; omega
  have V1 : 0 ≤ V ∧ V ≤ 99 := by have h1 := Int.tmod_lt_of_pos y (show (0 : Int) < 100 by omega); have h2 := Int.tmod_nonneg 100 hy.1; omega
  have R1 : 0 ≤ R ∧ R ≤ 99 := by have h1 := Int.tmod_lt_of_pos r (show (0 : Int) < 100 by omega); have h2 := Int.tmod_nonneg 100 hr.1; omega
  have kN := fun vx vv v sx sv => shr_new vx vv (X * 16777216) (V * 16777216) (by omega) (by omega) (by omega) (by omega) v sx sv
  have kU := fun vx vp vh v sx sp sh => shr_up vx vp vh (X * 16777216) (Z * 16777216) (V * 16777216) ((R + 1) * 16777216) (by omega) (by omega) (by omega) (by omega) (by omega) (by omega) (by omega) (by omega) (by omega) v sx sp sh
  have bW := box_below w (.cells #[.int .u16 x, .int .u16 z, .int .u8 y, .int .u8 r] 61)
  go_enter Try.func8, Try.ntmps8
  go_wp2_with (first
    | (have _ := b1; go_at_call 22; go_must (refine kU2.mono ?_); rintro e wc ⟨vc, vd, tk, od, n', p', rfl, sc, sd, hp', hn1, hn2, hn3, hn4, b2⟩; obtain ⟨ca, cp, rfl, lc, fc⟩ := sc.cellsAt (Nat.succ_pos _); obtain ⟨da, dp, rfl, ld, fd⟩ := sd.cellsAt (Nat.succ_pos _); have g0 : wc.cell? ca = some (.int .i64 n') := (congrArg wc.cell? (add_zero' ca)).symm.trans (fc 0 (by simp)); have g2 : wc.cell? da = some (.int .i64 p') := (congrArg wc.cell? (add_zero' da)).symm.trans (fd 0 (by simp)); clear fc fd sc sd)
    | (have _ := b0; go_at_call 11; go_must (refine (kN _ _ _ (sees_one (allocs2 wa (.cells #[.int .i64 (X * 16777216)] 41) (.cells #[.int .i64 (V * 16777216)] 41)).1) (sees_one (allocs2 wa (.cells #[.int .i64 (X * 16777216)] 41) (.cells #[.int .i64 (V * 16777216)] 41)).2)).mono ?_); rintro e wb ⟨va, vb, rfl, sa, sb, b1⟩; obtain ⟨oa, pa, rfl, _, _⟩ := sa.cellsAt (Nat.succ_pos _); obtain ⟨ob', pb, rfl, _, _⟩ := sb.cellsAt (Nat.succ_pos _); have y2 := sees_one (allocs3 wb (.cells #[.int .i64 1, .int .i64 1, .slice (some oa) 1 pa, .int .i64 1, .int .i64 1, .slice (some ob') 1 pb] 26) (.cells #[.int .i64 16777216] 41) (.cells #[.int .i64 1, .int .i64 1, .slice (some ⟨wb.heap.size + 1, 0, none⟩) 1 1] 24)).2.1; have y3 := ball3 wb (.cells #[.int .i64 1, .int .i64 1, .slice (some oa) 1 pa, .int .i64 1, .int .i64 1, .slice (some ob') 1 pb] 26) (.cells #[.int .i64 16777216] 41) (.cells #[.int .i64 1, .int .i64 1, .slice (some ⟨wb.heap.size + 1, 0, none⟩) 1 1] 24); have kU2 := kU _ _ _ _ (sa.below y3) (sb.below y3) y2; clear sa sb y2)
    | (go_at_call 10; go_must (refine (kshown_any _).mono ?_); rintro e wa ⟨rfl, b0⟩))
  all_goals
    go_ret
    refine ⟨?_, bt bW (bt b0 (bt (ball2 wa (.cells #[.int .i64 (X * 16777216)] 41) (.cells #[.int .i64 (V * 16777216)] 41)) (bt b1 (bt y3 (bt b2 (box_below wc _))))))⟩
    first
      | rfl
      | (rw [decide_eq_true (by omega)]; first | done | rfl)
      | (exfalso; omega)
end Go.Proofs.Ytiniobcknmaigaa
