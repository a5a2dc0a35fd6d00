/-
  The walk of KalmanSure.
-/
import Derived.Test.YtiniobcknmaigaaGKSureM
namespace Go.Proofs.Ytiniobcknmaigaa
open Go.RowKit Go.Sort Qm

theorem Sees.cellsAt {w : World} {v : Value} {xs : List Int} (h : Sees w v xs) (h0 : 0 < xs.length) : ∃ a cap, v = .slice (some a) xs.length cap ∧ a.block < w.heap.size ∧ ∀ k, k < xs.length → w.cell? (a.add k) = some (.int .i64 (ge xs k)) := by
  obtain ⟨ao, cap, rfl, hc⟩ := h
  obtain ⟨ad, rfl, h1, _⟩ := hc 0 h0
  refine ⟨ad, cap, rfl, h1, fun k hk => ?_⟩
  obtain ⟨ad', e, _, h3⟩ := hc k hk
  injection e with e
  rw [e]; exact h3
theorem old_cellA {w : World} {a : Addr} {k : Nat} {v : Value} (h : w.cell? (a.add k) = some v) (hb : a.block < w.heap.size) (x : Obj) : (w.alloc x).cell? (a.add k) = some v := old_cell' h (by rw [add_block]; exact hb) x
theorem add_zero' (a : Addr) : a.add 0 = a := by
  obtain ⟨b, o, m⟩ := a
  cases m <;> simp [Addr.add]
set_option maxRecDepth 20000 in
set_option maxHeartbeats 800000 in
theorem kalmanSure_walk (x z r : Int) (w : World) : Calls Try.prog 7 #[.int .i64 x, .int .i64 z, .int .i64 r] w fun e w' => e = .returned (.bool true) ∧ Below w.heap.size w w' := by
  by_cases hc : 1099511627776 < x ∨ x < -1099511627776 ∨ 1099511627776 < z ∨ z < -1099511627776 ∨ r < 16777216 ∨ 1099511627776 < r
  · have hsel : (1099511627776 < x) ∨ (¬ 1099511627776 < x ∧ x < -1099511627776) ∨ (¬ 1099511627776 < x ∧ ¬ x < -1099511627776 ∧ 1099511627776 < z) ∨ (¬ 1099511627776 < x ∧ ¬ x < -1099511627776 ∧ ¬ 1099511627776 < z ∧ z < -1099511627776) ∨ (¬ 1099511627776 < x ∧ ¬ x < -1099511627776 ∧ ¬ 1099511627776 < z ∧ ¬ z < -1099511627776 ∧ r < 16777216) ∨ (¬ 1099511627776 < x ∧ ¬ x < -1099511627776 ∧ ¬ 1099511627776 < z ∧ ¬ z < -1099511627776 ∧ ¬ r < 16777216 ∧ 1099511627776 < r) := by omega
    clear hc
    rcases hsel with h1 | ⟨h1, h2⟩ | ⟨h1, h2, h3⟩ | ⟨h1, h2, h3, h4⟩ | ⟨h1, h2, h3, h4, h5⟩ | ⟨h1, h2, h3, h4, h5, h6⟩
    all_goals
      go_enter Try.func7, Try.ntmps7
      go_wp2_with (go_at_call 10; refine (kshown_any _).mono ?_; rintro e wa ⟨rfl, b0⟩)
      go_ret
      exact ⟨rfl, b0⟩
  · have h1 : ¬ 1099511627776 < x := fun h => hc (.inl h)
    have h2 : ¬ x < -1099511627776 := fun h => hc (.inr (.inl h))
    have h3 : ¬ 1099511627776 < z := fun h => hc (.inr (.inr (.inl h)))
    have h4 : ¬ z < -1099511627776 := fun h => hc (.inr (.inr (.inr (.inl h))))
    have h5 : ¬ r < 16777216 := fun h => hc (.inr (.inr (.inr (.inr (.inl h)))))
    have h6 : ¬ 1099511627776 < r := fun h => hc (.inr (.inr (.inr (.inr (.inr h)))))
    clear hc
    have kN := fun vx vv v sx sv => sure_new vx vv x (by omega) (by omega) v sx sv
    have kU := fun vx vp vh v sx sp sh => sure_up vx vp vh x z r (by omega) (by omega) (by omega) (by omega) v sx sp sh
    go_enter Try.func7, Try.ntmps7
    go_wp2_with (first
      | (have _ := b1; go_at_call 22; go_must (refine kU2.mono ?_); rintro e wc ⟨vc, vd, tk, od, rfl, sc, sd, b2⟩; obtain ⟨ca, cp, rfl, lc, fc⟩ := sc.cellsAt (Nat.succ_pos _); obtain ⟨da, dp, rfl, ld, fd⟩ := sd.cellsAt (Nat.succ_pos _); have g0 : wc.cell? ca = some (.int .i64 x) := (congrArg wc.cell? (add_zero' ca)).symm.trans (fc 0 (by simp)); have g1 : wc.cell? ⟨ca.block, ca.off + 1, none⟩ = some (.int .i64 5) := fc 1 (by simp); have g2 : wc.cell? da = some (.int .i64 0) := (congrArg wc.cell? (add_zero' da)).symm.trans (fd 0 (by simp)); have g3 : wc.cell? ⟨da.block, da.off + 3, none⟩ = some (.int .i64 16777216) := fd 3 (by simp); clear fc fd sc sd)
      | (have _ := b0; go_at_call 11; go_must (refine (kN _ _ _ (sees_two (allocs2 wa (.cells #[.int .i64 x, .int .i64 5] 41) (.cells #[.int .i64 0, .int .i64 16777216] 41)).1) (sees_two (allocs2 wa (.cells #[.int .i64 x, .int .i64 5] 41) (.cells #[.int .i64 0, .int .i64 16777216] 41)).2)).mono ?_); rintro e wb ⟨va, vb, rfl, sa, sb, b1⟩; obtain ⟨oa, pa, rfl, _, _⟩ := sa.cellsAt (Nat.succ_pos _); obtain ⟨ob', pb, rfl, _, _⟩ := sb.cellsAt (Nat.succ_pos _); have y2 := sees_two (allocs3 wb (.cells #[.int .i64 2, .int .i64 1, .slice (some oa) 2 pa, .int .i64 2, .int .i64 2, .slice (some ob') 4 pb] 26) (.cells #[.int .i64 16777216, .int .i64 0] 41) (.cells #[.int .i64 1, .int .i64 2, .slice (some ⟨wb.heap.size + 1, 0, none⟩) 2 2] 24)).2.1; have y3 := ball3 wb (.cells #[.int .i64 2, .int .i64 1, .slice (some oa) 2 pa, .int .i64 2, .int .i64 2, .slice (some ob') 4 pb] 26) (.cells #[.int .i64 16777216, .int .i64 0] 41) (.cells #[.int .i64 1, .int .i64 2, .slice (some ⟨wb.heap.size + 1, 0, none⟩) 2 2] 24); have kU2 := kU _ _ _ _ (sa.below y3) (sb.below y3) y2; clear sa sb y2)
      | (go_at_call 10; go_must (refine (kshown_any _).mono ?_); rintro e wa ⟨rfl, b0⟩))
    go_ret
    exact ⟨rfl, bt b0 (bt (ball2 wa (.cells #[.int .i64 x, .int .i64 5] 41) (.cells #[.int .i64 0, .int .i64 16777216] 41)) (bt b1 (bt y3 (bt b2 (box_below wc _)))))⟩
end Go.Proofs.Ytiniobcknmaigaa
