/-
  The contract of the code's copied.
-/
import Derived.Test.YtiniobcknmaigaaKRCp
import Derived.Test.YtiniobcknmaigaaKInn2
namespace Go.Proofs.Ytiniobcknmaigaa
open Go.RowKit Go.Sort Qm

set_option maxRecDepth 20000 in
set_option maxHeartbeats 800000 in
theorem copied_any (n1 c1 n2 c2 : Int) (va vb : Value) (xs ps : List Int) (hx : xs.length ≤ 100) (hp : ps.length ≤ 100) (px : 0 < xs.length) (pp : 0 < ps.length) (w : World) (sa : Sees w va xs) (sb : Sees w vb ps) :
    Calls Try.prog 46 #[.agg #[.int .i64 n1, .int .i64 c1, va, .int .i64 n2, .int .i64 c2, vb]] w fun e b => ∃ va vb, e = .returned (.agg #[.int .i64 n1, .int .i64 c1, va, .int .i64 n2, .int .i64 c2, vb]) ∧ Sees b va xs ∧ Sees b vb ps ∧ New w.heap.size va ∧ New w.heap.size vb ∧ Below w.heap.size w b := by
  obtain ⟨ao, ac, rfl⟩ := sa.slice
  obtain ⟨bo, bc, rfl⟩ := sb.slice
  obtain ⟨W, hW⟩ : ∃ W, (w.alloc (.cells #[.int .i64 n1, .int .i64 c1, .slice ao xs.length ac, .int .i64 n2, .int .i64 c2, .slice bo ps.length bc] 26)).alloc (.cells #[.int .i64 0, .int .i64 0, .slice none 0 0, .int .i64 0, .int .i64 0, .slice none 0 0] 26) = W := ⟨_, rfl⟩
  obtain ⟨x1, x2⟩ := allocs2 w (.cells #[.int .i64 n1, .int .i64 c1, .slice ao xs.length ac, .int .i64 n2, .int .i64 c2, .slice bo ps.length bc] 26) (.cells #[.int .i64 0, .int .i64 0, .slice none 0 0, .int .i64 0, .int .i64 0, .slice none 0 0] 26)
  have bW := ball2 w (.cells #[.int .i64 n1, .int .i64 c1, .slice ao xs.length ac, .int .i64 n2, .int .i64 c2, .slice bo ps.length bc] 26) (.cells #[.int .i64 0, .int .i64 0, .slice none 0 0, .int .i64 0, .int .i64 0, .slice none 0 0] 26)
  rw [hW] at x1 x2 bW
  have hW2 : w.heap.size + 2 = W.heap.size := by rw [← hW]; simp
  have oa : Old W.heap.size w.heap.size (.slice ao xs.length ac) := old_of sa px (by omega) (by omega)
  have ob' : Old W.heap.size w.heap.size (.slice bo ps.length bc) := old_of sb pp (by omega) (by omega)
  have k1 := fun v (hv : Mod (fun b => b = w.heap.size) W v) => clone_any _ xs px hx v ((sa.below bW).mod oa hv)
  have k2 := fun v (hv : Mod (fun b => b = w.heap.size) W v) => clone_any _ ps pp hp v ((sb.below bW).mod ob' hv)
  go_enter Try.func46, Try.ntmps46
  go_wp2
  refine kcp_region (D := w.heap.size) (n1 := n1) (c1 := c1) (n2 := n2) (c2 := c2) (xs := xs) (ps := ps) (ao := ao) (bo := bo) (ac := ac) (bc := bc) x1 k1 px k2 pp ?_
  intro vs ao' ac' bo' bc' wa ma hb1 s1 s2 m1 m2
  unfold kcpFr
  have hd := ma.old x2 (by omega)
  obtain ⟨c0, c1', c2', c3, c4, c5⟩ := six_cells hb1
  obtain ⟨d0, d1, d2, d3, d4, d5⟩ := six_cells hd
  obtain ⟨f0, f1, f2, f3, f4, f5⟩ := six_free hd
  have bE : Below w.heap.size w wa := bW.trans (ma.below (by omega) (fun k hk => by omega))
  have hl1 := s1.lt px
  have hl2 := s2.lt pp
  have HE := fun y0 y1 y2 y3 y4 y5 => below_six (D := w.heap.size + 1) bE (by omega) y0 y1 y2 y3 y4 y5
  have HS1 := fun y0 y1 y2 y3 y4 y5 => s1.six (D := w.heap.size + 1) (fun k hk => by have := m1 k hk; omega) y0 y1 y2 y3 y4 y5
  have HS2 := fun y0 y1 y2 y3 y4 y5 => s2.six (D := w.heap.size + 1) (fun k hk => by have := m2 k hk; omega) y0 y1 y2 y3 y4 y5
  clear hW s1 s2 ma hb1 hd k1 k2 x1 x2 bE
  go_wp2
  refine bodyPost_ret (v := .agg #[.int .i64 n1, .int .i64 c1, .slice ao' xs.length ac', .int .i64 n2, .int .i64 c2, .slice bo' ps.length bc']) (by simp [results, Try.results46, go_sem, d0, d1, d2, d3, d4, d5]) rfl ?_
  exact ⟨_, _, rfl, HS1 _ _ _ _ _ _, HS2 _ _ _ _ _ _, m1.mono (by omega), m2.mono (by omega), HE _ _ _ _ _ _⟩
end Go.Proofs.Ytiniobcknmaigaa
