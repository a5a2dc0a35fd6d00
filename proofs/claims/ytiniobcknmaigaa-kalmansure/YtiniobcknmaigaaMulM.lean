/-
  The contract of mat.Mul.
-/
import Derived.Test.YtiniobcknmaigaaMulA
import Derived.Test.YtiniobcknmaigaaRegion
import Derived.Deep.CutRange
namespace Go.Proofs.Ytiniobcknmaigaa
open Go.RowKit Go.Sort Qm

set_option maxHeartbeats 1600000 in
theorem mul_mat (R N C : Nat) (r1 : 1 ≤ R) (hR : R ≤ 8) (n1 : 1 ≤ N) (hN : N ≤ 8) (c1 : 1 ≤ C) (hC : C ≤ 8) (va vb : Value) (xs ys : List Int) (hx : xs.length = R * N) (hy : ys.length = N * C) (w : World) (sa : Sees w va xs) (sb : Sees w vb ys) :
    Calls Try.prog 69 #[.agg #[.int .i64 R, .int .i64 N, va], .agg #[.int .i64 N, .int .i64 C, vb]] w fun e b =>
      ∃ v, e = .returned (.tuple #[.agg #[.int .i64 R, .int .i64 C, v], .bool (prdB R N C xs ys), .int .i64 0]) ∧ Sees b v (prd R N C xs ys) ∧ New w.heap.size v ∧ Below w.heap.size w b := by
  obtain ⟨ao, cap, rfl⟩ := sa.slice
  obtain ⟨bo, bcap, rfl⟩ := sb.slice
  have hla : laidB R N xs.length = true := laidB_mk r1 hR n1 hN hx
  have hlb : laidB N C ys.length = true := laidB_mk n1 hN c1 hC hy
  have hrk := fun A P bA Q bB w hA hB h0 => mul_reck R N C hR hN hC xs ys hx hy A P bA Q bB w hA hB h0
  obtain ⟨S, hS⟩ : ∃ S, prdB R N C xs ys = S := ⟨_, rfl⟩
  rw [hS] at hrk ⊢
  clear hx hy hS
  go_enter Try.func69, Try.ntmps69
  go_upto_region 5 with (first
    | (go_at_call_of 57 (Value.slice ao xs.length cap); refine (laid_any _ _ _ _ _ _).mono ?_; rintro e w1 ⟨rfl, b1⟩; have a1 := keep b1 (allocs3 w _ _ _).1; have q1 := keep b1 (allocs3 w _ _ _).2.1; have r1 := keep b1 (allocs3 w _ _ _).2.2; obtain ⟨c0, c1, c2, _⟩ := mat_cells a1; obtain ⟨d0, d1, d2, _⟩ := mat_cells q1)
    | (go_at_call 57; refine (laid_any _ _ _ _ _ _).mono ?_; rintro e w2 ⟨rfl, b2⟩; have a2 := keep b2 a1; have q2 := keep b2 q1; have r2 := keep b2 r1; obtain ⟨e0, e1, e2, _⟩ := mat_cells a2; obtain ⟨f0, f1, f2, _⟩ := mat_cells q2))
  refine two_ats (pos := "mat.go:62") (sA := 2) (sB := 3) (dA := 26) (fA := 27) (dB := 28) (fB := 29) (qA := 7) (qB := 8) (fun v26 v27 v28 v29 v7 v8 => ⟨#[.agg #[.int .i64 R, .int .i64 N, .slice ao xs.length cap], .agg #[.int .i64 N, .int .i64 C, .slice bo ys.length bcap], .pointer (some ⟨w.heap.size, 0, none⟩), .pointer (some ⟨w.heap.size + 1, 0, none⟩), .pointer (some ⟨w.heap.size + 1 + 1, 0, none⟩), .bool false, .int .i64 0, v7, v8, undef, undef, .pointer (some ⟨w.heap.size, 1, none⟩), .int .i64 N, .pointer (some ⟨w.heap.size + 1, 0, none⟩), .int .i64 N, .bool false, undef, .agg #[.int .i64 R, .int .i64 N, .slice ao xs.length cap], .bool true, .bool false, .bool false, .agg #[.int .i64 N, .int .i64 C, .slice bo ys.length bcap], .bool true, .bool false, .bool false, undef, v26, v27, v28, v29, undef, undef, undef, undef, undef, undef, undef, undef, undef, undef, undef, undef], []⟩) a2 q2 (fun _ _ _ _ _ _ _ => rfl) (fun _ _ _ _ _ _ _ => rfl) (fun _ _ _ _ _ _ _ => rfl) (fun _ _ _ _ _ _ _ => rfl) (fun _ _ _ _ _ _ _ => rfl) (fun _ _ _ _ _ _ _ => rfl) (fun _ _ _ _ _ _ => rfl) (fun _ _ _ _ _ _ => rfl) (fun _ _ _ _ _ _ => rfl) (fun _ _ _ _ _ _ => rfl) (fun _ _ _ _ _ _ => rfl) (fun _ _ _ _ _ _ => rfl) (fun _ _ _ _ _ _ => rfl) (fun _ _ _ _ _ _ => rfl) undef undef undef undef undef undef rfl (by kernel_rfl) ?_
  intro kA kB nA nB w3 b3 z1 z2 z3 z4
  have bw := bt (bt (bt (ball3 w _ _ _) b1) b2) b3
  have A3 : AtBox w3 nA kA N xs := ⟨cell_of_one z3, lt_of_block z3, _, _, z1, sa.below bw⟩
  have B3 : AtBox w3 nB kB C ys := ⟨cell_of_one z4, lt_of_block z4, _, _, z2, sb.below bw⟩
  have a3 := keep b3 a2
  have q3 := keep b3 q2
  have r3 := keep b3 r2
  obtain ⟨g0, g1, g2, _⟩ := mat_cells a3
  obtain ⟨h0, h1, h2, _⟩ := mat_cells q3
  clear z1 z2 z3 z4 c0 c1 c2 d0 d1 d2 e0 e1 e2 f0 f1 f2
  go_wp2_with (go_at_call 86; refine (hrk _ _ _ _ _ _ A3 B3 g1).mono ?_; rintro e w4 ⟨v4, rfl, s4, n4, b4⟩; obtain ⟨ao4, cap4, rfl⟩ := s4.slice; obtain ⟨f0, f1, f2, k0, k1, k2⟩ := mat_cells (heap_old (keep b4 r3) (.cells #[.int .i64 R, .int .i64 C, .slice ao4 (prd R N C xs ys).length cap4] 24)))
  refine bodyPost_ret (v := .tuple #[.agg #[.int .i64 R, .int .i64 C, .slice ao4 (prd R N C xs ys).length cap4], .bool S, .int .i64 0]) (by simp [results, Try.results69, go_sem, f0, f1, f2]) rfl ?_
  exact ⟨_, rfl, (s4.alloc _).put n4 (lt_of_block r3) _ _ _, n4.mono bw.size, below_put ((bt bw b4).alloc (bt bw b4).size _) (by omega) _ _ _⟩

set_option maxHeartbeats 400000 in
theorem mul_not (R N M C : Int) (h : N ≠ M) (va vb : Value) (xs ys : List Int) (w : World) (sa : Sees w va xs) (sb : Sees w vb ys) :
    Calls Try.prog 69 #[.agg #[.int .i64 R, .int .i64 N, va], .agg #[.int .i64 M, .int .i64 C, vb]] w fun e b =>
      e = .returned (.tuple #[.agg #[.int .i64 0, .int .i64 0, .slice none 0 0], .bool false, .int .i64 9]) ∧ Below w.heap.size w b := by
  obtain ⟨ao, cap, rfl⟩ := sa.slice
  obtain ⟨bo, bcap, rfl⟩ := sb.slice
  clear sa sb
  have e1 : ¬ (N = M) := h
  have b0 := ball3 w (.cells #[.int .i64 R, .int .i64 N, .slice ao xs.length cap] 24) (.cells #[.int .i64 M, .int .i64 C, .slice bo ys.length bcap] 24) (.cells #[.int .i64 0, .int .i64 0, .slice none 0 0] 24)
  go_enter Try.func69, Try.ntmps69
  go_wp2
  refine bodyPost_ret (v := .tuple #[.agg #[.int .i64 0, .int .i64 0, .slice none 0 0], .bool false, .int .i64 9]) (by simp [results, Try.results69, go_sem]) rfl ?_
  exact ⟨rfl, b0⟩
end Go.Proofs.Ytiniobcknmaigaa
