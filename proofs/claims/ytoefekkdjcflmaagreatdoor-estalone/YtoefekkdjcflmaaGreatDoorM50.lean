/- Parts of the proof. -/
import Derived.Test.YtoefekkdjcflmaaGreatDoorM42
namespace Go.Proofs.YtoefekkdjcflmaaGreatDoor
open Go.RowKit Go.Sort Qm
set_option maxRecDepth 20000 in
set_option maxHeartbeats 1600000 in
theorem rsamet_any (r c p q r' c' p' q' : Int) (va vb vc vd : Value) (xs ys zs us : List Int) (w : World) (hx : xs.length ≤ 100) (hy : ys.length ≤ 100) (hz : zs.length ≤ 100) (hu : us.length ≤ 100) (sa : Sees w va xs) (sb : Sees w vb ys) (sc : Sees w vc zs) (sd : Sees w vd us) :
    Calls Tryz.prog 38 #[.agg #[.int .i64 r, .int .i64 c, va, .int .i64 p, .int .i64 q, vb], .agg #[.int .i64 r', .int .i64 c', vc, .int .i64 p', .int .i64 q', vd]] w fun e b =>
      e = .returned (.bool (sameB r c xs r' c' zs && sameB p q ys p' q' us)) ∧ Below w.heap.size w b := by
  obtain ⟨ao, ac, rfl⟩ := sa.slice
  obtain ⟨bo, bc, rfl⟩ := sb.slice
  obtain ⟨co, cc, rfl⟩ := sc.slice
  obtain ⟨eo, ec, rfl⟩ := sd.slice
  obtain ⟨W, hW⟩ : ∃ W, (w.alloc (.cells #[.int .i64 r, .int .i64 c, .slice ao xs.length ac, .int .i64 p, .int .i64 q, .slice bo ys.length bc] 31)).alloc (.cells #[.int .i64 r', .int .i64 c', .slice co zs.length cc, .int .i64 p', .int .i64 q', .slice eo us.length ec] 31) = W := ⟨_, rfl⟩
  obtain ⟨x1, x2⟩ := allocs2 w (.cells #[.int .i64 r, .int .i64 c, .slice ao xs.length ac, .int .i64 p, .int .i64 q, .slice bo ys.length bc] 31) (.cells #[.int .i64 r', .int .i64 c', .slice co zs.length cc, .int .i64 p', .int .i64 q', .slice eo us.length ec] 31)
  have bW := ball2 w (.cells #[.int .i64 r, .int .i64 c, .slice ao xs.length ac, .int .i64 p, .int .i64 q, .slice bo ys.length bc] 31) (.cells #[.int .i64 r', .int .i64 c', .slice co zs.length cc, .int .i64 p', .int .i64 q', .slice eo us.length ec] 31)
  rw [hW] at x1 x2 bW
  have k1 := rsame_any r c r' c' _ _ xs zs W hx hz (sa.below bW) (sc.below bW)
  have k2 : ∀ v, Below W.heap.size W v → Calls Tryz.prog 83 #[.agg #[.int .i64 p, .int .i64 q, .slice bo ys.length bc], .agg #[.int .i64 p', .int .i64 q', .slice eo us.length ec]] v fun e b =>
      e = .returned (.bool (sameB p q ys p' q' us)) ∧ Below v.heap.size v b := fun v hv => rsame_any p q p' q' _ _ ys us v hy hu ((sb.below bW).below hv) ((sd.below bW).below hv)
  obtain ⟨A, hA⟩ : ∃ A, sameB r c xs r' c' zs = A := ⟨_, rfl⟩
  obtain ⟨B, hB⟩ : ∃ B, sameB p q ys p' q' us = B := ⟨_, rfl⟩
  rw [hA] at k1
  simp only [hB] at k2
  rw [hA, hB]
  rw [← hW] at k1
  have HW : Hid (_ = W) := hW
  clear hW hA hB hx hy hz hu
  obtain ⟨c0, c1, c2, c3, c4, c5⟩ := six_cells x1
  obtain ⟨q0, q1, q2, q3, q4, q5⟩ := six_cells x2
  cases A
  · go_enter Tryz.func38, Tryz.ntmps38
    go_wp2_with (go_at_call 83; refine k1.mono ?_; rintro e wa ⟨rfl, b1⟩; rw [HW.out] at b1)
    go_ret
    exact ⟨rfl, bt bW b1⟩
  · go_enter Tryz.func38, Tryz.ntmps38
    go_wp2_with (first
      | (have _ := b1; go_at_call 83; refine (k2 _ b1).mono ?_; rintro e wb ⟨rfl, b2⟩)
      | (go_at_call 83; refine k1.mono ?_; rintro e wa ⟨rfl, b1⟩; rw [HW.out] at b1; obtain ⟨d0, d1, d2, d3, d4, d5⟩ := six_cells (keep b1 x1); obtain ⟨e0, e1, e2, e3, e4, e5⟩ := six_cells (keep b1 x2)))
    go_ret
    exact ⟨by simp, bt (bt bW b1) b2⟩
end Go.Proofs.YtoefekkdjcflmaaGreatDoor
namespace Go.Proofs.YtoefekkdjcflmaaGreatDoor.Et
open Go.RowKit Go.Sort Go.Proofs.YtoefekkdjcflmaaGreatDoor.Qm
theorem bcell {W w1 : World} (hb : Below W.heap.size W w1) : (∀ b o, b < W.heap.size → w1.cell? ⟨b, o, none⟩ = W.cell? ⟨b, o, none⟩) ∧ (∀ b o, b < W.heap.size → w1.frozen? ⟨b, o, none⟩ = W.frozen? ⟨b, o, none⟩) :=
  ⟨fun b o h => hb.cell (p := ⟨b, o, none⟩) h, fun b o h => hb.frozen (p := ⟨b, o, none⟩) h⟩
theorem Tryz.under4j : Tryz.prog.underlying 33 = some (.array 4 3) := by kernel_rfl
theorem Tryz.underJ : Tryz.prog.underlying 3 = some (.int .i64) := by kernel_rfl
theorem sizeJ (w : World) : (sizeOf 3).run Tryz.prog w = .ok 1 w := by kernel_rfl
theorem guard4j : Tryz.prog.eqGuardType Tryz.prog.depth 33 = false := by kernel_rfl
theorem run_eqJ (w : World) (a b c d e f g h : Int) : (Op.equalIn 10000 33 (.agg #[.int .i64 a, .int .i64 b, .int .i64 c, .int .i64 d]) (.agg #[.int .i64 e, .int .i64 f, .int .i64 g, .int .i64 h])).run Tryz.prog w = .ok (Qt.Qm.eq4 a b c d e f g h) w := by
  have := Qt.equalIn_row w 9998 33 3 4 Tryz.under4j Tryz.underJ sizeJ [a, b, c, d] [e, f, g, h] rfl rfl
  refine this.trans ?_
  simp [Qt.Qm.eq4, List.range, List.range.loop, Bool.and_assoc]
def axE (a b : Es) (i : Nat) : Bool := sameB (a.r i) (a.c i) (a.X i) (b.r i) (b.c i) (b.X i) && sameB (a.r' i) (a.c' i) (a.P i) (b.r' i) (b.c' i) (b.P i)
def samE (a b : Es) : Bool := axE a b 0 && axE a b 1 && axE a b 2 && Qt.Qm.eq4 (a.tu 0) (a.tu 1) (a.tu 2) (a.tu 3) (b.tu 0) (b.tu 1) (b.tu 2) (b.tu 3) && decide (a.st = b.st) && decide (a.co = b.co) && Qt.Qm.eq4 (a.off 0) (a.off 1) (a.off 2) (a.off 3) (b.off 0) (b.off 1) (b.off 2) (b.off 3) && (a.sat == b.sat)
def Es.Short (e : Es) : Prop := ∀ i, i < 3 → (e.X i).length ≤ 100 ∧ (e.P i).length ≤ 100
set_option maxRecDepth 40000 in
set_option maxHeartbeats 16000000 in
theorem rsame6_any (a b : Es) (vx vp ux up : Nat → Value) (w : World) (ha : a.See w vx vp) (hb : b.See w ux up) (la : a.Short) (lb : b.Short) :
    Calls Tryz.prog 16 #[.agg (a.cells vx vp), .agg (b.cells ux up)] w fun z v => z = .returned (.bool (samE a b)) ∧ Below w.heap.size w v := by
  obtain ⟨g1, g2⟩ := allocs2 w (.cells (a.cells vx vp) 35) (.cells (b.cells ux up) 35)
  have bW := ball2 w (.cells (a.cells vx vp) 35) (.cells (b.cells ux up) 35)
  have hz : ((w.alloc (.cells (a.cells vx vp) 35)).alloc (.cells (b.cells ux up) 35)).heap.size = w.heap.size + 2 := by simp
  have sa := ha.below bW
  have sb := hb.below bW
  have k : ∀ i, i < 3 → ∀ v, Below ((w.alloc (.cells (a.cells vx vp) 35)).alloc (.cells (b.cells ux up) 35)).heap.size ((w.alloc (.cells (a.cells vx vp) 35)).alloc (.cells (b.cells ux up) 35)) v → Calls Tryz.prog 38 #[.agg #[.int .i64 (a.r i), .int .i64 (a.c i), vx i, .int .i64 (a.r' i), .int .i64 (a.c' i), vp i], .agg #[.int .i64 (b.r i), .int .i64 (b.c i), ux i, .int .i64 (b.r' i), .int .i64 (b.c' i), up i]] v fun z v' => z = .returned (.bool (axE a b i)) ∧ Below v.heap.size v v' := fun i hi v hv =>
    rsamet_any _ _ _ _ _ _ _ _ _ _ _ _ (a.X i) (a.P i) (b.X i) (b.P i) v (la i hi).1 (la i hi).2 (lb i hi).1 (lb i hi).2 (sa.below hv i hi).1 (sa.below hv i hi).2 (sb.below hv i hi).1 (sb.below hv i hi).2
  obtain ⟨xa0, ya0, ea0⟩ := (sa 0 (by decide)).1.slice
  go_enter Tryz.func16, Tryz.ntmps16
  go_upto_region 1 with fail
  generalize (w.alloc (.cells (a.cells vx vp) 35)).alloc (.cells (b.cells ux up) 35) = V at g1 g2 bW hz sa sb k ea0 ⊢
  clear ea0 xa0 ya0
  have aW := Es.wk g1
  have bbW := Es.wk g2
  have a0 : V.cell? ⟨w.heap.size, 0, none⟩ = some (.int .i64 (a.tu 0)) := aW.cell (by decide) rfl
  have a1 : V.cell? ⟨w.heap.size, 1, none⟩ = some (.int .i64 (a.tu 1)) := aW.cell (by decide) rfl
  have a2 : V.cell? ⟨w.heap.size, 2, none⟩ = some (.int .i64 (a.tu 2)) := aW.cell (by decide) rfl
  have a3 : V.cell? ⟨w.heap.size, 3, none⟩ = some (.int .i64 (a.tu 3)) := aW.cell (by decide) rfl
  have a4 : V.cell? ⟨w.heap.size, 4, none⟩ = some (.int .i64 (a.r 0)) := aW.cell (by decide) rfl
  have a5 : V.cell? ⟨w.heap.size, 5, none⟩ = some (.int .i64 (a.c 0)) := aW.cell (by decide) rfl
  have a6 : V.cell? ⟨w.heap.size, 6, none⟩ = some (vx 0) := aW.cell (by decide) rfl
  have a7 : V.cell? ⟨w.heap.size, 7, none⟩ = some (.int .i64 (a.r' 0)) := aW.cell (by decide) rfl
  have a8 : V.cell? ⟨w.heap.size, 8, none⟩ = some (.int .i64 (a.c' 0)) := aW.cell (by decide) rfl
  have a9 : V.cell? ⟨w.heap.size, 9, none⟩ = some (vp 0) := aW.cell (by decide) rfl
  have a10 : V.cell? ⟨w.heap.size, 10, none⟩ = some (.int .i64 (a.r 1)) := aW.cell (by decide) rfl
  have a11 : V.cell? ⟨w.heap.size, 11, none⟩ = some (.int .i64 (a.c 1)) := aW.cell (by decide) rfl
  have a12 : V.cell? ⟨w.heap.size, 12, none⟩ = some (vx 1) := aW.cell (by decide) rfl
  have a13 : V.cell? ⟨w.heap.size, 13, none⟩ = some (.int .i64 (a.r' 1)) := aW.cell (by decide) rfl
  have a14 : V.cell? ⟨w.heap.size, 14, none⟩ = some (.int .i64 (a.c' 1)) := aW.cell (by decide) rfl
  have a15 : V.cell? ⟨w.heap.size, 15, none⟩ = some (vp 1) := aW.cell (by decide) rfl
  have a16 : V.cell? ⟨w.heap.size, 16, none⟩ = some (.int .i64 (a.r 2)) := aW.cell (by decide) rfl
  have a17 : V.cell? ⟨w.heap.size, 17, none⟩ = some (.int .i64 (a.c 2)) := aW.cell (by decide) rfl
  have a18 : V.cell? ⟨w.heap.size, 18, none⟩ = some (vx 2) := aW.cell (by decide) rfl
  have a19 : V.cell? ⟨w.heap.size, 19, none⟩ = some (.int .i64 (a.r' 2)) := aW.cell (by decide) rfl
  have a20 : V.cell? ⟨w.heap.size, 20, none⟩ = some (.int .i64 (a.c' 2)) := aW.cell (by decide) rfl
  have a21 : V.cell? ⟨w.heap.size, 21, none⟩ = some (vp 2) := aW.cell (by decide) rfl
  have a22 : V.cell? ⟨w.heap.size, 22, none⟩ = some (.int .i64 a.st) := aW.cell (by decide) rfl
  have a23 : V.cell? ⟨w.heap.size, 23, none⟩ = some (.int .i64 a.co) := aW.cell (by decide) rfl
  have a24 : V.cell? ⟨w.heap.size, 24, none⟩ = some (.int .i64 (a.off 0)) := aW.cell (by decide) rfl
  have a25 : V.cell? ⟨w.heap.size, 25, none⟩ = some (.int .i64 (a.off 1)) := aW.cell (by decide) rfl
  have a26 : V.cell? ⟨w.heap.size, 26, none⟩ = some (.int .i64 (a.off 2)) := aW.cell (by decide) rfl
  have a27 : V.cell? ⟨w.heap.size, 27, none⟩ = some (.int .i64 (a.off 3)) := aW.cell (by decide) rfl
  have a28 : V.cell? ⟨w.heap.size, 28, none⟩ = some (.bool a.sat) := aW.cell (by decide) rfl
  have bb0 : V.cell? ⟨w.heap.size + 1, 0, none⟩ = some (.int .i64 (b.tu 0)) := bbW.cell (by decide) rfl
  have bb1 : V.cell? ⟨w.heap.size + 1, 1, none⟩ = some (.int .i64 (b.tu 1)) := bbW.cell (by decide) rfl
  have bb2 : V.cell? ⟨w.heap.size + 1, 2, none⟩ = some (.int .i64 (b.tu 2)) := bbW.cell (by decide) rfl
  have bb3 : V.cell? ⟨w.heap.size + 1, 3, none⟩ = some (.int .i64 (b.tu 3)) := bbW.cell (by decide) rfl
  have bb4 : V.cell? ⟨w.heap.size + 1, 4, none⟩ = some (.int .i64 (b.r 0)) := bbW.cell (by decide) rfl
  have bb5 : V.cell? ⟨w.heap.size + 1, 5, none⟩ = some (.int .i64 (b.c 0)) := bbW.cell (by decide) rfl
  have bb6 : V.cell? ⟨w.heap.size + 1, 6, none⟩ = some (ux 0) := bbW.cell (by decide) rfl
  have bb7 : V.cell? ⟨w.heap.size + 1, 7, none⟩ = some (.int .i64 (b.r' 0)) := bbW.cell (by decide) rfl
  have bb8 : V.cell? ⟨w.heap.size + 1, 8, none⟩ = some (.int .i64 (b.c' 0)) := bbW.cell (by decide) rfl
  have bb9 : V.cell? ⟨w.heap.size + 1, 9, none⟩ = some (up 0) := bbW.cell (by decide) rfl
  have bb10 : V.cell? ⟨w.heap.size + 1, 10, none⟩ = some (.int .i64 (b.r 1)) := bbW.cell (by decide) rfl
  have bb11 : V.cell? ⟨w.heap.size + 1, 11, none⟩ = some (.int .i64 (b.c 1)) := bbW.cell (by decide) rfl
  have bb12 : V.cell? ⟨w.heap.size + 1, 12, none⟩ = some (ux 1) := bbW.cell (by decide) rfl
  have bb13 : V.cell? ⟨w.heap.size + 1, 13, none⟩ = some (.int .i64 (b.r' 1)) := bbW.cell (by decide) rfl
  have bb14 : V.cell? ⟨w.heap.size + 1, 14, none⟩ = some (.int .i64 (b.c' 1)) := bbW.cell (by decide) rfl
  have bb15 : V.cell? ⟨w.heap.size + 1, 15, none⟩ = some (up 1) := bbW.cell (by decide) rfl
  have bb16 : V.cell? ⟨w.heap.size + 1, 16, none⟩ = some (.int .i64 (b.r 2)) := bbW.cell (by decide) rfl
  have bb17 : V.cell? ⟨w.heap.size + 1, 17, none⟩ = some (.int .i64 (b.c 2)) := bbW.cell (by decide) rfl
  have bb18 : V.cell? ⟨w.heap.size + 1, 18, none⟩ = some (ux 2) := bbW.cell (by decide) rfl
  have bb19 : V.cell? ⟨w.heap.size + 1, 19, none⟩ = some (.int .i64 (b.r' 2)) := bbW.cell (by decide) rfl
  have bb20 : V.cell? ⟨w.heap.size + 1, 20, none⟩ = some (.int .i64 (b.c' 2)) := bbW.cell (by decide) rfl
  have bb21 : V.cell? ⟨w.heap.size + 1, 21, none⟩ = some (up 2) := bbW.cell (by decide) rfl
  have bb22 : V.cell? ⟨w.heap.size + 1, 22, none⟩ = some (.int .i64 b.st) := bbW.cell (by decide) rfl
  have bb23 : V.cell? ⟨w.heap.size + 1, 23, none⟩ = some (.int .i64 b.co) := bbW.cell (by decide) rfl
  have bb24 : V.cell? ⟨w.heap.size + 1, 24, none⟩ = some (.int .i64 (b.off 0)) := bbW.cell (by decide) rfl
  have bb25 : V.cell? ⟨w.heap.size + 1, 25, none⟩ = some (.int .i64 (b.off 1)) := bbW.cell (by decide) rfl
  have bb26 : V.cell? ⟨w.heap.size + 1, 26, none⟩ = some (.int .i64 (b.off 2)) := bbW.cell (by decide) rfl
  have bb27 : V.cell? ⟨w.heap.size + 1, 27, none⟩ = some (.int .i64 (b.off 3)) := bbW.cell (by decide) rfl
  have bb28 : V.cell? ⟨w.heap.size + 1, 28, none⟩ = some (.bool b.sat) := bbW.cell (by decide) rfl
  have hl0 : w.heap.size < V.heap.size := by omega
  have hl1 : w.heap.size + 1 < V.heap.size := by omega
  have k0 := k 0 (by decide)
  have k1 := k 1 (by decide)
  have k2 := k 2 (by decide)
  clear aW bbW g1 g2 ha hb k
  have HX : Hid (a.See V vx vp ∧ b.See V ux up) := ⟨sa, sb⟩
  clear sa sb
  have HR : Hid (samE a b = _) := rfl
  obtain ⟨S0, h0⟩ : ∃ s, axE a b 0 = s := ⟨_, rfl⟩
  obtain ⟨S1, h1⟩ : ∃ s, axE a b 1 = s := ⟨_, rfl⟩
  obtain ⟨S2, h2⟩ : ∃ s, axE a b 2 = s := ⟨_, rfl⟩
  obtain ⟨Q, hQ⟩ : ∃ s, Qt.Qm.eq4 (a.tu 0) (a.tu 1) (a.tu 2) (a.tu 3) (b.tu 0) (b.tu 1) (b.tu 2) (b.tu 3) = s := ⟨_, rfl⟩
  obtain ⟨O, hO⟩ : ∃ s, Qt.Qm.eq4 (a.off 0) (a.off 1) (a.off 2) (a.off 3) (b.off 0) (b.off 1) (b.off 2) (b.off 3) = s := ⟨_, rfl⟩
  have q1 := fun u => Qt.run_eq4 u (a.tu 0) (a.tu 1) (a.tu 2) (a.tu 3) (b.tu 0) (b.tu 1) (b.tu 2) (b.tu 3)
  have q2 := fun u => run_eqJ u (a.off 0) (a.off 1) (a.off 2) (a.off 3) (b.off 0) (b.off 1) (b.off 2) (b.off 3)
  have q3 := Qt.guard24
  have q4 := guard4j
  rw [h0] at k0
  rw [h1] at k1
  rw [h2] at k2
  simp only [hQ] at q1
  simp only [hO] at q2
  have HE : Hid (samE a b = (S0 && S1 && S2 && Q && decide (a.st = b.st) && decide (a.co = b.co) && O && (a.sat == b.sat))) := by
    show samE a b = _
    unfold samE
    rw [h0, h1, h2, hQ, hO]
  clear HR h0 h1 h2 hQ hO
  generalize a.st = s1 at *
  generalize b.st = s2 at *
  generalize a.co = c1 at *
  generalize b.co = c2 at *
  generalize a.sat = f1 at *
  generalize b.sat = f2 at *
  cases S0 with
  | false =>
    go_wp2_with (first
      | (have _ := b2; go_at_call 38; go_must (refine (k2 _ B2).mono ?_); rintro z w3 ⟨rfl, b3⟩; obtain ⟨n3, m3⟩ := bcell b3; have hz3 := b3.size; have l30 : w.heap.size < w3.heap.size := (by omega); have l31 : w.heap.size + 1 < w3.heap.size := (by omega); have B3 := bt B2 b3)
      | (have _ := b1; go_at_call 38; go_must (refine (k1 _ B1).mono ?_); rintro z w2 ⟨rfl, b2⟩; obtain ⟨n2, m2⟩ := bcell b2; have hz2 := b2.size; have l20 : w.heap.size < w2.heap.size := (by omega); have l21 : w.heap.size + 1 < w2.heap.size := (by omega); have B2 := bt B1 b2)
      | (go_at_call 38; go_must (refine (k0 _ (Below.refl _ _)).mono ?_); rintro z w1 ⟨rfl, b1⟩; obtain ⟨n1, m1⟩ := bcell b1; have hz1 := b1.size; have l10 : w.heap.size < w1.heap.size := (by omega); have l11 : w.heap.size + 1 < w1.heap.size := (by omega); have B1 := b1))
    apply bodyPost_ret (v := .bool false)
    · simp [results, Tryz.results16, go_sem]
    · rfl
    · exact ⟨by rw [HE.out]; simp_all, bt bW B1⟩
  | true =>
    cases S1 with
    | false =>
      go_wp2_with (first
        | (have _ := b2; go_at_call 38; go_must (refine (k2 _ B2).mono ?_); rintro z w3 ⟨rfl, b3⟩; obtain ⟨n3, m3⟩ := bcell b3; have hz3 := b3.size; have l30 : w.heap.size < w3.heap.size := (by omega); have l31 : w.heap.size + 1 < w3.heap.size := (by omega); have B3 := bt B2 b3)
        | (have _ := b1; go_at_call 38; go_must (refine (k1 _ B1).mono ?_); rintro z w2 ⟨rfl, b2⟩; obtain ⟨n2, m2⟩ := bcell b2; have hz2 := b2.size; have l20 : w.heap.size < w2.heap.size := (by omega); have l21 : w.heap.size + 1 < w2.heap.size := (by omega); have B2 := bt B1 b2)
        | (go_at_call 38; go_must (refine (k0 _ (Below.refl _ _)).mono ?_); rintro z w1 ⟨rfl, b1⟩; obtain ⟨n1, m1⟩ := bcell b1; have hz1 := b1.size; have l10 : w.heap.size < w1.heap.size := (by omega); have l11 : w.heap.size + 1 < w1.heap.size := (by omega); have B1 := b1))
      apply bodyPost_ret (v := .bool false)
      · simp [results, Tryz.results16, go_sem]
      · rfl
      · exact ⟨by rw [HE.out]; simp_all, bt bW B2⟩
    | true =>
      cases S2 with
      | false =>
        go_wp2_with (first
          | (have _ := b2; go_at_call 38; go_must (refine (k2 _ B2).mono ?_); rintro z w3 ⟨rfl, b3⟩; obtain ⟨n3, m3⟩ := bcell b3; have hz3 := b3.size; have l30 : w.heap.size < w3.heap.size := (by omega); have l31 : w.heap.size + 1 < w3.heap.size := (by omega); have B3 := bt B2 b3)
          | (have _ := b1; go_at_call 38; go_must (refine (k1 _ B1).mono ?_); rintro z w2 ⟨rfl, b2⟩; obtain ⟨n2, m2⟩ := bcell b2; have hz2 := b2.size; have l20 : w.heap.size < w2.heap.size := (by omega); have l21 : w.heap.size + 1 < w2.heap.size := (by omega); have B2 := bt B1 b2)
          | (go_at_call 38; go_must (refine (k0 _ (Below.refl _ _)).mono ?_); rintro z w1 ⟨rfl, b1⟩; obtain ⟨n1, m1⟩ := bcell b1; have hz1 := b1.size; have l10 : w.heap.size < w1.heap.size := (by omega); have l11 : w.heap.size + 1 < w1.heap.size := (by omega); have B1 := b1))
        apply bodyPost_ret (v := .bool false)
        · simp [results, Tryz.results16, go_sem]
        · rfl
        · exact ⟨by rw [HE.out]; simp_all, bt bW B3⟩
      | true =>
        cases Q with
        | false =>
          go_wp2_with (first
            | (have _ := b2; go_at_call 38; go_must (refine (k2 _ B2).mono ?_); rintro z w3 ⟨rfl, b3⟩; obtain ⟨n3, m3⟩ := bcell b3; have hz3 := b3.size; have l30 : w.heap.size < w3.heap.size := (by omega); have l31 : w.heap.size + 1 < w3.heap.size := (by omega); have B3 := bt B2 b3)
            | (have _ := b1; go_at_call 38; go_must (refine (k1 _ B1).mono ?_); rintro z w2 ⟨rfl, b2⟩; obtain ⟨n2, m2⟩ := bcell b2; have hz2 := b2.size; have l20 : w.heap.size < w2.heap.size := (by omega); have l21 : w.heap.size + 1 < w2.heap.size := (by omega); have B2 := bt B1 b2)
            | (go_at_call 38; go_must (refine (k0 _ (Below.refl _ _)).mono ?_); rintro z w1 ⟨rfl, b1⟩; obtain ⟨n1, m1⟩ := bcell b1; have hz1 := b1.size; have l10 : w.heap.size < w1.heap.size := (by omega); have l11 : w.heap.size + 1 < w1.heap.size := (by omega); have B1 := b1))
          apply bodyPost_ret (v := .bool false)
          · simp [results, Tryz.results16, go_sem]
          · rfl
          · exact ⟨by rw [HE.out]; simp_all, bt bW B3⟩
        | true =>
          by_cases e1 : s1 = s2
          · subst e1
            by_cases e2 : c1 = c2
            · subst e2
              cases O with
              | false =>
                go_wp2_with (first
                  | (have _ := b2; go_at_call 38; go_must (refine (k2 _ B2).mono ?_); rintro z w3 ⟨rfl, b3⟩; obtain ⟨n3, m3⟩ := bcell b3; have hz3 := b3.size; have l30 : w.heap.size < w3.heap.size := (by omega); have l31 : w.heap.size + 1 < w3.heap.size := (by omega); have B3 := bt B2 b3)
                  | (have _ := b1; go_at_call 38; go_must (refine (k1 _ B1).mono ?_); rintro z w2 ⟨rfl, b2⟩; obtain ⟨n2, m2⟩ := bcell b2; have hz2 := b2.size; have l20 : w.heap.size < w2.heap.size := (by omega); have l21 : w.heap.size + 1 < w2.heap.size := (by omega); have B2 := bt B1 b2)
                  | (go_at_call 38; go_must (refine (k0 _ (Below.refl _ _)).mono ?_); rintro z w1 ⟨rfl, b1⟩; obtain ⟨n1, m1⟩ := bcell b1; have hz1 := b1.size; have l10 : w.heap.size < w1.heap.size := (by omega); have l11 : w.heap.size + 1 < w1.heap.size := (by omega); have B1 := b1))
                apply bodyPost_ret (v := .bool false)
                · simp [results, Tryz.results16, go_sem]
                · rfl
                · exact ⟨by rw [HE.out]; simp_all, bt bW B3⟩
              | true =>
                cases f1
                · cases f2
                  · skip
                    go_wp2_with (first
                      | (have _ := b2; go_at_call 38; go_must (refine (k2 _ B2).mono ?_); rintro z w3 ⟨rfl, b3⟩; obtain ⟨n3, m3⟩ := bcell b3; have hz3 := b3.size; have l30 : w.heap.size < w3.heap.size := (by omega); have l31 : w.heap.size + 1 < w3.heap.size := (by omega); have B3 := bt B2 b3)
                      | (have _ := b1; go_at_call 38; go_must (refine (k1 _ B1).mono ?_); rintro z w2 ⟨rfl, b2⟩; obtain ⟨n2, m2⟩ := bcell b2; have hz2 := b2.size; have l20 : w.heap.size < w2.heap.size := (by omega); have l21 : w.heap.size + 1 < w2.heap.size := (by omega); have B2 := bt B1 b2)
                      | (go_at_call 38; go_must (refine (k0 _ (Below.refl _ _)).mono ?_); rintro z w1 ⟨rfl, b1⟩; obtain ⟨n1, m1⟩ := bcell b1; have hz1 := b1.size; have l10 : w.heap.size < w1.heap.size := (by omega); have l11 : w.heap.size + 1 < w1.heap.size := (by omega); have B1 := b1))
                    apply bodyPost_ret (v := .bool true)
                    · simp [results, Tryz.results16, go_sem]
                    · rfl
                    · exact ⟨by rw [HE.out]; simp_all, bt bW B3⟩
                  · skip
                    go_wp2_with (first
                      | (have _ := b2; go_at_call 38; go_must (refine (k2 _ B2).mono ?_); rintro z w3 ⟨rfl, b3⟩; obtain ⟨n3, m3⟩ := bcell b3; have hz3 := b3.size; have l30 : w.heap.size < w3.heap.size := (by omega); have l31 : w.heap.size + 1 < w3.heap.size := (by omega); have B3 := bt B2 b3)
                      | (have _ := b1; go_at_call 38; go_must (refine (k1 _ B1).mono ?_); rintro z w2 ⟨rfl, b2⟩; obtain ⟨n2, m2⟩ := bcell b2; have hz2 := b2.size; have l20 : w.heap.size < w2.heap.size := (by omega); have l21 : w.heap.size + 1 < w2.heap.size := (by omega); have B2 := bt B1 b2)
                      | (go_at_call 38; go_must (refine (k0 _ (Below.refl _ _)).mono ?_); rintro z w1 ⟨rfl, b1⟩; obtain ⟨n1, m1⟩ := bcell b1; have hz1 := b1.size; have l10 : w.heap.size < w1.heap.size := (by omega); have l11 : w.heap.size + 1 < w1.heap.size := (by omega); have B1 := b1))
                    apply bodyPost_ret (v := .bool false)
                    · simp [results, Tryz.results16, go_sem]
                    · rfl
                    · exact ⟨by rw [HE.out]; simp_all, bt bW B3⟩
                · cases f2
                  · skip
                    go_wp2_with (first
                      | (have _ := b2; go_at_call 38; go_must (refine (k2 _ B2).mono ?_); rintro z w3 ⟨rfl, b3⟩; obtain ⟨n3, m3⟩ := bcell b3; have hz3 := b3.size; have l30 : w.heap.size < w3.heap.size := (by omega); have l31 : w.heap.size + 1 < w3.heap.size := (by omega); have B3 := bt B2 b3)
                      | (have _ := b1; go_at_call 38; go_must (refine (k1 _ B1).mono ?_); rintro z w2 ⟨rfl, b2⟩; obtain ⟨n2, m2⟩ := bcell b2; have hz2 := b2.size; have l20 : w.heap.size < w2.heap.size := (by omega); have l21 : w.heap.size + 1 < w2.heap.size := (by omega); have B2 := bt B1 b2)
                      | (go_at_call 38; go_must (refine (k0 _ (Below.refl _ _)).mono ?_); rintro z w1 ⟨rfl, b1⟩; obtain ⟨n1, m1⟩ := bcell b1; have hz1 := b1.size; have l10 : w.heap.size < w1.heap.size := (by omega); have l11 : w.heap.size + 1 < w1.heap.size := (by omega); have B1 := b1))
                    apply bodyPost_ret (v := .bool false)
                    · simp [results, Tryz.results16, go_sem]
                    · rfl
                    · exact ⟨by rw [HE.out]; simp_all, bt bW B3⟩
                  · skip
                    go_wp2_with (first
                      | (have _ := b2; go_at_call 38; go_must (refine (k2 _ B2).mono ?_); rintro z w3 ⟨rfl, b3⟩; obtain ⟨n3, m3⟩ := bcell b3; have hz3 := b3.size; have l30 : w.heap.size < w3.heap.size := (by omega); have l31 : w.heap.size + 1 < w3.heap.size := (by omega); have B3 := bt B2 b3)
                      | (have _ := b1; go_at_call 38; go_must (refine (k1 _ B1).mono ?_); rintro z w2 ⟨rfl, b2⟩; obtain ⟨n2, m2⟩ := bcell b2; have hz2 := b2.size; have l20 : w.heap.size < w2.heap.size := (by omega); have l21 : w.heap.size + 1 < w2.heap.size := (by omega); have B2 := bt B1 b2)
                      | (go_at_call 38; go_must (refine (k0 _ (Below.refl _ _)).mono ?_); rintro z w1 ⟨rfl, b1⟩; obtain ⟨n1, m1⟩ := bcell b1; have hz1 := b1.size; have l10 : w.heap.size < w1.heap.size := (by omega); have l11 : w.heap.size + 1 < w1.heap.size := (by omega); have B1 := b1))
                    apply bodyPost_ret (v := .bool true)
                    · simp [results, Tryz.results16, go_sem]
                    · rfl
                    · exact ⟨by rw [HE.out]; simp_all, bt bW B3⟩
            · have e2' : (c1 == c2) = false := by simp [e2]
              go_wp2_with (first
                | (have _ := b2; go_at_call 38; go_must (refine (k2 _ B2).mono ?_); rintro z w3 ⟨rfl, b3⟩; obtain ⟨n3, m3⟩ := bcell b3; have hz3 := b3.size; have l30 : w.heap.size < w3.heap.size := (by omega); have l31 : w.heap.size + 1 < w3.heap.size := (by omega); have B3 := bt B2 b3)
                | (have _ := b1; go_at_call 38; go_must (refine (k1 _ B1).mono ?_); rintro z w2 ⟨rfl, b2⟩; obtain ⟨n2, m2⟩ := bcell b2; have hz2 := b2.size; have l20 : w.heap.size < w2.heap.size := (by omega); have l21 : w.heap.size + 1 < w2.heap.size := (by omega); have B2 := bt B1 b2)
                | (go_at_call 38; go_must (refine (k0 _ (Below.refl _ _)).mono ?_); rintro z w1 ⟨rfl, b1⟩; obtain ⟨n1, m1⟩ := bcell b1; have hz1 := b1.size; have l10 : w.heap.size < w1.heap.size := (by omega); have l11 : w.heap.size + 1 < w1.heap.size := (by omega); have B1 := b1))
              apply bodyPost_ret (v := .bool false)
              · simp [results, Tryz.results16, go_sem]
              · rfl
              · exact ⟨by rw [HE.out]; simp_all, bt bW B3⟩
          · have e1' : (s1 == s2) = false := by simp [e1]
            go_wp2_with (first
              | (have _ := b2; go_at_call 38; go_must (refine (k2 _ B2).mono ?_); rintro z w3 ⟨rfl, b3⟩; obtain ⟨n3, m3⟩ := bcell b3; have hz3 := b3.size; have l30 : w.heap.size < w3.heap.size := (by omega); have l31 : w.heap.size + 1 < w3.heap.size := (by omega); have B3 := bt B2 b3)
              | (have _ := b1; go_at_call 38; go_must (refine (k1 _ B1).mono ?_); rintro z w2 ⟨rfl, b2⟩; obtain ⟨n2, m2⟩ := bcell b2; have hz2 := b2.size; have l20 : w.heap.size < w2.heap.size := (by omega); have l21 : w.heap.size + 1 < w2.heap.size := (by omega); have B2 := bt B1 b2)
              | (go_at_call 38; go_must (refine (k0 _ (Below.refl _ _)).mono ?_); rintro z w1 ⟨rfl, b1⟩; obtain ⟨n1, m1⟩ := bcell b1; have hz1 := b1.size; have l10 : w.heap.size < w1.heap.size := (by omega); have l11 : w.heap.size + 1 < w1.heap.size := (by omega); have B1 := b1))
            apply bodyPost_ret (v := .bool false)
            · simp [results, Tryz.results16, go_sem]
            · rfl
            · exact ⟨by rw [HE.out]; simp_all, bt bW B3⟩
end Go.Proofs.YtoefekkdjcflmaaGreatDoor.Et

