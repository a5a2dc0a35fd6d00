/-
  Ends: the example at the head of every law.
-/
import Derived.Test.YtbhgffbmeaomkaaLSt
namespace Go.Proofs.Ytbhgffbmeaomkaa.Gr
open Go.RowKit Go.Sort Lm
set_option linter.unusedVariables false
set_option linter.unusedSimpArgs false

set_option maxRecDepth 20000 in
set_option maxHeartbeats 4000000 in
theorem shown11 (w : World) : Calls Try.prog 10 #[] w fun e w' => e = .returned (.bool true) ∧ Below w.heap.size w w' := by
  have N1 := fun u => new_any 1 u
  have e1 : newE 1 = 0 := rfl
  have e2 : newL 1 = ⟨1, 0, 0, [], 0⟩ := rfl
  rw [e1, e2] at N1
  have N2 := fun u => new_any 2 u
  have e1 : newE 2 = 0 := rfl
  have e2 : newL 2 = ⟨2, 0, 0, [], 0⟩ := rfl
  rw [e1, e2] at N2
  clear e1 e2
  obtain ⟨B0, hB0⟩ : ∃ B, w.heap.size = B := ⟨_, rfl⟩
  have BB : Below B0 w w := Below.refl _ _
  have LE : B0 ≤ w.heap.size := Nat.le_of_eq hB0.symm
  have LEu : Hid (B0 ≤ w.heap.size) := LE
  rw [hB0]
  clear hB0
  go_enter Try.func10, Try.ntmps10
  go_upto_region 2 with (go_at_call 11; go_must (refine (N1 _).mono ?_); rintro e w1 ⟨v1, rfl, ⟨vs1, rfl, sA, nA⟩, b1⟩; obtain ⟨g1, c1, rfl⟩ := slice_of (n := 0) sA rfl)
  obtain ⟨A, hA⟩ : ∃ n, w1.heap.size = n := ⟨_, rfl⟩
  have hbA := box_below w1 (.cells #[.int .i64 1, .int .i64 0, .int .i64 0, .slice g1 0 c1, .int .i64 0] 24)
  have HA0 := heap_new w1 (.cells #[.int .i64 1, .int .i64 0, .int .i64 0, .slice g1 0 c1, .int .i64 0] 24)
  obtain ⟨u0, hu0⟩ : ∃ u, w1.alloc (.cells #[.int .i64 1, .int .i64 0, .int .i64 0, .slice g1 0 c1, .int .i64 0] 24) = u := ⟨_, rfl⟩
  rw [hu0] at hbA HA0
  rw [hA] at HA0 ⊢
  rw [hu0]
  have bb0 := bt (b1) hbA
  have SA := sA.below hbA
  have NA := nA
  have HA : Hid (u0.heap[A]? = _) := HA0
  have BB : Below B0 w u0 := below_up BB LE bb0
  have LE : B0 ≤ u0.heap.size := Nat.le_trans LE bb0.size
  have zA : Hid (B0 ≤ A) := (by rw [← hA]; exact Nat.le_trans LEu.out (b1).size : B0 ≤ A)
  have lAu : Hid (A < u0.heap.size) := lt_of_block HA.out
  have LEu : Hid (B0 ≤ u0.heap.size) := LE
  clear hu0 hbA HA0 hA bb0
  obtain ⟨A1, A2, A3, A4, A5⟩ := five_cells HA.out
  go_upto_region 3 with (go_at_call 11; go_must (refine (N2 _).mono ?_); rintro e w2 ⟨v2, rfl, ⟨vs2, rfl, sC, nC⟩, b2⟩; clear A1 A2 A3 A4 A5; obtain ⟨A1, A2, A3, A4, A5⟩ := five_cells (keep (b2) HA.out); obtain ⟨g2, c2, rfl⟩ := slice_of (n := 0) sC rfl)
  clear A1 A2 A3 A4 A5
  obtain ⟨C, hC⟩ : ∃ n, w2.heap.size = n := ⟨_, rfl⟩
  have hbC := box_below w2 (.cells #[.int .i64 2, .int .i64 0, .int .i64 0, .slice g2 0 c2, .int .i64 0] 24)
  have HC0 := heap_new w2 (.cells #[.int .i64 2, .int .i64 0, .int .i64 0, .slice g2 0 c2, .int .i64 0] 24)
  obtain ⟨u1, hu1⟩ : ∃ u, w2.alloc (.cells #[.int .i64 2, .int .i64 0, .int .i64 0, .slice g2 0 c2, .int .i64 0] 24) = u := ⟨_, rfl⟩
  rw [hu1] at hbC HC0
  rw [hC] at HC0 ⊢
  rw [hu1]
  have bb1 := bt (b2) hbC
  have HA : Hid (u1.heap[A]? = _) := keep bb1 HA.out
  have SA := SA.below bb1
  have SC := sC.below hbC
  have NC := nC
  have qCA : Hid (A < u0.heap.size) := lAu
  have HC : Hid (u1.heap[C]? = _) := HC0
  have BB : Below B0 w u1 := below_up BB LE bb1
  have LE : B0 ≤ u1.heap.size := Nat.le_trans LE bb1.size
  have lAC : Hid (A < C) := (by have := lAu.out; have := (b2).size; omega : A < C)
  have zC : Hid (B0 ≤ C) := (by rw [← hC]; exact Nat.le_trans LEu.out (b2).size : B0 ≤ C)
  have lAu : Hid (A < u1.heap.size) := lt_of_block HA.out
  have lCu : Hid (C < u1.heap.size) := lt_of_block HC.out
  have LEu : Hid (B0 ≤ u1.heap.size) := LE
  clear hu1 hbC HC0 hC bb1
  obtain ⟨A1, A2, A3, A4, A5⟩ := five_cells HA.out
  obtain ⟨C1, C2, C3, C4, C5⟩ := five_cells HC.out
  have cS := send_any _ ⟨1, 0, 0, [], 0⟩ 5 u1 (by simp) ⟨_, rfl, SA⟩
  have e0 : sendL ⟨1, 0, 0, [], 0⟩ 5 = ⟨1, 0, 0, [5], 0⟩ := by decide
  rw [e0] at cS
  have e1 : sendE ⟨1, 0, 0, [], 0⟩ = 0 := by decide
  rw [e1] at cS
  clear e0 e1
  go_upto_region 4 with (go_at_call 17; go_must (refine (cS).mono ?_); rintro e w3 ⟨v3, rfl, ⟨vs3, rfl, sA, nA⟩, b3⟩; clear A1 A2 A3 A4 A5 C1 C2 C3 C4 C5; obtain ⟨A1, A2, A3, A4, A5⟩ := five_cells (keep (b3) HA.out); obtain ⟨C1, C2, C3, C4, C5⟩ := five_cells (keep (b3) HC.out); have zA0 := not_frozen5 (keep (b3) HA.out) 0; have zA1 := not_frozen5 (keep (b3) HA.out) 1; have zA2 := not_frozen5 (keep (b3) HA.out) 2; have zA3 := not_frozen5 (keep (b3) HA.out) 3; have zA4 := not_frozen5 (keep (b3) HA.out) 4; obtain ⟨g3, c3, rfl⟩ := slice_of (n := 1) sA rfl)
  clear A1 A2 A3 A4 A5 C1 C2 C3 C4 C5
  clear zA0 zA1 zA2 zA3 zA4
  have lw : u1.heap.size ≤ w3.heap.size := (b3).size
  have HA := set_all5 (keep (b3) HA.out) (.int .i64 1) (.int .i64 0) (.int .i64 0) (.slice g3 1 c3) (.int .i64 0)
  have HC := st5_keep (keep (b3) HC.out) (by have := lAC.out; omega : C ≠ A) (.int .i64 1) (.int .i64 0) (.int .i64 0) (.slice g3 1 c3) (.int .i64 0)
  have SC : SeesI ((((((w3).setCell ⟨A, 0, none⟩ (.int .i64 1)).setCell ⟨A, 1, none⟩ (.int .i64 0)).setCell ⟨A, 2, none⟩ (.int .i64 0)).setCell ⟨A, 3, none⟩ (.slice g3 1 c3)).setCell ⟨A, 4, none⟩ (.int .i64 0)) _ [] := sees_nil SC
  have SA := st5_sees sA nA lAu.out (.int .i64 1) (.int .i64 0) (.int .i64 0) (.slice g3 1 c3) (.int .i64 0)
  have NA := nA
  have qAA : Hid (A < u1.heap.size) := lAu
  have qAC : Hid (C < u1.heap.size) := lCu
  have BB := st5_below (below_up BB LE (b3)) zA.out (by have := lAu.out; omega : A < w3.heap.size) (.int .i64 1) (.int .i64 0) (.int .i64 0) (.slice g3 1 c3) (.int .i64 0)
  have LE := Nat.le_trans LE (Nat.le_trans (b3).size (gb_all5 w3 A (.int .i64 1) (.int .i64 0) (.int .i64 0) (.slice g3 1 c3) (.int .i64 0)).size)
  obtain ⟨u2, hu2⟩ : ∃ u, (((((w3).setCell ⟨A, 0, none⟩ (.int .i64 1)).setCell ⟨A, 1, none⟩ (.int .i64 0)).setCell ⟨A, 2, none⟩ (.int .i64 0)).setCell ⟨A, 3, none⟩ (.slice g3 1 c3)).setCell ⟨A, 4, none⟩ (.int .i64 0) = u := ⟨_, rfl⟩
  rw [hu2] at BB LE HA HC SA SC ⊢
  clear hu2 lw
  have lAu : Hid (A < u2.heap.size) := lt_of_block HA
  have HA : Hid (u2.heap[A]? = _) := HA
  have lCu : Hid (C < u2.heap.size) := lt_of_block HC
  have HC : Hid (u2.heap[C]? = _) := HC
  have LEu : Hid (B0 ≤ u2.heap.size) := LE
  obtain ⟨A1, A2, A3, A4, A5⟩ := five_cells HA.out
  obtain ⟨C1, C2, C3, C4, C5⟩ := five_cells HC.out
  have cO := out_any _ ⟨1, 0, 0, [5], 0⟩ u2 (by simp) ⟨_, rfl, SA⟩
  have e0 : outL ⟨1, 0, 0, [5], 0⟩ = ⟨1, 0, 0, [5], 0⟩ := rfl
  rw [e0] at cO
  clear e0
  go_upto_region 5 with (go_at_call 23; go_must (refine (cO).mono ?_); rintro e w4 ⟨v4, rfl, ⟨vs4, rfl, sP, nP⟩, b4⟩; clear A1 A2 A3 A4 A5 C1 C2 C3 C4 C5; obtain ⟨A1, A2, A3, A4, A5⟩ := five_cells (keep (b4) HA.out); obtain ⟨C1, C2, C3, C4, C5⟩ := five_cells (keep (b4) HC.out); obtain ⟨g4, c4, rfl⟩ := slice_of (n := 1) sP rfl)
  clear A1 A2 A3 A4 A5 C1 C2 C3 C4 C5
  obtain ⟨P, hP⟩ : ∃ n, w4.heap.size = n := ⟨_, rfl⟩
  have hbP := box_below w4 (.cells #[.int .i64 1, .int .i64 0, .int .i64 0, .slice g4 1 c4, .int .i64 0] 26)
  have HP0 := heap_new w4 (.cells #[.int .i64 1, .int .i64 0, .int .i64 0, .slice g4 1 c4, .int .i64 0] 26)
  obtain ⟨u3, hu3⟩ : ∃ u, w4.alloc (.cells #[.int .i64 1, .int .i64 0, .int .i64 0, .slice g4 1 c4, .int .i64 0] 26) = u := ⟨_, rfl⟩
  rw [hu3] at hbP HP0
  rw [hP] at HP0 ⊢
  rw [hu3]
  have bb3 := bt (b4) hbP
  have HA : Hid (u3.heap[A]? = _) := keep bb3 HA.out
  have HC : Hid (u3.heap[C]? = _) := keep bb3 HC.out
  have SA := SA.below bb3
  have SC := SC.below bb3
  have SP := sP.below hbP
  have NP := nP
  have qPA : Hid (A < u2.heap.size) := lAu
  have qPC : Hid (C < u2.heap.size) := lCu
  have HP : Hid (u3.heap[P]? = _) := HP0
  have BB : Below B0 w u3 := below_up BB LE bb3
  have LE : B0 ≤ u3.heap.size := Nat.le_trans LE bb3.size
  have lAP : Hid (A < P) := (by have := lAu.out; have := (b4).size; omega : A < P)
  have lCP : Hid (C < P) := (by have := lCu.out; have := (b4).size; omega : C < P)
  have zP : Hid (B0 ≤ P) := (by rw [← hP]; exact Nat.le_trans LEu.out (b4).size : B0 ≤ P)
  have lAu : Hid (A < u3.heap.size) := lt_of_block HA.out
  have lCu : Hid (C < u3.heap.size) := lt_of_block HC.out
  have lPu : Hid (P < u3.heap.size) := lt_of_block HP.out
  have LEu : Hid (B0 ≤ u3.heap.size) := LE
  clear hu3 hbP HP0 hP bb3
  obtain ⟨A1, A2, A3, A4, A5⟩ := five_cells HA.out
  obtain ⟨C1, C2, C3, C4, C5⟩ := five_cells HC.out
  obtain ⟨P1, P2, P3, P4, P5⟩ := five_cells HP.out
  have cI := inl_any _ _ ⟨2, 0, 0, [], 0⟩ ⟨1, 0, 0, [5], 0⟩ u3 (by simp) (by simp) (by simp) (by simp) (by simp) (by simp) ⟨_, rfl, SC⟩ ⟨_, rfl, SP⟩
  have e1 : inL ⟨2, 0, 0, [], 0⟩ ⟨1, 0, 0, [5], 0⟩ = ⟨2, 1, 0, [], 1⟩ := by decide
  have e2 : inW ⟨2, 0, 0, [], 0⟩ ⟨1, 0, 0, [5], 0⟩ = [5] := by decide
  rw [e1, e2] at cI
  clear e1 e2
  go_upto_region 6 with (go_at_call 19; go_must (refine (cI).mono ?_); rintro e w5 ⟨v5, vt5, rfl, ⟨vs5, rfl, sD, nD⟩, sT, nT, b5⟩; clear A1 A2 A3 A4 A5 C1 C2 C3 C4 C5 P1 P2 P3 P4 P5; obtain ⟨A1, A2, A3, A4, A5⟩ := five_cells (keep (b5) HA.out); obtain ⟨C1, C2, C3, C4, C5⟩ := five_cells (keep (b5) HC.out); obtain ⟨P1, P2, P3, P4, P5⟩ := five_cells (keep (b5) HP.out); obtain ⟨g5, c5, rfl⟩ := slice_of (n := 0) sD rfl; obtain ⟨g6, c6, rfl⟩ := slice_of (n := 1) sT rfl)
  clear A1 A2 A3 A4 A5 C1 C2 C3 C4 C5 P1 P2 P3 P4 P5
  obtain ⟨D, hD⟩ : ∃ n, w5.heap.size = n := ⟨_, rfl⟩
  have hbD := box_below w5 (.cells #[.int .i64 2, .int .i64 1, .int .i64 0, .slice g5 0 c5, .int .i64 1] 24)
  have HD0 := heap_new w5 (.cells #[.int .i64 2, .int .i64 1, .int .i64 0, .slice g5 0 c5, .int .i64 1] 24)
  obtain ⟨u4, hu4⟩ : ∃ u, w5.alloc (.cells #[.int .i64 2, .int .i64 1, .int .i64 0, .slice g5 0 c5, .int .i64 1] 24) = u := ⟨_, rfl⟩
  rw [hu4] at hbD HD0
  rw [hD] at HD0 ⊢
  rw [hu4]
  have bb4 := bt (b5) hbD
  have HA : Hid (u4.heap[A]? = _) := keep bb4 HA.out
  have HC : Hid (u4.heap[C]? = _) := keep bb4 HC.out
  have HP : Hid (u4.heap[P]? = _) := keep bb4 HP.out
  have SA := SA.below bb4
  have SC := SC.below bb4
  have SP := SP.below bb4
  have SD := sD.below hbD
  have ND := nD
  have qDA : Hid (A < u3.heap.size) := lAu
  have qDC : Hid (C < u3.heap.size) := lCu
  have qDP : Hid (P < u3.heap.size) := lPu
  have ST := sT.below hbD
  have NT := nT
  have qTA : Hid (A < u3.heap.size) := lAu
  have qTC : Hid (C < u3.heap.size) := lCu
  have qTP : Hid (P < u3.heap.size) := lPu
  have HD : Hid (u4.heap[D]? = _) := HD0
  have BB : Below B0 w u4 := below_up BB LE bb4
  have LE : B0 ≤ u4.heap.size := Nat.le_trans LE bb4.size
  have lAD : Hid (A < D) := (by have := lAu.out; have := (b5).size; omega : A < D)
  have lCD : Hid (C < D) := (by have := lCu.out; have := (b5).size; omega : C < D)
  have lPD : Hid (P < D) := (by have := lPu.out; have := (b5).size; omega : P < D)
  have zD : Hid (B0 ≤ D) := (by rw [← hD]; exact Nat.le_trans LEu.out (b5).size : B0 ≤ D)
  have lAu : Hid (A < u4.heap.size) := lt_of_block HA.out
  have lCu : Hid (C < u4.heap.size) := lt_of_block HC.out
  have lPu : Hid (P < u4.heap.size) := lt_of_block HP.out
  have lDu : Hid (D < u4.heap.size) := lt_of_block HD.out
  have LEu : Hid (B0 ≤ u4.heap.size) := LE
  clear hu4 hbD HD0 hD bb4
  obtain ⟨A1, A2, A3, A4, A5⟩ := five_cells HA.out
  obtain ⟨C1, C2, C3, C4, C5⟩ := five_cells HC.out
  obtain ⟨P1, P2, P3, P4, P5⟩ := five_cells HP.out
  obtain ⟨D1, D2, D3, D4, D5⟩ := five_cells HD.out
  obtain ⟨ad, rfl, _, ct⟩ := ST.at 0 (by simp)
  rw [add_zero0] at ct
  have cR := right_any _ ⟨2, 1, 0, [], 1⟩ u4 (by simp) ⟨_, rfl, SD⟩
  have e1 : rightL ⟨2, 1, 0, [], 1⟩ = true := by decide
  rw [e1] at cR
  clear e1
  go_wp2_with (go_at_call 15; go_must (refine cR.mono ?_); rintro e w6 ⟨rfl, b6⟩)
  go_ret
  exact ⟨rfl, below_up BB LE b6⟩
end Go.Proofs.Ytbhgffbmeaomkaa.Gr
