/-
  The walk of LinkTwice.
-/
import Derived.Test.YtbhgffbmeaomkaaLSh
namespace Go.Proofs.Ytbhgffbmeaomkaa.Gr
open Go.RowKit Go.Sort Lm
set_option linter.unusedVariables false
set_option linter.unusedSimpArgs false

set_option maxRecDepth 20000 in
set_option maxHeartbeats 4000000 in
theorem linkTwice_walk (v : Value) (l : Lk) (vp : Value) (p : Pk) (w : World) (svl : SeesL w v l) (lnl : l.sent.length ≤ 100000000000000) (svp : SeesP w vp p) (lnp : p.words.length ≤ 100000000000000) :
    Calls Try.prog 6 #[v, vp] w fun e w' => e = .returned (.bool true) ∧ Below w.heap.size w w' := by
  obtain ⟨wl, rfl, sl⟩ := svl
  obtain ⟨ol, cl, rfl⟩ := sl.slice
  obtain ⟨nl, hnl⟩ : ∃ n, l.sent.length = n := ⟨_, rfl⟩
  have HNl : Hid (l.sent.length = nl) := hnl
  rw [hnl] at lnl sl ⊢
  clear hnl
  obtain ⟨wp, rfl, sp⟩ := svp
  obtain ⟨op, cp, rfl⟩ := sp.slice
  obtain ⟨np, hnp⟩ : ∃ n, p.words.length = n := ⟨_, rfl⟩
  have HNp : Hid (p.words.length = np) := hnp
  rw [hnp] at lnp sp ⊢
  clear hnp
  obtain ⟨V, hV⟩ : ∃ V, ((w.alloc (.cells #[.int .i64 l.own, .int .i64 l.other, .int .i64 l.first, .slice ol nl cl, .int .i64 l.next] 24)).alloc (.cells #[.int .i64 p.frm, .int .i64 p.to, .int .i64 p.place, .slice op np cp, .int .i64 p.wait] 26)) = V := ⟨_, rfl⟩
  obtain ⟨hB, hC⟩ := heaps2' w (.cells #[.int .i64 l.own, .int .i64 l.other, .int .i64 l.first, .slice ol nl cl, .int .i64 l.next] 24) (.cells #[.int .i64 p.frm, .int .i64 p.to, .int .i64 p.place, .slice op np cp, .int .i64 p.wait] 26)
  have bV : Below w.heap.size w V := by rw [← hV]; exact bt (box_below _ _) (box_below _ _)
  rw [hV] at hB hC
  obtain ⟨B0, hB0⟩ : ∃ B, w.heap.size = B := ⟨_, rfl⟩
  have SB0 := sl.below bV
  have SP := sp.below bV
  rw [hB0] at hB hC bV ⊢
  obtain ⟨P, hP⟩ : ∃ n, B0 + 1 = n := ⟨_, rfl⟩
  rw [hP] at hC
  have HB0 : Hid (V.heap[B0]? = _) := hB
  have lB0u : Hid (B0 < V.heap.size) := lt_of_block hB
  have zB0 : Hid (B0 ≤ B0) := (by omega : B0 ≤ B0)
  have HP : Hid (V.heap[P]? = _) := hC
  have lPu : Hid (P < V.heap.size) := lt_of_block hC
  have zP : Hid (B0 ≤ P) := (by omega : B0 ≤ P)
  have lB0P : Hid (B0 < P) := (by omega : B0 < P)
  have BB : Below B0 w V := bV
  have LE : B0 ≤ V.heap.size := by have := lB0u.out; omega
  have LEu : Hid (B0 ≤ V.heap.size) := LE
  clear hB hC bV sl sp
  obtain ⟨B01, B02, B03, B04, B05⟩ := five_cells HB0.out
  obtain ⟨P1, P2, P3, P4, P5⟩ := five_cells HP.out
  go_enter Try.func6, Try.ntmps6
  go_upto_region 2 with (go_at_call 10; go_must (refine (shown11 _).mono ?_); rintro e w1 ⟨rfl, b1⟩; clear B01 B02 B03 B04 B05 P1 P2 P3 P4 P5; obtain ⟨B01, B02, B03, B04, B05⟩ := five_cells (keep (b1) HB0.out); obtain ⟨P1, P2, P3, P4, P5⟩ := five_cells (keep (b1) HP.out))
  clear B01 B02 B03 B04 B05 P1 P2 P3 P4 P5
  have bb0 := b1
  have HB0 : Hid (w1.heap[B0]? = _) := keep bb0 HB0.out
  have HP : Hid (w1.heap[P]? = _) := keep bb0 HP.out
  have SB0 := SB0.below bb0
  have SP := SP.below bb0
  have BB : Below B0 w w1 := below_up BB LE bb0
  have LE : B0 ≤ w1.heap.size := Nat.le_trans LE bb0.size
  have lB0u : Hid (B0 < w1.heap.size) := lt_of_block HB0.out
  have lPu : Hid (P < w1.heap.size) := lt_of_block HP.out
  have LEu : Hid (B0 ≤ w1.heap.size) := LE
  clear bb0
  obtain ⟨B01, B02, B03, B04, B05⟩ := five_cells HB0.out
  obtain ⟨P1, P2, P3, P4, P5⟩ := five_cells HP.out
  have hwr : wrap64 ((nl : Int) + (np : Int)) = (nl : Int) + (np : Int) := by unfold wrap64; omega
  by_cases hs : 100 < (nl : Int) + (np : Int)
  · have ds : decide (100 < (nl : Int) + (np : Int)) = true := decide_eq_true hs
    go_wp2_with (fail)
    go_ret
    exact ⟨rfl, BB⟩
  have ds : decide (100 < (nl : Int) + (np : Int)) = false := decide_eq_false hs
  have cR := rrightL_any _ l w1 (by rw [HNl.out]; omega) ⟨_, rfl, SB0⟩
  cases hr : rightL l
  · rw [hr] at cR
    go_wp2_with (go_at_call 13; go_must (refine (cR).mono ?_); rintro e w2 ⟨rfl, b2⟩; clear B01 B02 B03 B04 B05 P1 P2 P3 P4 P5; obtain ⟨B01, B02, B03, B04, B05⟩ := five_cells (keep (b2) HB0.out); obtain ⟨P1, P2, P3, P4, P5⟩ := five_cells (keep (b2) HP.out))
    go_ret
    exact ⟨rfl, below_up BB LE b2⟩
  rw [hr] at cR
  go_upto_region 4 with (go_at_call 13; go_must (refine (cR).mono ?_); rintro e w2 ⟨rfl, b2⟩; clear B01 B02 B03 B04 B05 P1 P2 P3 P4 P5; obtain ⟨B01, B02, B03, B04, B05⟩ := five_cells (keep (b2) HB0.out); obtain ⟨P1, P2, P3, P4, P5⟩ := five_cells (keep (b2) HP.out))
  clear B01 B02 B03 B04 B05 P1 P2 P3 P4 P5
  have bb1 := b2
  have HB0 : Hid (w2.heap[B0]? = _) := keep bb1 HB0.out
  have HP : Hid (w2.heap[P]? = _) := keep bb1 HP.out
  have SB0 := SB0.below bb1
  have SP := SP.below bb1
  have BB : Below B0 w w2 := below_up BB LE bb1
  have LE : B0 ≤ w2.heap.size := Nat.le_trans LE bb1.size
  have lB0u : Hid (B0 < w2.heap.size) := lt_of_block HB0.out
  have lPu : Hid (P < w2.heap.size) := lt_of_block HP.out
  have LEu : Hid (B0 ≤ w2.heap.size) := LE
  clear bb1
  obtain ⟨B01, B02, B03, B04, B05⟩ := five_cells HB0.out
  obtain ⟨P1, P2, P3, P4, P5⟩ := five_cells HP.out
  have HR := rightL_iff.1 hr
  obtain ⟨k8, k0, k1, k2, k3⟩ := in_ok p hr
  have cI := inl_any _ _ l p w2 (by omega) (by rw [HNp.out]; omega) (by omega) (by omega) (by omega) (by omega) ⟨_, rfl, SB0⟩ ⟨_, rfl, SP⟩
  obtain ⟨t1, t2⟩ := in_twice l p (by omega)
  have tl := inW_len l p
  rw [HNp.out] at tl
  clear HR cR hwr
  generalize inL l p = a at *
  generalize inW l p = T at *
  obtain ⟨na, hna⟩ : ∃ n, a.sent.length = n := ⟨_, rfl⟩
  have HNa : Hid (a.sent.length = na) := hna
  obtain ⟨nT, hnT⟩ : ∃ n, T.length = n := ⟨_, rfl⟩
  have HNT : Hid (T.length = nT) := hnT
  rw [hna] at k8
  rw [hnT] at tl
  clear hna hnT
  have dl : decide ((nT : Int) ≤ (np : Int)) = true := decide_eq_true (by omega)
  go_upto_region 5 with (go_at_call 19; go_must (refine (cI).mono ?_); rintro e w3 ⟨v3, vt3, rfl, ⟨vs3, rfl, sA, nA⟩, sT, nT3, b3⟩; clear B01 B02 B03 B04 B05 P1 P2 P3 P4 P5; obtain ⟨B01, B02, B03, B04, B05⟩ := five_cells (keep (b3) HB0.out); obtain ⟨P1, P2, P3, P4, P5⟩ := five_cells (keep (b3) HP.out); obtain ⟨g3, c3, rfl⟩ := slice_of sA HNa.out; obtain ⟨g4, c4, rfl⟩ := slice_of sT HNT.out)
  clear B01 B02 B03 B04 B05 P1 P2 P3 P4 P5
  obtain ⟨A, hA⟩ : ∃ n, w3.heap.size = n := ⟨_, rfl⟩
  have hbA := box_below w3 (.cells #[.int .i64 a.own, .int .i64 a.other, .int .i64 a.first, .slice g3 na c3, .int .i64 a.next] 24)
  have HA0 := heap_new w3 (.cells #[.int .i64 a.own, .int .i64 a.other, .int .i64 a.first, .slice g3 na c3, .int .i64 a.next] 24)
  obtain ⟨u2, hu2⟩ : ∃ u, w3.alloc (.cells #[.int .i64 a.own, .int .i64 a.other, .int .i64 a.first, .slice g3 na c3, .int .i64 a.next] 24) = u := ⟨_, rfl⟩
  rw [hu2] at hbA HA0
  rw [hA] at HA0 ⊢
  rw [hu2]
  have bb2 := bt (b3) hbA
  have HB0 : Hid (u2.heap[B0]? = _) := keep bb2 HB0.out
  have HP : Hid (u2.heap[P]? = _) := keep bb2 HP.out
  have SB0 := SB0.below bb2
  have SP := SP.below bb2
  have SA := sA.below hbA
  have NA := nA
  have qAB0 : Hid (B0 < w2.heap.size) := lB0u
  have qAP : Hid (P < w2.heap.size) := lPu
  have HA : Hid (u2.heap[A]? = _) := HA0
  have BB : Below B0 w u2 := below_up BB LE bb2
  have LE : B0 ≤ u2.heap.size := Nat.le_trans LE bb2.size
  have lB0A : Hid (B0 < A) := (by have := lB0u.out; have := (b3).size; omega : B0 < A)
  have lPA : Hid (P < A) := (by have := lPu.out; have := (b3).size; omega : P < A)
  have zA : Hid (B0 ≤ A) := (by rw [← hA]; exact Nat.le_trans LEu.out (b3).size : B0 ≤ A)
  have lB0u : Hid (B0 < u2.heap.size) := lt_of_block HB0.out
  have lPu : Hid (P < u2.heap.size) := lt_of_block HP.out
  have lAu : Hid (A < u2.heap.size) := lt_of_block HA.out
  have LEu : Hid (B0 ≤ u2.heap.size) := LE
  clear hu2 hbA HA0 hA bb2
  obtain ⟨B01, B02, B03, B04, B05⟩ := five_cells HB0.out
  obtain ⟨P1, P2, P3, P4, P5⟩ := five_cells HP.out
  obtain ⟨A1, A2, A3, A4, A5⟩ := five_cells HA.out
  have cJ := inl_any _ _ a p u2 (by rw [HNa.out]; omega) (by rw [HNp.out]; omega) (by omega) (by omega) (by omega) (by omega) ⟨_, rfl, SA⟩ ⟨_, rfl, SP⟩
  rw [t1, t2] at cJ
  clear t1 t2 cI
  go_upto_region 6 with (go_at_call 19; go_must (refine (cJ).mono ?_); rintro e w4 ⟨v4, vt4, rfl, ⟨vs4, rfl, sC, nC⟩, sE, nE, b4⟩; clear B01 B02 B03 B04 B05 P1 P2 P3 P4 P5 A1 A2 A3 A4 A5; obtain ⟨B01, B02, B03, B04, B05⟩ := five_cells (keep (b4) HB0.out); obtain ⟨P1, P2, P3, P4, P5⟩ := five_cells (keep (b4) HP.out); obtain ⟨A1, A2, A3, A4, A5⟩ := five_cells (keep (b4) HA.out); obtain ⟨g5, c5, rfl⟩ := slice_of sC HNa.out; obtain ⟨g6, c6, rfl⟩ := slice_of (n := 0) sE rfl)
  clear B01 B02 B03 B04 B05 P1 P2 P3 P4 P5 A1 A2 A3 A4 A5
  obtain ⟨C, hC⟩ : ∃ n, w4.heap.size = n := ⟨_, rfl⟩
  have hbC := box_below w4 (.cells #[.int .i64 a.own, .int .i64 a.other, .int .i64 a.first, .slice g5 na c5, .int .i64 a.next] 24)
  have HC0 := heap_new w4 (.cells #[.int .i64 a.own, .int .i64 a.other, .int .i64 a.first, .slice g5 na c5, .int .i64 a.next] 24)
  obtain ⟨u3, hu3⟩ : ∃ u, w4.alloc (.cells #[.int .i64 a.own, .int .i64 a.other, .int .i64 a.first, .slice g5 na c5, .int .i64 a.next] 24) = u := ⟨_, rfl⟩
  rw [hu3] at hbC HC0
  rw [hC] at HC0 ⊢
  rw [hu3]
  have bb3 := bt (b4) hbC
  have HB0 : Hid (u3.heap[B0]? = _) := keep bb3 HB0.out
  have HP : Hid (u3.heap[P]? = _) := keep bb3 HP.out
  have HA : Hid (u3.heap[A]? = _) := keep bb3 HA.out
  have SB0 := SB0.below bb3
  have SP := SP.below bb3
  have SA := SA.below bb3
  have SC := sC.below hbC
  have NC := nC
  have qCB0 : Hid (B0 < u2.heap.size) := lB0u
  have qCP : Hid (P < u2.heap.size) := lPu
  have qCA : Hid (A < u2.heap.size) := lAu
  have HC : Hid (u3.heap[C]? = _) := HC0
  have BB : Below B0 w u3 := below_up BB LE bb3
  have LE : B0 ≤ u3.heap.size := Nat.le_trans LE bb3.size
  have lB0C : Hid (B0 < C) := (by have := lB0u.out; have := (b4).size; omega : B0 < C)
  have lPC : Hid (P < C) := (by have := lPu.out; have := (b4).size; omega : P < C)
  have lAC : Hid (A < C) := (by have := lAu.out; have := (b4).size; omega : A < C)
  have zC : Hid (B0 ≤ C) := (by rw [← hC]; exact Nat.le_trans LEu.out (b4).size : B0 ≤ C)
  have lB0u : Hid (B0 < u3.heap.size) := lt_of_block HB0.out
  have lPu : Hid (P < u3.heap.size) := lt_of_block HP.out
  have lAu : Hid (A < u3.heap.size) := lt_of_block HA.out
  have lCu : Hid (C < u3.heap.size) := lt_of_block HC.out
  have LEu : Hid (B0 ≤ u3.heap.size) := LE
  clear hu3 hbC HC0 hC bb3
  obtain ⟨B01, B02, B03, B04, B05⟩ := five_cells HB0.out
  obtain ⟨P1, P2, P3, P4, P5⟩ := five_cells HP.out
  obtain ⟨A1, A2, A3, A4, A5⟩ := five_cells HA.out
  obtain ⟨C1, C2, C3, C4, C5⟩ := five_cells HC.out
  have cK := rsameK_any _ _ a a u3 (by rw [HNa.out]; omega) (by rw [HNa.out]; omega) ⟨_, rfl, SA⟩ ⟨_, rfl, SC⟩
  rw [sameK_refl] at cK
  clear cJ
  go_wp2_with (go_at_call 14; go_must (refine cK.mono ?_); rintro e w6 ⟨rfl, b6⟩)
  go_ret
  exact ⟨rfl, below_up BB LE b6⟩
end Go.Proofs.Ytbhgffbmeaomkaa.Gr
