/-
  The walk of LinkStays.
-/
import Derived.Test.YtbhgffbmeaomkaaLSh
namespace Go.Proofs.Ytbhgffbmeaomkaa.Gr
open Go.RowKit Go.Sort Lm
set_option linter.unusedVariables false
set_option linter.unusedSimpArgs false

set_option maxRecDepth 20000 in
set_option maxHeartbeats 4000000 in
theorem linkStays_walk (v : Value) (l : Lk) (vp : Value) (p : Pk) (x : Int) (w : World) (svl : SeesL w v l) (lnl : l.sent.length ≤ 100000000000000) (svp : SeesP w vp p) (lnp : p.words.length ≤ 100000000000000) :
    Calls Try.prog 7 #[v, vp, .int .i64 x] w fun e w' => e = .returned (.bool true) ∧ Below w.heap.size w w' := by
  obtain ⟨wl, rfl, sl⟩ := svl
  obtain ⟨ol, cl, rfl⟩ := sl.slice
  obtain ⟨nl, hnl⟩ : ∃ n, l.sent.length = n := ⟨_, rfl⟩
  have HNl : Hid (l.sent.length = nl) := hnl
  rw [hnl] at lnl sl ⊢
  clear hnl
  obtain ⟨wp, rfl, sp⟩ := svp
  obtain ⟨op, cp, rfl⟩ := sp.slice
  obtain ⟨np, hnp⟩ : ∃ n, p.words.length = n := ⟨_, rfl⟩
  have HNp : Hid (p.words.length = np) := hnp
  rw [hnp] at lnp sp ⊢
  clear hnp
  obtain ⟨V, hV⟩ : ∃ V, ((w.alloc (.cells #[.int .i64 l.own, .int .i64 l.other, .int .i64 l.first, .slice ol nl cl, .int .i64 l.next] 24)).alloc (.cells #[.int .i64 p.frm, .int .i64 p.to, .int .i64 p.place, .slice op np cp, .int .i64 p.wait] 26)) = V := ⟨_, rfl⟩
  obtain ⟨hB, hC⟩ := heaps2' w (.cells #[.int .i64 l.own, .int .i64 l.other, .int .i64 l.first, .slice ol nl cl, .int .i64 l.next] 24) (.cells #[.int .i64 p.frm, .int .i64 p.to, .int .i64 p.place, .slice op np cp, .int .i64 p.wait] 26)
  have bV : Below w.heap.size w V := by rw [← hV]; exact bt (box_below _ _) (box_below _ _)
  rw [hV] at hB hC
  obtain ⟨B0, hB0⟩ : ∃ B, w.heap.size = B := ⟨_, rfl⟩
  have SB0 := sl.below bV
  have SP := sp.below bV
  rw [hB0] at hB hC bV ⊢
  obtain ⟨P, hP⟩ : ∃ n, B0 + 1 = n := ⟨_, rfl⟩
  rw [hP] at hC
  have HB0 : Hid (V.heap[B0]? = _) := hB
  have lB0u : Hid (B0 < V.heap.size) := lt_of_block hB
  have zB0 : Hid (B0 ≤ B0) := (by omega : B0 ≤ B0)
  have HP : Hid (V.heap[P]? = _) := hC
  have lPu : Hid (P < V.heap.size) := lt_of_block hC
  have zP : Hid (B0 ≤ P) := (by omega : B0 ≤ P)
  have lB0P : Hid (B0 < P) := (by omega : B0 < P)
  have BB : Below B0 w V := bV
  have LE : B0 ≤ V.heap.size := by have := lB0u.out; omega
  have LEu : Hid (B0 ≤ V.heap.size) := LE
  clear hB hC bV sl sp
  obtain ⟨B01, B02, B03, B04, B05⟩ := five_cells HB0.out
  obtain ⟨P1, P2, P3, P4, P5⟩ := five_cells HP.out
  go_enter Try.func7, Try.ntmps7
  go_upto_region 2 with (go_at_call 10; go_must (refine (shown11 _).mono ?_); rintro e w1 ⟨rfl, b1⟩; clear B01 B02 B03 B04 B05 P1 P2 P3 P4 P5; obtain ⟨B01, B02, B03, B04, B05⟩ := five_cells (keep (b1) HB0.out); obtain ⟨P1, P2, P3, P4, P5⟩ := five_cells (keep (b1) HP.out))
  clear B01 B02 B03 B04 B05 P1 P2 P3 P4 P5
  have bb0 := b1
  have HB0 : Hid (w1.heap[B0]? = _) := keep bb0 HB0.out
  have HP : Hid (w1.heap[P]? = _) := keep bb0 HP.out
  have SB0 := SB0.below bb0
  have SP := SP.below bb0
  have BB : Below B0 w w1 := below_up BB LE bb0
  have LE : B0 ≤ w1.heap.size := Nat.le_trans LE bb0.size
  have lB0u : Hid (B0 < w1.heap.size) := lt_of_block HB0.out
  have lPu : Hid (P < w1.heap.size) := lt_of_block HP.out
  have LEu : Hid (B0 ≤ w1.heap.size) := LE
  clear bb0
  obtain ⟨B01, B02, B03, B04, B05⟩ := five_cells HB0.out
  obtain ⟨P1, P2, P3, P4, P5⟩ := five_cells HP.out
  have hwr : wrap64 ((nl : Int) + (np : Int)) = (nl : Int) + (np : Int) := by unfold wrap64; omega
  by_cases hs : 100 < (nl : Int) + (np : Int)
  · have ds : decide (100 < (nl : Int) + (np : Int)) = true := decide_eq_true hs
    go_wp2_with (fail)
    go_ret
    exact ⟨rfl, BB⟩
  have ds : decide (100 < (nl : Int) + (np : Int)) = false := decide_eq_false hs
  have cR := rrightL_any _ l w1 (by rw [HNl.out]; omega) ⟨_, rfl, SB0⟩
  cases hr : rightL l
  · rw [hr] at cR
    go_wp2_with (go_at_call 13; go_must (refine (cR).mono ?_); rintro e w2 ⟨rfl, b2⟩; clear B01 B02 B03 B04 B05 P1 P2 P3 P4 P5; obtain ⟨B01, B02, B03, B04, B05⟩ := five_cells (keep (b2) HB0.out); obtain ⟨P1, P2, P3, P4, P5⟩ := five_cells (keep (b2) HP.out))
    go_ret
    exact ⟨rfl, below_up BB LE b2⟩
  rw [hr] at cR
  by_cases hg0 : 2305843009213693952 < l.next
  · have dg0 : decide (2305843009213693952 < l.next) = true := decide_eq_true hg0
    go_wp2_with (go_at_call 13; go_must (refine (cR).mono ?_); rintro e w2 ⟨rfl, b2⟩; clear B01 B02 B03 B04 B05 P1 P2 P3 P4 P5; obtain ⟨B01, B02, B03, B04, B05⟩ := five_cells (keep (b2) HB0.out); obtain ⟨P1, P2, P3, P4, P5⟩ := five_cells (keep (b2) HP.out))
    go_ret
    exact ⟨rfl, below_up BB LE b2⟩
  have dg0 : decide (2305843009213693952 < l.next) = false := decide_eq_false hg0
  by_cases hg1 : 2305843009213693952 < l.first
  · have dg1 : decide (2305843009213693952 < l.first) = true := decide_eq_true hg1
    go_wp2_with (go_at_call 13; go_must (refine (cR).mono ?_); rintro e w2 ⟨rfl, b2⟩; clear B01 B02 B03 B04 B05 P1 P2 P3 P4 P5; obtain ⟨B01, B02, B03, B04, B05⟩ := five_cells (keep (b2) HB0.out); obtain ⟨P1, P2, P3, P4, P5⟩ := five_cells (keep (b2) HP.out))
    go_ret
    exact ⟨rfl, below_up BB LE b2⟩
  have dg1 : decide (2305843009213693952 < l.first) = false := decide_eq_false hg1
  by_cases hg2 : 2305843009213693952 < p.place
  · have dg2 : decide (2305843009213693952 < p.place) = true := decide_eq_true hg2
    go_wp2_with (go_at_call 13; go_must (refine (cR).mono ?_); rintro e w2 ⟨rfl, b2⟩; clear B01 B02 B03 B04 B05 P1 P2 P3 P4 P5; obtain ⟨B01, B02, B03, B04, B05⟩ := five_cells (keep (b2) HB0.out); obtain ⟨P1, P2, P3, P4, P5⟩ := five_cells (keep (b2) HP.out))
    go_ret
    exact ⟨rfl, below_up BB LE b2⟩
  have dg2 : decide (2305843009213693952 < p.place) = false := decide_eq_false hg2
  by_cases hg3 : 2305843009213693952 < p.wait
  · have dg3 : decide (2305843009213693952 < p.wait) = true := decide_eq_true hg3
    go_wp2_with (go_at_call 13; go_must (refine (cR).mono ?_); rintro e w2 ⟨rfl, b2⟩; clear B01 B02 B03 B04 B05 P1 P2 P3 P4 P5; obtain ⟨B01, B02, B03, B04, B05⟩ := five_cells (keep (b2) HB0.out); obtain ⟨P1, P2, P3, P4, P5⟩ := five_cells (keep (b2) HP.out))
    go_ret
    exact ⟨rfl, below_up BB LE b2⟩
  have dg3 : decide (2305843009213693952 < p.wait) = false := decide_eq_false hg3
  go_upto_region 4 with (go_at_call 13; go_must (refine (cR).mono ?_); rintro e w2 ⟨rfl, b2⟩; clear B01 B02 B03 B04 B05 P1 P2 P3 P4 P5; obtain ⟨B01, B02, B03, B04, B05⟩ := five_cells (keep (b2) HB0.out); obtain ⟨P1, P2, P3, P4, P5⟩ := five_cells (keep (b2) HP.out))
  clear B01 B02 B03 B04 B05 P1 P2 P3 P4 P5
  have bb1 := b2
  have HB0 : Hid (w2.heap[B0]? = _) := keep bb1 HB0.out
  have HP : Hid (w2.heap[P]? = _) := keep bb1 HP.out
  have SB0 := SB0.below bb1
  have SP := SP.below bb1
  have BB : Below B0 w w2 := below_up BB LE bb1
  have LE : B0 ≤ w2.heap.size := Nat.le_trans LE bb1.size
  have lB0u : Hid (B0 < w2.heap.size) := lt_of_block HB0.out
  have lPu : Hid (P < w2.heap.size) := lt_of_block HP.out
  have LEu : Hid (B0 ≤ w2.heap.size) := LE
  clear bb1
  obtain ⟨B01, B02, B03, B04, B05⟩ := five_cells HB0.out
  obtain ⟨P1, P2, P3, P4, P5⟩ := five_cells HP.out
  have HR := rightL_iff.1 hr
  have ra := in_stays (p := p) hr (by omega) (by omega) (by omega) (by omega)
  have cI := inl_any _ _ l p w2 (by omega) (by rw [HNp.out]; omega) (by omega) (by omega) (by omega) (by omega) ⟨_, rfl, SB0⟩ ⟨_, rfl, SP⟩
  have oa := in_own l p
  clear HR cR hwr dg0 dg1 dg2 dg3
  generalize inL l p = a at *
  generalize inW l p = T at *
  obtain ⟨na, hna⟩ : ∃ n, a.sent.length = n := ⟨_, rfl⟩
  have HNa : Hid (a.sent.length = na) := hna
  obtain ⟨nT, hnT⟩ : ∃ n, T.length = n := ⟨_, rfl⟩
  have HNT : Hid (T.length = nT) := hnT
  have ka := (rightL_iff.1 ra).2.2.2.2.2.2.2.2
  rw [hna] at ka
  clear hna hnT
  have rb := send_right x ra
  have ob := send_own a x
  have HRa : Hid (rightL a = true) := ra
  have HRb : Hid (rightL (sendL a x) = true) := rb
  have HOB : Hid ((sendL a x).own = l.own) := ob.trans oa
  clear oa ob ra rb
  go_upto_region 5 with (go_at_call 19; go_must (refine (cI).mono ?_); rintro e w3 ⟨v3, vt3, rfl, ⟨vs3, rfl, sA, nA⟩, sT, nT3, b3⟩; clear B01 B02 B03 B04 B05 P1 P2 P3 P4 P5; obtain ⟨B01, B02, B03, B04, B05⟩ := five_cells (keep (b3) HB0.out); obtain ⟨P1, P2, P3, P4, P5⟩ := five_cells (keep (b3) HP.out); obtain ⟨g3, c3, rfl⟩ := slice_of sA HNa.out; obtain ⟨g4, c4, rfl⟩ := slice_of sT HNT.out)
  clear B01 B02 B03 B04 B05 P1 P2 P3 P4 P5
  obtain ⟨A, hA⟩ : ∃ n, w3.heap.size = n := ⟨_, rfl⟩
  have hbA := box_below w3 (.cells #[.int .i64 a.own, .int .i64 a.other, .int .i64 a.first, .slice g3 na c3, .int .i64 a.next] 24)
  have HA0 := heap_new w3 (.cells #[.int .i64 a.own, .int .i64 a.other, .int .i64 a.first, .slice g3 na c3, .int .i64 a.next] 24)
  obtain ⟨u2, hu2⟩ : ∃ u, w3.alloc (.cells #[.int .i64 a.own, .int .i64 a.other, .int .i64 a.first, .slice g3 na c3, .int .i64 a.next] 24) = u := ⟨_, rfl⟩
  rw [hu2] at hbA HA0
  rw [hA] at HA0 ⊢
  rw [hu2]
  have bb2 := bt (b3) hbA
  have HB0 : Hid (u2.heap[B0]? = _) := keep bb2 HB0.out
  have HP : Hid (u2.heap[P]? = _) := keep bb2 HP.out
  have SB0 := SB0.below bb2
  have SP := SP.below bb2
  have SA := sA.below hbA
  have NA := nA
  have qAB0 : Hid (B0 < w2.heap.size) := lB0u
  have qAP : Hid (P < w2.heap.size) := lPu
  have HA : Hid (u2.heap[A]? = _) := HA0
  have BB : Below B0 w u2 := below_up BB LE bb2
  have LE : B0 ≤ u2.heap.size := Nat.le_trans LE bb2.size
  have lB0A : Hid (B0 < A) := (by have := lB0u.out; have := (b3).size; omega : B0 < A)
  have lPA : Hid (P < A) := (by have := lPu.out; have := (b3).size; omega : P < A)
  have zA : Hid (B0 ≤ A) := (by rw [← hA]; exact Nat.le_trans LEu.out (b3).size : B0 ≤ A)
  have lB0u : Hid (B0 < u2.heap.size) := lt_of_block HB0.out
  have lPu : Hid (P < u2.heap.size) := lt_of_block HP.out
  have lAu : Hid (A < u2.heap.size) := lt_of_block HA.out
  have LEu : Hid (B0 ≤ u2.heap.size) := LE
  clear hu2 hbA HA0 hA bb2
  obtain ⟨B01, B02, B03, B04, B05⟩ := five_cells HB0.out
  obtain ⟨P1, P2, P3, P4, P5⟩ := five_cells HP.out
  obtain ⟨A1, A2, A3, A4, A5⟩ := five_cells HA.out
  have cS := send_any _ a x u2 (by rw [HNa.out]; exact ka) ⟨_, rfl, SA⟩
  generalize sendE a = E at *
  generalize sendL a x = b at *
  obtain ⟨nb, hnb⟩ : ∃ n, b.sent.length = n := ⟨_, rfl⟩
  have HNb : Hid (b.sent.length = nb) := hnb
  have kb := (rightL_iff.1 HRb.out).2.2.2.2.2.2.2.2
  rw [hnb] at kb
  clear hnb cI
  go_upto_region 6 with (go_at_call 17; go_must (refine (cS).mono ?_); rintro e w4 ⟨v4, rfl, ⟨vs4, rfl, sC, nC⟩, b4⟩; clear B01 B02 B03 B04 B05 P1 P2 P3 P4 P5 A1 A2 A3 A4 A5; obtain ⟨B01, B02, B03, B04, B05⟩ := five_cells (keep (b4) HB0.out); obtain ⟨P1, P2, P3, P4, P5⟩ := five_cells (keep (b4) HP.out); obtain ⟨A1, A2, A3, A4, A5⟩ := five_cells (keep (b4) HA.out); obtain ⟨g5, c5, rfl⟩ := slice_of sC HNb.out)
  clear B01 B02 B03 B04 B05 P1 P2 P3 P4 P5 A1 A2 A3 A4 A5
  obtain ⟨C, hC⟩ : ∃ n, w4.heap.size = n := ⟨_, rfl⟩
  have hbC := box_below w4 (.cells #[.int .i64 b.own, .int .i64 b.other, .int .i64 b.first, .slice g5 nb c5, .int .i64 b.next] 24)
  have HC0 := heap_new w4 (.cells #[.int .i64 b.own, .int .i64 b.other, .int .i64 b.first, .slice g5 nb c5, .int .i64 b.next] 24)
  obtain ⟨u3, hu3⟩ : ∃ u, w4.alloc (.cells #[.int .i64 b.own, .int .i64 b.other, .int .i64 b.first, .slice g5 nb c5, .int .i64 b.next] 24) = u := ⟨_, rfl⟩
  rw [hu3] at hbC HC0
  rw [hC] at HC0 ⊢
  rw [hu3]
  have bb3 := bt (b4) hbC
  have HB0 : Hid (u3.heap[B0]? = _) := keep bb3 HB0.out
  have HP : Hid (u3.heap[P]? = _) := keep bb3 HP.out
  have HA : Hid (u3.heap[A]? = _) := keep bb3 HA.out
  have SB0 := SB0.below bb3
  have SP := SP.below bb3
  have SA := SA.below bb3
  have SC := sC.below hbC
  have NC := nC
  have qCB0 : Hid (B0 < u2.heap.size) := lB0u
  have qCP : Hid (P < u2.heap.size) := lPu
  have qCA : Hid (A < u2.heap.size) := lAu
  have HC : Hid (u3.heap[C]? = _) := HC0
  have BB : Below B0 w u3 := below_up BB LE bb3
  have LE : B0 ≤ u3.heap.size := Nat.le_trans LE bb3.size
  have lB0C : Hid (B0 < C) := (by have := lB0u.out; have := (b4).size; omega : B0 < C)
  have lPC : Hid (P < C) := (by have := lPu.out; have := (b4).size; omega : P < C)
  have lAC : Hid (A < C) := (by have := lAu.out; have := (b4).size; omega : A < C)
  have zC : Hid (B0 ≤ C) := (by rw [← hC]; exact Nat.le_trans LEu.out (b4).size : B0 ≤ C)
  have lB0u : Hid (B0 < u3.heap.size) := lt_of_block HB0.out
  have lPu : Hid (P < u3.heap.size) := lt_of_block HP.out
  have lAu : Hid (A < u3.heap.size) := lt_of_block HA.out
  have lCu : Hid (C < u3.heap.size) := lt_of_block HC.out
  have LEu : Hid (B0 ≤ u3.heap.size) := LE
  clear hu3 hbC HC0 hC bb3
  obtain ⟨B01, B02, B03, B04, B05⟩ := five_cells HB0.out
  obtain ⟨P1, P2, P3, P4, P5⟩ := five_cells HP.out
  obtain ⟨A1, A2, A3, A4, A5⟩ := five_cells HA.out
  obtain ⟨C1, C2, C3, C4, C5⟩ := five_cells HC.out
  have cO := out_any _ b u3 (by rw [HNb.out]; omega) ⟨_, rfl, SC⟩
  have eO : outL b = ⟨b.own, b.other, b.first, b.sent, b.next⟩ := rfl
  rw [eO] at cO
  clear eO cS
  go_upto_region 7 with (go_at_call 23; go_must (refine (cO).mono ?_); rintro e w5 ⟨v5, rfl, ⟨vs5, rfl, sD, nD⟩, b5⟩; clear B01 B02 B03 B04 B05 P1 P2 P3 P4 P5 A1 A2 A3 A4 A5 C1 C2 C3 C4 C5; obtain ⟨B01, B02, B03, B04, B05⟩ := five_cells (keep (b5) HB0.out); obtain ⟨P1, P2, P3, P4, P5⟩ := five_cells (keep (b5) HP.out); obtain ⟨A1, A2, A3, A4, A5⟩ := five_cells (keep (b5) HA.out); obtain ⟨C1, C2, C3, C4, C5⟩ := five_cells (keep (b5) HC.out); obtain ⟨g6, c6, rfl⟩ := slice_of sD HNb.out)
  clear B01 B02 B03 B04 B05 P1 P2 P3 P4 P5 A1 A2 A3 A4 A5 C1 C2 C3 C4 C5
  obtain ⟨D, hD⟩ : ∃ n, w5.heap.size = n := ⟨_, rfl⟩
  have hbD := box_below w5 (.cells #[.int .i64 b.own, .int .i64 b.other, .int .i64 b.first, .slice g6 nb c6, .int .i64 b.next] 26)
  have HD0 := heap_new w5 (.cells #[.int .i64 b.own, .int .i64 b.other, .int .i64 b.first, .slice g6 nb c6, .int .i64 b.next] 26)
  obtain ⟨u4, hu4⟩ : ∃ u, w5.alloc (.cells #[.int .i64 b.own, .int .i64 b.other, .int .i64 b.first, .slice g6 nb c6, .int .i64 b.next] 26) = u := ⟨_, rfl⟩
  rw [hu4] at hbD HD0
  rw [hD] at HD0 ⊢
  rw [hu4]
  have bb4 := bt (b5) hbD
  have HB0 : Hid (u4.heap[B0]? = _) := keep bb4 HB0.out
  have HP : Hid (u4.heap[P]? = _) := keep bb4 HP.out
  have HA : Hid (u4.heap[A]? = _) := keep bb4 HA.out
  have HC : Hid (u4.heap[C]? = _) := keep bb4 HC.out
  have SB0 := SB0.below bb4
  have SP := SP.below bb4
  have SA := SA.below bb4
  have SC := SC.below bb4
  have SD := sD.below hbD
  have ND := nD
  have qDB0 : Hid (B0 < u3.heap.size) := lB0u
  have qDP : Hid (P < u3.heap.size) := lPu
  have qDA : Hid (A < u3.heap.size) := lAu
  have qDC : Hid (C < u3.heap.size) := lCu
  have HD : Hid (u4.heap[D]? = _) := HD0
  have BB : Below B0 w u4 := below_up BB LE bb4
  have LE : B0 ≤ u4.heap.size := Nat.le_trans LE bb4.size
  have lB0D : Hid (B0 < D) := (by have := lB0u.out; have := (b5).size; omega : B0 < D)
  have lPD : Hid (P < D) := (by have := lPu.out; have := (b5).size; omega : P < D)
  have lAD : Hid (A < D) := (by have := lAu.out; have := (b5).size; omega : A < D)
  have lCD : Hid (C < D) := (by have := lCu.out; have := (b5).size; omega : C < D)
  have zD : Hid (B0 ≤ D) := (by rw [← hD]; exact Nat.le_trans LEu.out (b5).size : B0 ≤ D)
  have lB0u : Hid (B0 < u4.heap.size) := lt_of_block HB0.out
  have lPu : Hid (P < u4.heap.size) := lt_of_block HP.out
  have lAu : Hid (A < u4.heap.size) := lt_of_block HA.out
  have lCu : Hid (C < u4.heap.size) := lt_of_block HC.out
  have lDu : Hid (D < u4.heap.size) := lt_of_block HD.out
  have LEu : Hid (B0 ≤ u4.heap.size) := LE
  clear hu4 hbD HD0 hD bb4
  obtain ⟨B01, B02, B03, B04, B05⟩ := five_cells HB0.out
  obtain ⟨P1, P2, P3, P4, P5⟩ := five_cells HP.out
  obtain ⟨A1, A2, A3, A4, A5⟩ := five_cells HA.out
  obtain ⟨C1, C2, C3, C4, C5⟩ := five_cells HC.out
  obtain ⟨D1, D2, D3, D4, D5⟩ := five_cells HD.out
  clear cO
  have qa : decide (b.own = l.own) = true := decide_eq_true HOB.out
  have qa' : (b.own == l.own) = true := by simpa using HOB.out
  have cRa := fun (u : World) (h : Below u4.heap.size u4 u) => rrightL_any _ a u (by rw [HNa.out]; omega) ⟨_, rfl, SA.below h⟩
  have cRb := fun (u : World) (h : Below u4.heap.size u4 u) => rrightL_any _ b u (by rw [HNb.out]; omega) ⟨_, rfl, SC.below h⟩
  have cRc := fun (u : World) (h : Below u4.heap.size u4 u) => right_any _ b u (by rw [HNb.out]; omega) ⟨_, rfl, SC.below h⟩
  have cN := fun (u : World) (h : Below u4.heap.size u4 u) => ints_any _ _ b.sent b.sent u (by rw [HNb.out]; omega) (by rw [HNb.out]; omega) (SD.below h) (SC.below h)
  rw [HRa.out] at cRa
  rw [HRb.out] at cRb cRc
  rw [decide_eq_true rfl] at cN
  go_wp2_with (first | (have _ := b52; go_at_call 21; go_must (refine (cN w52 (bt (bt (bt (Below.refl _ u4) b50) b51) b52)).mono ?_); rintro e w53 ⟨rfl, b53⟩; clear B01 B02 B03 B04 B05 P1 P2 P3 P4 P5 A1 A2 A3 A4 A5 C1 C2 C3 C4 C5 D1 D2 D3 D4 D5; obtain ⟨B01, B02, B03, B04, B05⟩ := five_cells (keep ((bt (bt (bt (bt (Below.refl _ u4) b50) b51) b52) b53)) HB0.out); obtain ⟨P1, P2, P3, P4, P5⟩ := five_cells (keep ((bt (bt (bt (bt (Below.refl _ u4) b50) b51) b52) b53)) HP.out); obtain ⟨A1, A2, A3, A4, A5⟩ := five_cells (keep ((bt (bt (bt (bt (Below.refl _ u4) b50) b51) b52) b53)) HA.out); obtain ⟨C1, C2, C3, C4, C5⟩ := five_cells (keep ((bt (bt (bt (bt (Below.refl _ u4) b50) b51) b52) b53)) HC.out); obtain ⟨D1, D2, D3, D4, D5⟩ := five_cells (keep ((bt (bt (bt (bt (Below.refl _ u4) b50) b51) b52) b53)) HD.out)) | (have _ := b51; go_at_call 15; go_must (refine (cRc w51 (bt (bt (Below.refl _ u4) b50) b51)).mono ?_); rintro e w52 ⟨rfl, b52⟩; clear B01 B02 B03 B04 B05 P1 P2 P3 P4 P5 A1 A2 A3 A4 A5 C1 C2 C3 C4 C5 D1 D2 D3 D4 D5; obtain ⟨B01, B02, B03, B04, B05⟩ := five_cells (keep ((bt (bt (bt (Below.refl _ u4) b50) b51) b52)) HB0.out); obtain ⟨P1, P2, P3, P4, P5⟩ := five_cells (keep ((bt (bt (bt (Below.refl _ u4) b50) b51) b52)) HP.out); obtain ⟨A1, A2, A3, A4, A5⟩ := five_cells (keep ((bt (bt (bt (Below.refl _ u4) b50) b51) b52)) HA.out); obtain ⟨C1, C2, C3, C4, C5⟩ := five_cells (keep ((bt (bt (bt (Below.refl _ u4) b50) b51) b52)) HC.out); obtain ⟨D1, D2, D3, D4, D5⟩ := five_cells (keep ((bt (bt (bt (Below.refl _ u4) b50) b51) b52)) HD.out)) | (have _ := b50; go_at_call 13; go_must (refine (cRb w50 (bt (Below.refl _ u4) b50)).mono ?_); rintro e w51 ⟨rfl, b51⟩; clear B01 B02 B03 B04 B05 P1 P2 P3 P4 P5 A1 A2 A3 A4 A5 C1 C2 C3 C4 C5 D1 D2 D3 D4 D5; obtain ⟨B01, B02, B03, B04, B05⟩ := five_cells (keep ((bt (bt (Below.refl _ u4) b50) b51)) HB0.out); obtain ⟨P1, P2, P3, P4, P5⟩ := five_cells (keep ((bt (bt (Below.refl _ u4) b50) b51)) HP.out); obtain ⟨A1, A2, A3, A4, A5⟩ := five_cells (keep ((bt (bt (Below.refl _ u4) b50) b51)) HA.out); obtain ⟨C1, C2, C3, C4, C5⟩ := five_cells (keep ((bt (bt (Below.refl _ u4) b50) b51)) HC.out); obtain ⟨D1, D2, D3, D4, D5⟩ := five_cells (keep ((bt (bt (Below.refl _ u4) b50) b51)) HD.out)) | (go_at_call 13; go_must (refine (cRa u4 (Below.refl _ u4)).mono ?_); rintro e w50 ⟨rfl, b50⟩; clear B01 B02 B03 B04 B05 P1 P2 P3 P4 P5 A1 A2 A3 A4 A5 C1 C2 C3 C4 C5 D1 D2 D3 D4 D5; obtain ⟨B01, B02, B03, B04, B05⟩ := five_cells (keep ((bt (Below.refl _ u4) b50)) HB0.out); obtain ⟨P1, P2, P3, P4, P5⟩ := five_cells (keep ((bt (Below.refl _ u4) b50)) HP.out); obtain ⟨A1, A2, A3, A4, A5⟩ := five_cells (keep ((bt (Below.refl _ u4) b50)) HA.out); obtain ⟨C1, C2, C3, C4, C5⟩ := five_cells (keep ((bt (Below.refl _ u4) b50)) HC.out); obtain ⟨D1, D2, D3, D4, D5⟩ := five_cells (keep ((bt (Below.refl _ u4) b50)) HD.out)))
  go_ret
  exact ⟨rfl, below_up BB LE (bt (bt (bt (bt (Below.refl _ u4) b50) b51) b52) b53)⟩
end Go.Proofs.Ytbhgffbmeaomkaa.Gr
