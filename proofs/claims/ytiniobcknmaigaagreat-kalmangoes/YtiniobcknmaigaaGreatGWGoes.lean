/-
  The walk of KalmanGoes.
-/
import Derived.Test.YtiniobcknmaigaaGreatG40
import Derived.Test.YtiniobcknmaigaaGreatG35
import Derived.Test.YtiniobcknmaigaaGreatG36
import Derived.Test.YtiniobcknmaigaaGreatG25
namespace Go.Proofs.YtiniobcknmaigaaGreat
open Go.RowKit Go.Sort Qm

theorem allocs6 (w : World) (o1 o2 o3 o4 o5 o6 : Obj) : ((((((w.alloc o1).alloc o2).alloc o3).alloc o4).alloc o5).alloc o6).heap[w.heap.size + 1]? = some o2 ∧ ((((((w.alloc o1).alloc o2).alloc o3).alloc o4).alloc o5).alloc o6).heap[w.heap.size + 1 + 1]? = some o3 ∧ ((((((w.alloc o1).alloc o2).alloc o3).alloc o4).alloc o5).alloc o6).heap[w.heap.size + 1 + 1 + 1]? = some o4 ∧ ((((((w.alloc o1).alloc o2).alloc o3).alloc o4).alloc o5).alloc o6).heap[w.heap.size + 1 + 1 + 1 + 1]? = some o5 ∧ ((((((w.alloc o1).alloc o2).alloc o3).alloc o4).alloc o5).alloc o6).heap[w.heap.size + 1 + 1 + 1 + 1 + 1]? = some o6 :=
  ⟨heap_old (heap_old (allocs4 w o1 o2 o3 o4).2.1 o5) o6, heap_old (heap_old (allocs4 w o1 o2 o3 o4).2.2.1 o5) o6, heap_old (heap_old (allocs4 w o1 o2 o3 o4).2.2.2 o5) o6,
    heap_old (by have h := heap_new ((((w.alloc o1).alloc o2).alloc o3).alloc o4) o5; simpa using h) o6, by have h := heap_new (((((w.alloc o1).alloc o2).alloc o3).alloc o4).alloc o5) o6; simpa using h⟩
theorem ball6 (w : World) (o1 o2 o3 o4 o5 o6 : Obj) : Below w.heap.size w ((((((w.alloc o1).alloc o2).alloc o3).alloc o4).alloc o5).alloc o6) := bt (ball4 w o1 o2 o3 o4) (ball2 _ o5 o6)

set_option maxRecDepth 20000 in
set_option maxHeartbeats 6400000 in
theorem kalmanGoes_walk (ta ua tb ub rf cf rq cq rh ch z r g : Int) (v1 v2 v3 v4 v5 : Value) (xs ps fs qs hs : List Int) (w : World) (s1 : Sees w v1 xs) (s2 : Sees w v2 ps) (s3 : Sees w v3 fs) (s4 : Sees w v4 qs) (s5 : Sees w v5 hs) :
    Calls Tryz.prog 3 #[.agg #[.int .i64 ta, .int .i64 ua, v1, .int .i64 tb, .int .i64 ub, v2, .int .i64 rf, .int .i64 cf, v3, .int .i64 rq, .int .i64 cq, v4, .int .i64 rh, .int .i64 ch, v5, .int .i64 z, .int .i64 r, .int .i64 g]] w fun e w' => e = .returned (.bool true) ∧ Below w.heap.size w w' := by
  obtain ⟨xo, xc, rfl⟩ := s1.slice
  obtain ⟨po, pc, rfl⟩ := s2.slice
  obtain ⟨fo, fc, rfl⟩ := s3.slice
  obtain ⟨qo, qc, rfl⟩ := s4.slice
  obtain ⟨ho, hc, rfl⟩ := s5.slice
  obtain ⟨W, hW⟩ : ∃ W, (((((w.alloc (.cells #[.int .i64 ta, .int .i64 ua, .slice xo xs.length xc, .int .i64 tb, .int .i64 ub, .slice po ps.length pc, .int .i64 rf, .int .i64 cf, .slice fo fs.length fc, .int .i64 rq, .int .i64 cq, .slice qo qs.length qc, .int .i64 rh, .int .i64 ch, .slice ho hs.length hc, .int .i64 z, .int .i64 r, .int .i64 g] 30)).alloc (.cells #[.int .i64 ta, .int .i64 ua, .slice xo xs.length xc, .int .i64 tb, .int .i64 ub, .slice po ps.length pc] 26)).alloc (.cells #[.int .i64 rf, .int .i64 cf, .slice fo fs.length fc] 24)).alloc (.cells #[.int .i64 rq, .int .i64 cq, .slice qo qs.length qc] 24)).alloc (.cells #[.int .i64 rh, .int .i64 ch, .slice ho hs.length hc] 24)).alloc (.cells #[.int .i64 z, .int .i64 r, .int .i64 g] 28) = W := ⟨_, rfl⟩
  obtain ⟨y1, y2, y3, y4, y5⟩ := allocs6 w (.cells #[.int .i64 ta, .int .i64 ua, .slice xo xs.length xc, .int .i64 tb, .int .i64 ub, .slice po ps.length pc, .int .i64 rf, .int .i64 cf, .slice fo fs.length fc, .int .i64 rq, .int .i64 cq, .slice qo qs.length qc, .int .i64 rh, .int .i64 ch, .slice ho hs.length hc, .int .i64 z, .int .i64 r, .int .i64 g] 30) (.cells #[.int .i64 ta, .int .i64 ua, .slice xo xs.length xc, .int .i64 tb, .int .i64 ub, .slice po ps.length pc] 26) (.cells #[.int .i64 rf, .int .i64 cf, .slice fo fs.length fc] 24) (.cells #[.int .i64 rq, .int .i64 cq, .slice qo qs.length qc] 24) (.cells #[.int .i64 rh, .int .i64 ch, .slice ho hs.length hc] 24) (.cells #[.int .i64 z, .int .i64 r, .int .i64 g] 28)
  have bW := ball6 w (.cells #[.int .i64 ta, .int .i64 ua, .slice xo xs.length xc, .int .i64 tb, .int .i64 ub, .slice po ps.length pc, .int .i64 rf, .int .i64 cf, .slice fo fs.length fc, .int .i64 rq, .int .i64 cq, .slice qo qs.length qc, .int .i64 rh, .int .i64 ch, .slice ho hs.length hc, .int .i64 z, .int .i64 r, .int .i64 g] 30) (.cells #[.int .i64 ta, .int .i64 ua, .slice xo xs.length xc, .int .i64 tb, .int .i64 ub, .slice po ps.length pc] 26) (.cells #[.int .i64 rf, .int .i64 cf, .slice fo fs.length fc] 24) (.cells #[.int .i64 rq, .int .i64 cq, .slice qo qs.length qc] 24) (.cells #[.int .i64 rh, .int .i64 ch, .slice ho hs.length hc] 24) (.cells #[.int .i64 z, .int .i64 r, .int .i64 g] 28)
  rw [hW] at y1 y2 y3 y4 y5 bW
  have t1 := s1.below bW
  have t2 := s2.below bW
  have t3 := s3.below bW
  have t4 := s4.below bW
  have t5 := s5.below bW
  have kT := fun v hv => rright5_any ta ua tb ub _ _ xs ps v (t1.below hv) (t2.below hv)
  have kF := fun v hv => rright_any rf cf _ fs v (t3.below hv)
  have kQ := fun v hv => rright_any rq cq _ qs v (t4.below hv)
  have kH := fun v hv => rright_any rh ch _ hs v (t5.below hv)
  cases hT : trkB ta ua xs tb ub ps with
  | false =>
    rw [hT] at kT
    clear hT
    go_enter Tryz.func3, Tryz.ntmps3
    go_wp2_with (first
      | (have _ := b0; go_at_call 5; go_must (refine (kT _ b0).mono ?_); rintro e wb ⟨rfl, b1⟩; have c1 := bt b0 b1; obtain ⟨f0, f1, f2, _⟩ := mat_cells (keep c1 y2))
      | (go_at_call 4; go_must (refine (kshown_any _).mono ?_); rintro e wa ⟨rfl, b0⟩; obtain ⟨p0, p1, p2, p3, p4, p5⟩ := six_cells (keep b0 y1)))
    go_ret
    exact ⟨rfl, bt bW c1⟩
  | true =>
    cases hF : rightB rf cf fs with
    | false =>
      rw [hT] at kT
      rw [hF] at kF
      clear hT hF
      go_enter Tryz.func3, Tryz.ntmps3
      go_wp2_with (first
        | (have _ := b1; go_at_call 6; go_must (refine (kF _ c1).mono ?_); rintro e wc ⟨rfl, b2⟩; have c2 := bt c1 b2; obtain ⟨q0, q1, q2, _⟩ := mat_cells (keep c2 y3))
        | (have _ := b0; go_at_call 5; go_must (refine (kT _ b0).mono ?_); rintro e wb ⟨rfl, b1⟩; have c1 := bt b0 b1; obtain ⟨f0, f1, f2, _⟩ := mat_cells (keep c1 y2))
        | (go_at_call 4; go_must (refine (kshown_any _).mono ?_); rintro e wa ⟨rfl, b0⟩; obtain ⟨p0, p1, p2, p3, p4, p5⟩ := six_cells (keep b0 y1)))
      go_ret
      exact ⟨rfl, bt bW c2⟩
    | true =>
      cases hQ : rightB rq cq qs with
      | false =>
        rw [hT] at kT
        rw [hF] at kF
        rw [hQ] at kQ
        clear hT hF hQ
        go_enter Tryz.func3, Tryz.ntmps3
        go_wp2_with (first
          | (have _ := b2; go_at_call 6; go_must (refine (kQ _ c2).mono ?_); rintro e wd ⟨rfl, b3⟩; have c3 := bt c2 b3; obtain ⟨h0, h1, h2, _⟩ := mat_cells (keep c3 y4))
          | (have _ := b1; go_at_call 6; go_must (refine (kF _ c1).mono ?_); rintro e wc ⟨rfl, b2⟩; have c2 := bt c1 b2; obtain ⟨q0, q1, q2, _⟩ := mat_cells (keep c2 y3))
          | (have _ := b0; go_at_call 5; go_must (refine (kT _ b0).mono ?_); rintro e wb ⟨rfl, b1⟩; have c1 := bt b0 b1; obtain ⟨f0, f1, f2, _⟩ := mat_cells (keep c1 y2))
          | (go_at_call 4; go_must (refine (kshown_any _).mono ?_); rintro e wa ⟨rfl, b0⟩; obtain ⟨p0, p1, p2, p3, p4, p5⟩ := six_cells (keep b0 y1)))
        go_ret
        exact ⟨rfl, bt bW c3⟩
      | true =>
        cases hH : rightB rh ch hs with
        | false =>
          rw [hT] at kT
          rw [hF] at kF
          rw [hQ] at kQ
          rw [hH] at kH
          clear hT hF hQ hH
          go_enter Tryz.func3, Tryz.ntmps3
          go_wp2_with (first
            | (have _ := b3; go_at_call 6; go_must (refine (kH _ c3).mono ?_); rintro e we ⟨rfl, b4⟩; have c4 := bt c3 b4; obtain ⟨p0, p1, p2, p3, p4, p5⟩ := six_cells (keep c4 y1); obtain ⟨f0, f1, f2, _⟩ := mat_cells (keep c4 y2); obtain ⟨q0, q1, q2, _⟩ := mat_cells (keep c4 y3))
            | (have _ := b2; go_at_call 6; go_must (refine (kQ _ c2).mono ?_); rintro e wd ⟨rfl, b3⟩; have c3 := bt c2 b3; obtain ⟨h0, h1, h2, _⟩ := mat_cells (keep c3 y4))
            | (have _ := b1; go_at_call 6; go_must (refine (kF _ c1).mono ?_); rintro e wc ⟨rfl, b2⟩; have c2 := bt c1 b2; obtain ⟨q0, q1, q2, _⟩ := mat_cells (keep c2 y3))
            | (have _ := b0; go_at_call 5; go_must (refine (kT _ b0).mono ?_); rintro e wb ⟨rfl, b1⟩; have c1 := bt b0 b1; obtain ⟨f0, f1, f2, _⟩ := mat_cells (keep c1 y2))
            | (go_at_call 4; go_must (refine (kshown_any _).mono ?_); rintro e wa ⟨rfl, b0⟩; obtain ⟨p0, p1, p2, p3, p4, p5⟩ := six_cells (keep b0 y1)))
          go_ret
          exact ⟨rfl, bt bW c4⟩
        | true =>
          rw [hT] at kT
          rw [hF] at kF
          rw [hQ] at kQ
          rw [hH] at kH
          obtain ⟨n, rfl, rfl, rfl, rfl, n1, n8, hx, hp, ix, ip, he⟩ := trk_of hT
          obtain ⟨R, C, hRf⟩ := right_of hF
          obtain ⟨R', C', hRq⟩ := right_of hQ
          obtain ⟨R'', C'', hRh⟩ := right_of hH
          obtain ⟨pr1, pc1, pr2, pc2, pX, pP, pO, pE, l1, l2, kP, kP'⟩ := pred_goes n n1 n8 (.slice xo xs.length xc) (.slice po ps.length pc) (.slice fo fs.length fc) (.slice qo qs.length qc) xs ps fs qs hx hp rf cf rq cq R C R' C' hRf hRq
          obtain ⟨qr1, qc1, qr2, qc2, qX, qP, qt, qo', qE, l3, l4, kU, kU'⟩ := upd_goes n n1 n8 (.slice xo xs.length xc) (.slice po ps.length pc) (.slice ho hs.length hc) xs ps hs hx hp rh ch R'' C'' hRh z r g
          obtain ⟨iy, is, io, iE, kI, kI'⟩ := inn_goes n n1 n8 (.slice xo xs.length xc) (.slice po ps.length pc) (.slice ho hs.length hc) xs ps hs hx hp rh ch R'' C'' hRh z r
          have kS1 := fun va vb vc vd v sa sb sc sd => rsamet_any pr1 pc1 pr2 pc2 pr1 pc1 pr2 pc2 va vb vc vd pX pP pX pP v l1 l2 l1 l2 sa sb sc sd
          have kS2 := fun va vb vc vd v sa sb sc sd => rsamet_any qr1 qc1 qr2 qc2 qr1 qc1 qr2 qc2 va vb vc vd qX qP qX qP v l3 l4 l3 l4 sa sb sc sd
          rw [sameB_self, sameB_self] at kS1 kS2
          clear hT hF hQ hH hRf hRq hRh hx hp ix ip he l1 l2 l3 l4
          go_enter Tryz.func3, Tryz.ntmps3
          go_wp2_with (first
            | (have _ := b11; go_at_call 13; go_must (refine (kS2 _ _ _ _ _ (u3.below b11) (w3.below b11) (u4.below b11) (w4.below b11)).mono ?_); rintro e wm ⟨rfl, b12⟩)
            | (have _ := b10; go_at_call 13; go_must (refine (kS1 _ _ _ _ _ u1 w1 u2 w2).mono ?_); rintro e wl ⟨rfl, b11⟩; have c11 := bt (bt c9 b10) b11; obtain ⟨l0, l1, l2, l3, l4, l5⟩ := six_cells (keep b11 hh3); obtain ⟨m0, m1, m2, m3, m4, m5⟩ := six_cells (keep b11 hh4))
            | (have _ := b9; go_at_call 12; go_must (refine (kI' _ (t1.below c9) (t2.below c9) (t5.below c9)).mono ?_); rintro e wk ⟨rfl, b10⟩; have d10 := bt b9 b10; have hh1 := keep d10 hh1; have hh2 := keep d10 hh2; have hh3 := keep d10 hh3; have hh4 := keep d10 hh4; have u1 := u1.below d10; have w1 := w1.below d10; have u2 := u2.below d10; have w2 := w2.below d10; have u3 := u3.below d10; have w3 := w3.below d10; have u4 := u4.below d10; have w4 := w4.below d10; obtain ⟨l0, l1, l2, l3, l4, l5⟩ := six_cells hh1; obtain ⟨m0, m1, m2, m3, m4, m5⟩ := six_cells hh2)
            | (have _ := b8; go_at_call 11; go_must (refine (kI _ (t1.below c8) (t2.below c8) (t5.below c8)).mono ?_); rintro e wj ⟨rfl, b9⟩; have c9 := bt c8 b9; obtain ⟨p0, p1, p2, p3, p4, p5⟩ := six_cells (keep c9 y1); obtain ⟨h0, h1, h2, _⟩ := mat_cells (keep c9 y4); obtain ⟨k0, k1, k2, _⟩ := mat_cells (keep c9 y5))
            | (have _ := b7; go_at_call 10; go_must (refine (kU' _ (t1.below c7) (t2.below c7) (t5.below c7)).mono ?_); rintro e wi ⟨xo4, xc4, po4, pk4, rfl, u4, w4, b8⟩; have d8 := bt b8 (box_below wi (.cells #[.int .i64 qr1, .int .i64 qc1, .slice xo4 qX.length xc4, .int .i64 qr2, .int .i64 qc2, .slice po4 qP.length pk4] 26)); have c8 := bt c7 d8; have hh1 := keep d8 hh1; have hh2 := keep d8 hh2; have hh3 := keep d8 hh3; have hh4 := heap_new wi (.cells #[.int .i64 qr1, .int .i64 qc1, .slice xo4 qX.length xc4, .int .i64 qr2, .int .i64 qc2, .slice po4 qP.length pk4] 26); have u1 := u1.below d8; have w1 := w1.below d8; have u2 := u2.below d8; have w2 := w2.below d8; have u3 := u3.below d8; have w3 := w3.below d8; have u4 := u4.alloc (.cells #[.int .i64 qr1, .int .i64 qc1, .slice xo4 qX.length xc4, .int .i64 qr2, .int .i64 qc2, .slice po4 qP.length pk4] 26); have w4 := w4.alloc (.cells #[.int .i64 qr1, .int .i64 qc1, .slice xo4 qX.length xc4, .int .i64 qr2, .int .i64 qc2, .slice po4 qP.length pk4] 26); obtain ⟨p0, p1, p2, p3, p4, p5⟩ := six_cells (keep c8 y1); obtain ⟨h0, h1, h2, _⟩ := mat_cells (keep c8 y4); obtain ⟨k0, k1, k2, _⟩ := mat_cells (keep c8 y5))
            | (have _ := b6; go_at_call 9; go_must (refine (kU _ (t1.below c6) (t2.below c6) (t5.below c6)).mono ?_); rintro e wh ⟨xo3, xc3, po3, pk3, rfl, u3, w3, b7⟩; have d7 := bt b7 (box_below wh (.cells #[.int .i64 qr1, .int .i64 qc1, .slice xo3 qX.length xc3, .int .i64 qr2, .int .i64 qc2, .slice po3 qP.length pk3] 26)); have c7 := bt c6 d7; have hh1 := keep d7 hh1; have hh2 := keep d7 hh2; have hh3 := heap_new wh (.cells #[.int .i64 qr1, .int .i64 qc1, .slice xo3 qX.length xc3, .int .i64 qr2, .int .i64 qc2, .slice po3 qP.length pk3] 26); have u1 := u1.below d7; have w1 := w1.below d7; have u2 := u2.below d7; have w2 := w2.below d7; have u3 := u3.alloc (.cells #[.int .i64 qr1, .int .i64 qc1, .slice xo3 qX.length xc3, .int .i64 qr2, .int .i64 qc2, .slice po3 qP.length pk3] 26); have w3 := w3.alloc (.cells #[.int .i64 qr1, .int .i64 qc1, .slice xo3 qX.length xc3, .int .i64 qr2, .int .i64 qc2, .slice po3 qP.length pk3] 26); obtain ⟨p0, p1, p2, p3, p4, p5⟩ := six_cells (keep c7 y1); obtain ⟨h0, h1, h2, _⟩ := mat_cells (keep c7 y4); obtain ⟨k0, k1, k2, _⟩ := mat_cells (keep c7 y5))
            | (have _ := b5; go_at_call 8; go_must (refine (kP' _ (t1.below c5) (t2.below c5) (t3.below c5) (t4.below c5)).mono ?_); rintro e wg ⟨xo2, xc2, po2, pk2, rfl, u2, w2, b6⟩; have d6 := bt b6 (box_below wg (.cells #[.int .i64 pr1, .int .i64 pc1, .slice xo2 pX.length xc2, .int .i64 pr2, .int .i64 pc2, .slice po2 pP.length pk2] 26)); have c6 := bt c5 d6; have hh1 := keep d6 hh1; have hh2 := heap_new wg (.cells #[.int .i64 pr1, .int .i64 pc1, .slice xo2 pX.length xc2, .int .i64 pr2, .int .i64 pc2, .slice po2 pP.length pk2] 26); have u1 := u1.below d6; have w1 := w1.below d6; have u2 := u2.alloc (.cells #[.int .i64 pr1, .int .i64 pc1, .slice xo2 pX.length xc2, .int .i64 pr2, .int .i64 pc2, .slice po2 pP.length pk2] 26); have w2 := w2.alloc (.cells #[.int .i64 pr1, .int .i64 pc1, .slice xo2 pX.length xc2, .int .i64 pr2, .int .i64 pc2, .slice po2 pP.length pk2] 26); obtain ⟨p0, p1, p2, p3, p4, p5⟩ := six_cells (keep c6 y1); obtain ⟨h0, h1, h2, _⟩ := mat_cells (keep c6 y4); obtain ⟨k0, k1, k2, _⟩ := mat_cells (keep c6 y5))
            | (have _ := b4; go_at_call 7; go_must (refine (kP _ (t1.below c4) (t2.below c4) (t3.below c4) (t4.below c4)).mono ?_); rintro e wf ⟨xo1, xc1, po1, pk1, rfl, u1, w1, b5⟩; have c5 := bt c4 (bt b5 (box_below wf (.cells #[.int .i64 pr1, .int .i64 pc1, .slice xo1 pX.length xc1, .int .i64 pr2, .int .i64 pc2, .slice po1 pP.length pk1] 26))); have hh1 := heap_new wf (.cells #[.int .i64 pr1, .int .i64 pc1, .slice xo1 pX.length xc1, .int .i64 pr2, .int .i64 pc2, .slice po1 pP.length pk1] 26); have u1 := u1.alloc (.cells #[.int .i64 pr1, .int .i64 pc1, .slice xo1 pX.length xc1, .int .i64 pr2, .int .i64 pc2, .slice po1 pP.length pk1] 26); have w1 := w1.alloc (.cells #[.int .i64 pr1, .int .i64 pc1, .slice xo1 pX.length xc1, .int .i64 pr2, .int .i64 pc2, .slice po1 pP.length pk1] 26); obtain ⟨p0, p1, p2, p3, p4, p5⟩ := six_cells (keep c5 y1); obtain ⟨f0, f1, f2, _⟩ := mat_cells (keep c5 y2); obtain ⟨q0, q1, q2, _⟩ := mat_cells (keep c5 y3))
            | (have _ := b3; go_at_call 6; go_must (refine (kH _ c3).mono ?_); rintro e we ⟨rfl, b4⟩; have c4 := bt c3 b4; obtain ⟨p0, p1, p2, p3, p4, p5⟩ := six_cells (keep c4 y1); obtain ⟨f0, f1, f2, _⟩ := mat_cells (keep c4 y2); obtain ⟨q0, q1, q2, _⟩ := mat_cells (keep c4 y3))
            | (have _ := b2; go_at_call 6; go_must (refine (kQ _ c2).mono ?_); rintro e wd ⟨rfl, b3⟩; have c3 := bt c2 b3; obtain ⟨h0, h1, h2, _⟩ := mat_cells (keep c3 y4))
            | (have _ := b1; go_at_call 6; go_must (refine (kF _ c1).mono ?_); rintro e wc ⟨rfl, b2⟩; have c2 := bt c1 b2; obtain ⟨q0, q1, q2, _⟩ := mat_cells (keep c2 y3))
            | (have _ := b0; go_at_call 5; go_must (refine (kT _ b0).mono ?_); rintro e wb ⟨rfl, b1⟩; have c1 := bt b0 b1; obtain ⟨f0, f1, f2, _⟩ := mat_cells (keep c1 y2))
            | (go_at_call 4; go_must (refine (kshown_any _).mono ?_); rintro e wa ⟨rfl, b0⟩; obtain ⟨p0, p1, p2, p3, p4, p5⟩ := six_cells (keep b0 y1)))
          go_ret
          exact ⟨rfl, bt bW (bt c11 b12)⟩
end Go.Proofs.YtiniobcknmaigaaGreat
