/-
  The walk of KalmanStays.
-/
import Derived.Test.YtiniobcknmaigaaGKAll
import Derived.Test.YtiniobcknmaigaaG35
import Derived.Test.YtiniobcknmaigaaG36
import Derived.Test.YtiniobcknmaigaaG30
namespace Go.Proofs.Ytiniobcknmaigaa
open Go.RowKit Go.Sort Qm

theorem allocs6 (w : World) (o1 o2 o3 o4 o5 o6 : Obj) : ((((((w.alloc o1).alloc o2).alloc o3).alloc o4).alloc o5).alloc o6).heap[w.heap.size + 1]? = some o2 ∧ ((((((w.alloc o1).alloc o2).alloc o3).alloc o4).alloc o5).alloc o6).heap[w.heap.size + 1 + 1]? = some o3 ∧ ((((((w.alloc o1).alloc o2).alloc o3).alloc o4).alloc o5).alloc o6).heap[w.heap.size + 1 + 1 + 1]? = some o4 ∧ ((((((w.alloc o1).alloc o2).alloc o3).alloc o4).alloc o5).alloc o6).heap[w.heap.size + 1 + 1 + 1 + 1]? = some o5 ∧ ((((((w.alloc o1).alloc o2).alloc o3).alloc o4).alloc o5).alloc o6).heap[w.heap.size + 1 + 1 + 1 + 1 + 1]? = some o6 :=
  ⟨heap_old (heap_old (allocs4 w o1 o2 o3 o4).2.1 o5) o6, heap_old (heap_old (allocs4 w o1 o2 o3 o4).2.2.1 o5) o6, heap_old (heap_old (allocs4 w o1 o2 o3 o4).2.2.2 o5) o6,
    heap_old (by have h := heap_new ((((w.alloc o1).alloc o2).alloc o3).alloc o4) o5; simpa using h) o6, by have h := heap_new (((((w.alloc o1).alloc o2).alloc o3).alloc o4).alloc o5) o6; simpa using h⟩
theorem ball6 (w : World) (o1 o2 o3 o4 o5 o6 : Obj) : Below w.heap.size w ((((((w.alloc o1).alloc o2).alloc o3).alloc o4).alloc o5).alloc o6) := bt (ball4 w o1 o2 o3 o4) (ball2 _ o5 o6)

set_option maxRecDepth 20000 in
set_option maxHeartbeats 6400000 in
theorem kalmanStays_walk (ta ua tb ub rf cf rq cq rh ch z r g : Int) (v1 v2 v3 v4 v5 : Value) (xs ps fs qs hs : List Int) (w : World) (s1 : Sees w v1 xs) (s2 : Sees w v2 ps) (s3 : Sees w v3 fs) (s4 : Sees w v4 qs) (s5 : Sees w v5 hs) :
    Calls Try.prog 4 #[.agg #[.int .i64 ta, .int .i64 ua, v1, .int .i64 tb, .int .i64 ub, v2, .int .i64 rf, .int .i64 cf, v3, .int .i64 rq, .int .i64 cq, v4, .int .i64 rh, .int .i64 ch, v5, .int .i64 z, .int .i64 r, .int .i64 g]] w fun e w' => e = .returned (.bool true) ∧ Below w.heap.size w w' := by
  obtain ⟨xo, xc, rfl⟩ := s1.slice
  obtain ⟨po, pc, rfl⟩ := s2.slice
  obtain ⟨fo, fc, rfl⟩ := s3.slice
  obtain ⟨qo, qc, rfl⟩ := s4.slice
  obtain ⟨ho, hc, rfl⟩ := s5.slice
  obtain ⟨W, hW⟩ : ∃ W, (((((w.alloc (.cells #[.int .i64 ta, .int .i64 ua, .slice xo xs.length xc, .int .i64 tb, .int .i64 ub, .slice po ps.length pc, .int .i64 rf, .int .i64 cf, .slice fo fs.length fc, .int .i64 rq, .int .i64 cq, .slice qo qs.length qc, .int .i64 rh, .int .i64 ch, .slice ho hs.length hc, .int .i64 z, .int .i64 r, .int .i64 g] 44)).alloc (.cells #[.int .i64 ta, .int .i64 ua, .slice xo xs.length xc, .int .i64 tb, .int .i64 ub, .slice po ps.length pc] 26)).alloc (.cells #[.int .i64 rf, .int .i64 cf, .slice fo fs.length fc] 24)).alloc (.cells #[.int .i64 rq, .int .i64 cq, .slice qo qs.length qc] 24)).alloc (.cells #[.int .i64 rh, .int .i64 ch, .slice ho hs.length hc] 24)).alloc (.cells #[.int .i64 z, .int .i64 r, .int .i64 g] 42) = W := ⟨_, rfl⟩
  obtain ⟨y1, y2, y3, y4, y5⟩ := allocs6 w (.cells #[.int .i64 ta, .int .i64 ua, .slice xo xs.length xc, .int .i64 tb, .int .i64 ub, .slice po ps.length pc, .int .i64 rf, .int .i64 cf, .slice fo fs.length fc, .int .i64 rq, .int .i64 cq, .slice qo qs.length qc, .int .i64 rh, .int .i64 ch, .slice ho hs.length hc, .int .i64 z, .int .i64 r, .int .i64 g] 44) (.cells #[.int .i64 ta, .int .i64 ua, .slice xo xs.length xc, .int .i64 tb, .int .i64 ub, .slice po ps.length pc] 26) (.cells #[.int .i64 rf, .int .i64 cf, .slice fo fs.length fc] 24) (.cells #[.int .i64 rq, .int .i64 cq, .slice qo qs.length qc] 24) (.cells #[.int .i64 rh, .int .i64 ch, .slice ho hs.length hc] 24) (.cells #[.int .i64 z, .int .i64 r, .int .i64 g] 42)
  have bW := ball6 w (.cells #[.int .i64 ta, .int .i64 ua, .slice xo xs.length xc, .int .i64 tb, .int .i64 ub, .slice po ps.length pc, .int .i64 rf, .int .i64 cf, .slice fo fs.length fc, .int .i64 rq, .int .i64 cq, .slice qo qs.length qc, .int .i64 rh, .int .i64 ch, .slice ho hs.length hc, .int .i64 z, .int .i64 r, .int .i64 g] 44) (.cells #[.int .i64 ta, .int .i64 ua, .slice xo xs.length xc, .int .i64 tb, .int .i64 ub, .slice po ps.length pc] 26) (.cells #[.int .i64 rf, .int .i64 cf, .slice fo fs.length fc] 24) (.cells #[.int .i64 rq, .int .i64 cq, .slice qo qs.length qc] 24) (.cells #[.int .i64 rh, .int .i64 ch, .slice ho hs.length hc] 24) (.cells #[.int .i64 z, .int .i64 r, .int .i64 g] 42)
  rw [hW] at y1 y2 y3 y4 y5 bW
  have t1 := s1.below bW
  have t2 := s2.below bW
  have t3 := s3.below bW
  have t4 := s4.below bW
  have t5 := s5.below bW
  have kT := fun v hv => rright5_any ta ua tb ub _ _ xs ps v (t1.below hv) (t2.below hv)
  have kF := fun v hv => rright_any rf cf _ fs v (t3.below hv)
  have kQ := fun v hv => rright_any rq cq _ qs v (t4.below hv)
  have kH := fun v hv => rright_any rh ch _ hs v (t5.below hv)
  cases hT : trkB ta ua xs tb ub ps with
  | false =>
    rw [hT] at kT
    clear hT
    go_enter Try.func4, Try.ntmps4
    go_wp2_with (first
      | (have _ := b0; go_at_call 13; refine (kT _ b0).mono ?_; rintro e wb ⟨rfl, b1⟩; obtain ⟨f0, f1, f2, _⟩ := mat_cells (keep (bt b0 b1) y2))
      | (go_at_call 10; go_must (refine (kshown_any _).mono ?_); rintro e wa ⟨rfl, b0⟩; obtain ⟨p0, p1, p2, p3, p4, p5⟩ := six_cells (keep b0 y1)))
    go_ret
    exact ⟨rfl, bt bW (bt b0 b1)⟩
  | true =>
    cases hF : rightB rf cf fs with
    | false =>
      rw [hT] at kT
      rw [hF] at kF
      clear hT hF
      go_enter Try.func4, Try.ntmps4
      go_wp2_with (first
        | (have _ := b1; go_at_call 16; go_must (refine (kF _ (bt b0 b1)).mono ?_); rintro e wc ⟨rfl, b2⟩; obtain ⟨q0, q1, q2, _⟩ := mat_cells (keep (bt (bt b0 b1) b2) y3))
        | (have _ := b0; go_at_call 13; refine (kT _ b0).mono ?_; rintro e wb ⟨rfl, b1⟩; obtain ⟨f0, f1, f2, _⟩ := mat_cells (keep (bt b0 b1) y2))
        | (go_at_call 10; go_must (refine (kshown_any _).mono ?_); rintro e wa ⟨rfl, b0⟩; obtain ⟨p0, p1, p2, p3, p4, p5⟩ := six_cells (keep b0 y1)))
      go_ret
      exact ⟨rfl, bt bW (bt (bt b0 b1) b2)⟩
    | true =>
      cases hQ : rightB rq cq qs with
      | false =>
        rw [hT] at kT
        rw [hF] at kF
        rw [hQ] at kQ
        clear hT hF hQ
        go_enter Try.func4, Try.ntmps4
        go_wp2_with (first
          | (have _ := b2; go_at_call 16; go_must (refine (kQ _ (bt (bt b0 b1) b2)).mono ?_); rintro e wd ⟨rfl, b3⟩; obtain ⟨h0, h1, h2, _⟩ := mat_cells (keep (bt (bt (bt b0 b1) b2) b3) y4))
          | (have _ := b1; go_at_call 16; go_must (refine (kF _ (bt b0 b1)).mono ?_); rintro e wc ⟨rfl, b2⟩; obtain ⟨q0, q1, q2, _⟩ := mat_cells (keep (bt (bt b0 b1) b2) y3))
          | (have _ := b0; go_at_call 13; refine (kT _ b0).mono ?_; rintro e wb ⟨rfl, b1⟩; obtain ⟨f0, f1, f2, _⟩ := mat_cells (keep (bt b0 b1) y2))
          | (go_at_call 10; go_must (refine (kshown_any _).mono ?_); rintro e wa ⟨rfl, b0⟩; obtain ⟨p0, p1, p2, p3, p4, p5⟩ := six_cells (keep b0 y1)))
        go_ret
        exact ⟨rfl, bt bW (bt (bt (bt b0 b1) b2) b3)⟩
      | true =>
        cases hH : rightB rh ch hs with
        | false =>
          rw [hT] at kT
          rw [hF] at kF
          rw [hQ] at kQ
          rw [hH] at kH
          clear hT hF hQ hH
          go_enter Try.func4, Try.ntmps4
          go_wp2_with (first
            | (have _ := b3; go_at_call 16; go_must (refine (kH _ (bt (bt (bt b0 b1) b2) b3)).mono ?_); rintro e we ⟨rfl, b4⟩; have bb := bt (bt (bt (bt b0 b1) b2) b3) b4; obtain ⟨tp0, tp1, tp2, tp3, tp4, tp5⟩ := six_cells (keep bb y1); obtain ⟨tf0, tf1, tf2, _⟩ := mat_cells (keep bb y2); obtain ⟨tq0, tq1, tq2, _⟩ := mat_cells (keep bb y3))
            | (have _ := b2; go_at_call 16; go_must (refine (kQ _ (bt (bt b0 b1) b2)).mono ?_); rintro e wd ⟨rfl, b3⟩; obtain ⟨h0, h1, h2, _⟩ := mat_cells (keep (bt (bt (bt b0 b1) b2) b3) y4))
            | (have _ := b1; go_at_call 16; go_must (refine (kF _ (bt b0 b1)).mono ?_); rintro e wc ⟨rfl, b2⟩; obtain ⟨q0, q1, q2, _⟩ := mat_cells (keep (bt (bt b0 b1) b2) y3))
            | (have _ := b0; go_at_call 13; refine (kT _ b0).mono ?_; rintro e wb ⟨rfl, b1⟩; obtain ⟨f0, f1, f2, _⟩ := mat_cells (keep (bt b0 b1) y2))
            | (go_at_call 10; go_must (refine (kshown_any _).mono ?_); rintro e wa ⟨rfl, b0⟩; obtain ⟨p0, p1, p2, p3, p4, p5⟩ := six_cells (keep b0 y1)))
          go_ret
          exact ⟨rfl, bt bW (bt (bt (bt (bt b0 b1) b2) b3) b4)⟩
        | true =>
          rw [hT] at kT
          rw [hF] at kF
          rw [hQ] at kQ
          rw [hH] at kH
          obtain ⟨n, rfl, rfl, rfl, rfl, n1, n8, hx, hp, ix, ip, he⟩ := trk_of hT
          obtain ⟨R, C, hRf⟩ := right_of hF
          obtain ⟨R', C', hRq⟩ := right_of hQ
          obtain ⟨R'', C'', hRh⟩ := right_of hH
          obtain ⟨E, kP⟩ := pred_all n n1 n8 (.slice xo xs.length xc) (.slice po ps.length pc) (.slice fo fs.length fc) (.slice qo qs.length qc) xs ps fs qs hx hp rf cf rq cq R C R' C' hRf hRq
          obtain ⟨G, tk, kU⟩ := upd_all n n1 n8 (.slice xo xs.length xc) (.slice po ps.length pc) (.slice ho hs.length hc) xs ps hs hx hp ix ip he rh ch R'' C'' hRh z r g
          have lx : xs.length ≤ 100 := by omega
          have lp : ps.length ≤ 100 := by have := mul_le_64 n8 n8; omega
          have kK := fun v sa sb => kright_any n 1 n n (.slice xo xs.length xc) (.slice po ps.length pc) xs ps lx lp v sa sb
          have hT' : trkB n 1 xs n n ps = true := hT
          rw [hT'] at kK
          clear hT hT' hF hQ hH hRf hRq hRh hx hp ix ip he
          by_cases hE : E = 0
          · subst hE
            by_cases hG : G = 0
            · subst hG
              cases tk
              · skip
                go_enter Try.func4, Try.ntmps4
                go_wp2_with (first
                  | (have _ := nn3; go_at_call 15; go_must (refine (kK _ (t1.below (bt bd (bt (bt (nn1) nn2) nn3))) (t2.below (bt bd (bt (bt (nn1) nn2) nn3)))).mono ?_); rintro e wx4 ⟨rfl, nn4⟩; obtain ⟨l0, l1, l2, l3, l4, l5⟩ := six_cells (keep (bt (bt (bt (nn1) nn2) nn3) nn4) h9); obtain ⟨m0, m1, m2, m3, m4, m5⟩ := six_cells (keep (bt (bt (bt (nn1) nn2) nn3) nn4) h12); obtain ⟨o0, o1, o2, o3, o4, o5⟩ := six_cells (keep (bt bd (bt (bt (bt (nn1) nn2) nn3) nn4)) y1))
                  | (have _ := nn2; go_at_call 14; go_must (have l3 : xs2.length ≤ 100 := (by obtain ⟨n', _, _, _, _, _, m8, e1', _, _⟩ := trk_of (hk2 (by simp)); omega); have l4 : ps2.length ≤ 100 := (by obtain ⟨n', _, _, _, _, _, m8, _, e2', _⟩ := trk_of (hk2 (by simp)); have := mul_le_64 m8 m8; omega); have kC := fun v sa sb sc sd => rsamet_any r3 c3 r4 c4 n 1 n n (.slice xo2 xs2.length xc2) (.slice po2 ps2.length pc2) (.slice xo xs.length xc) (.slice po ps.length pc) xs2 ps2 xs ps v l3 l4 lx lp sa sb sc sd; rw [hk3 (by simp) (by simp)] at kC; clear l3 l4; refine (kC _ (z3.below (bt (nn1) nn2)) (z4.below (bt (nn1) nn2)) (t1.below (bt bd (bt (nn1) nn2))) (t2.below (bt bd (bt (nn1) nn2)))).mono ?_); rintro e wx3 ⟨rfl, nn3⟩; obtain ⟨l0, l1, l2, l3, l4, l5⟩ := six_cells (keep (bt (bt (nn1) nn2) nn3) h9); obtain ⟨m0, m1, m2, m3, m4, m5⟩ := six_cells (keep (bt (bt (nn1) nn2) nn3) h12); obtain ⟨o0, o1, o2, o3, o4, o5⟩ := six_cells (keep (bt bd (bt (bt (nn1) nn2) nn3)) y1))
                  | (have _ := nn1; go_at_call 13; go_must (have kB := fun v sa sb => rright5_any r3 c3 r4 c4 (.slice xo2 xs2.length xc2) (.slice po2 ps2.length pc2) xs2 ps2 v sa sb; rw [hk2 (by simp)] at kB; refine (kB _ (z3.below (nn1)) (z4.below (nn1))).mono ?_); rintro e wx2 ⟨rfl, nn2⟩; obtain ⟨l0, l1, l2, l3, l4, l5⟩ := six_cells (keep (bt (nn1) nn2) h9); obtain ⟨m0, m1, m2, m3, m4, m5⟩ := six_cells (keep (bt (nn1) nn2) h12); obtain ⟨o0, o1, o2, o3, o4, o5⟩ := six_cells (keep (bt bd (bt (nn1) nn2)) y1))
                  | (have _ := b6; go_at_call 13; go_must (have kA := fun v sa sb => rright5_any r1 c1 r2 c2 (.slice xo' xs'.length xc') (.slice po' ps'.length pc') xs' ps' v sa sb; rw [hk1 (by simp)] at kA; refine (kA _ z1 z2).mono ?_); rintro e wx1 ⟨rfl, nn1⟩; obtain ⟨l0, l1, l2, l3, l4, l5⟩ := six_cells (keep (nn1) h9); obtain ⟨m0, m1, m2, m3, m4, m5⟩ := six_cells (keep (nn1) h12); obtain ⟨o0, o1, o2, o3, o4, o5⟩ := six_cells (keep (bt bd (nn1)) y1))
                  | (have _ := b5; go_at_call 22; go_must (refine (kU _ (t1.below bc) (t2.below bc) (t5.below bc)).mono ?_); rintro e wg ⟨r3, c3, r4, c4, xo2, xc2, po2, pc2, xs2, ps2, od2, rfl, u3, u4, hk2, hk3, b6⟩; have b67 := bt b6 (box_below wg (.cells #[.int .i64 r3, .int .i64 c3, .slice xo2 xs2.length xc2, .int .i64 r4, .int .i64 c4, .slice po2 ps2.length pc2] 26)); have bd := bt bc b67; have h9 := keep b67 (heap_new wf (.cells #[.int .i64 r1, .int .i64 c1, .slice xo' xs'.length xc', .int .i64 r2, .int .i64 c2, .slice po' ps'.length pc'] 26)); have h12 := heap_new wg (.cells #[.int .i64 r3, .int .i64 c3, .slice xo2 xs2.length xc2, .int .i64 r4, .int .i64 c4, .slice po2 ps2.length pc2] 26); have z1 := (u1.alloc (.cells #[.int .i64 r1, .int .i64 c1, .slice xo' xs'.length xc', .int .i64 r2, .int .i64 c2, .slice po' ps'.length pc'] 26)).below b67; have z2 := (u2.alloc (.cells #[.int .i64 r1, .int .i64 c1, .slice xo' xs'.length xc', .int .i64 r2, .int .i64 c2, .slice po' ps'.length pc'] 26)).below b67; have z3 := u3.alloc (.cells #[.int .i64 r3, .int .i64 c3, .slice xo2 xs2.length xc2, .int .i64 r4, .int .i64 c4, .slice po2 ps2.length pc2] 26); have z4 := u4.alloc (.cells #[.int .i64 r3, .int .i64 c3, .slice xo2 xs2.length xc2, .int .i64 r4, .int .i64 c4, .slice po2 ps2.length pc2] 26); obtain ⟨l0, l1, l2, l3, l4, l5⟩ := six_cells h9; obtain ⟨m0, m1, m2, m3, m4, m5⟩ := six_cells h12; obtain ⟨o0, o1, o2, o3, o4, o5⟩ := six_cells (keep bd y1))
                  | (have _ := b4; go_at_call 21; go_must (refine (kP _ (t1.below bb) (t2.below bb) (t3.below bb) (t4.below bb)).mono ?_); rintro e wf ⟨r1, c1, r2, c2, xo', xc', po', pc', xs', ps', od, rfl, u1, u2, hk1, b5⟩; have bc := bt bb (bt b5 (box_below wf (.cells #[.int .i64 r1, .int .i64 c1, .slice xo' xs'.length xc', .int .i64 r2, .int .i64 c2, .slice po' ps'.length pc'] 26))); obtain ⟨i0, i1, i2, i3, i4, i5⟩ := six_cells (keep bc y1); obtain ⟨j0, j1, j2, _⟩ := mat_cells (keep bc y4); obtain ⟨k0, k1, k2, _⟩ := mat_cells (keep bc y5))
                  | (have _ := b3; go_at_call 16; go_must (refine (kH _ (bt (bt (bt b0 b1) b2) b3)).mono ?_); rintro e we ⟨rfl, b4⟩; have bb := bt (bt (bt (bt b0 b1) b2) b3) b4; obtain ⟨tp0, tp1, tp2, tp3, tp4, tp5⟩ := six_cells (keep bb y1); obtain ⟨tf0, tf1, tf2, _⟩ := mat_cells (keep bb y2); obtain ⟨tq0, tq1, tq2, _⟩ := mat_cells (keep bb y3))
                  | (have _ := b2; go_at_call 16; go_must (refine (kQ _ (bt (bt b0 b1) b2)).mono ?_); rintro e wd ⟨rfl, b3⟩; obtain ⟨h0, h1, h2, _⟩ := mat_cells (keep (bt (bt (bt b0 b1) b2) b3) y4))
                  | (have _ := b1; go_at_call 16; go_must (refine (kF _ (bt b0 b1)).mono ?_); rintro e wc ⟨rfl, b2⟩; obtain ⟨q0, q1, q2, _⟩ := mat_cells (keep (bt (bt b0 b1) b2) y3))
                  | (have _ := b0; go_at_call 13; refine (kT _ b0).mono ?_; rintro e wb ⟨rfl, b1⟩; obtain ⟨f0, f1, f2, _⟩ := mat_cells (keep (bt b0 b1) y2))
                  | (go_at_call 10; go_must (refine (kshown_any _).mono ?_); rintro e wa ⟨rfl, b0⟩; obtain ⟨p0, p1, p2, p3, p4, p5⟩ := six_cells (keep b0 y1)))
                go_ret
                exact ⟨rfl, bt bW (bt bd (bt (bt (bt (nn1) nn2) nn3) nn4))⟩
              · skip
                go_enter Try.func4, Try.ntmps4
                go_wp2_with (first
                  | (have _ := nn2; go_at_call 15; go_must (refine (kK _ (t1.below (bt bd (bt (nn1) nn2))) (t2.below (bt bd (bt (nn1) nn2)))).mono ?_); rintro e wx3 ⟨rfl, nn3⟩; obtain ⟨l0, l1, l2, l3, l4, l5⟩ := six_cells (keep (bt (bt (nn1) nn2) nn3) h9); obtain ⟨m0, m1, m2, m3, m4, m5⟩ := six_cells (keep (bt (bt (nn1) nn2) nn3) h12); obtain ⟨o0, o1, o2, o3, o4, o5⟩ := six_cells (keep (bt bd (bt (bt (nn1) nn2) nn3)) y1))
                  | (have _ := nn1; go_at_call 13; go_must (have kB := fun v sa sb => rright5_any r3 c3 r4 c4 (.slice xo2 xs2.length xc2) (.slice po2 ps2.length pc2) xs2 ps2 v sa sb; rw [hk2 (by simp)] at kB; refine (kB _ (z3.below (nn1)) (z4.below (nn1))).mono ?_); rintro e wx2 ⟨rfl, nn2⟩; obtain ⟨l0, l1, l2, l3, l4, l5⟩ := six_cells (keep (bt (nn1) nn2) h9); obtain ⟨m0, m1, m2, m3, m4, m5⟩ := six_cells (keep (bt (nn1) nn2) h12); obtain ⟨o0, o1, o2, o3, o4, o5⟩ := six_cells (keep (bt bd (bt (nn1) nn2)) y1))
                  | (have _ := b6; go_at_call 13; go_must (have kA := fun v sa sb => rright5_any r1 c1 r2 c2 (.slice xo' xs'.length xc') (.slice po' ps'.length pc') xs' ps' v sa sb; rw [hk1 (by simp)] at kA; refine (kA _ z1 z2).mono ?_); rintro e wx1 ⟨rfl, nn1⟩; obtain ⟨l0, l1, l2, l3, l4, l5⟩ := six_cells (keep (nn1) h9); obtain ⟨m0, m1, m2, m3, m4, m5⟩ := six_cells (keep (nn1) h12); obtain ⟨o0, o1, o2, o3, o4, o5⟩ := six_cells (keep (bt bd (nn1)) y1))
                  | (have _ := b5; go_at_call 22; go_must (refine (kU _ (t1.below bc) (t2.below bc) (t5.below bc)).mono ?_); rintro e wg ⟨r3, c3, r4, c4, xo2, xc2, po2, pc2, xs2, ps2, od2, rfl, u3, u4, hk2, hk3, b6⟩; have b67 := bt b6 (box_below wg (.cells #[.int .i64 r3, .int .i64 c3, .slice xo2 xs2.length xc2, .int .i64 r4, .int .i64 c4, .slice po2 ps2.length pc2] 26)); have bd := bt bc b67; have h9 := keep b67 (heap_new wf (.cells #[.int .i64 r1, .int .i64 c1, .slice xo' xs'.length xc', .int .i64 r2, .int .i64 c2, .slice po' ps'.length pc'] 26)); have h12 := heap_new wg (.cells #[.int .i64 r3, .int .i64 c3, .slice xo2 xs2.length xc2, .int .i64 r4, .int .i64 c4, .slice po2 ps2.length pc2] 26); have z1 := (u1.alloc (.cells #[.int .i64 r1, .int .i64 c1, .slice xo' xs'.length xc', .int .i64 r2, .int .i64 c2, .slice po' ps'.length pc'] 26)).below b67; have z2 := (u2.alloc (.cells #[.int .i64 r1, .int .i64 c1, .slice xo' xs'.length xc', .int .i64 r2, .int .i64 c2, .slice po' ps'.length pc'] 26)).below b67; have z3 := u3.alloc (.cells #[.int .i64 r3, .int .i64 c3, .slice xo2 xs2.length xc2, .int .i64 r4, .int .i64 c4, .slice po2 ps2.length pc2] 26); have z4 := u4.alloc (.cells #[.int .i64 r3, .int .i64 c3, .slice xo2 xs2.length xc2, .int .i64 r4, .int .i64 c4, .slice po2 ps2.length pc2] 26); obtain ⟨l0, l1, l2, l3, l4, l5⟩ := six_cells h9; obtain ⟨m0, m1, m2, m3, m4, m5⟩ := six_cells h12; obtain ⟨o0, o1, o2, o3, o4, o5⟩ := six_cells (keep bd y1))
                  | (have _ := b4; go_at_call 21; go_must (refine (kP _ (t1.below bb) (t2.below bb) (t3.below bb) (t4.below bb)).mono ?_); rintro e wf ⟨r1, c1, r2, c2, xo', xc', po', pc', xs', ps', od, rfl, u1, u2, hk1, b5⟩; have bc := bt bb (bt b5 (box_below wf (.cells #[.int .i64 r1, .int .i64 c1, .slice xo' xs'.length xc', .int .i64 r2, .int .i64 c2, .slice po' ps'.length pc'] 26))); obtain ⟨i0, i1, i2, i3, i4, i5⟩ := six_cells (keep bc y1); obtain ⟨j0, j1, j2, _⟩ := mat_cells (keep bc y4); obtain ⟨k0, k1, k2, _⟩ := mat_cells (keep bc y5))
                  | (have _ := b3; go_at_call 16; go_must (refine (kH _ (bt (bt (bt b0 b1) b2) b3)).mono ?_); rintro e we ⟨rfl, b4⟩; have bb := bt (bt (bt (bt b0 b1) b2) b3) b4; obtain ⟨tp0, tp1, tp2, tp3, tp4, tp5⟩ := six_cells (keep bb y1); obtain ⟨tf0, tf1, tf2, _⟩ := mat_cells (keep bb y2); obtain ⟨tq0, tq1, tq2, _⟩ := mat_cells (keep bb y3))
                  | (have _ := b2; go_at_call 16; go_must (refine (kQ _ (bt (bt b0 b1) b2)).mono ?_); rintro e wd ⟨rfl, b3⟩; obtain ⟨h0, h1, h2, _⟩ := mat_cells (keep (bt (bt (bt b0 b1) b2) b3) y4))
                  | (have _ := b1; go_at_call 16; go_must (refine (kF _ (bt b0 b1)).mono ?_); rintro e wc ⟨rfl, b2⟩; obtain ⟨q0, q1, q2, _⟩ := mat_cells (keep (bt (bt b0 b1) b2) y3))
                  | (have _ := b0; go_at_call 13; refine (kT _ b0).mono ?_; rintro e wb ⟨rfl, b1⟩; obtain ⟨f0, f1, f2, _⟩ := mat_cells (keep (bt b0 b1) y2))
                  | (go_at_call 10; go_must (refine (kshown_any _).mono ?_); rintro e wa ⟨rfl, b0⟩; obtain ⟨p0, p1, p2, p3, p4, p5⟩ := six_cells (keep b0 y1)))
                go_ret
                exact ⟨rfl, bt bW (bt bd (bt (bt (nn1) nn2) nn3))⟩
            · have hG' : (G == 0) = false := by simpa using hG
              go_enter Try.func4, Try.ntmps4
              go_wp2_with (first
                | (have _ := nn1; go_at_call 15; go_must (refine (kK _ (t1.below (bt bd (nn1))) (t2.below (bt bd (nn1)))).mono ?_); rintro e wx2 ⟨rfl, nn2⟩; obtain ⟨l0, l1, l2, l3, l4, l5⟩ := six_cells (keep (bt (nn1) nn2) h9); obtain ⟨m0, m1, m2, m3, m4, m5⟩ := six_cells (keep (bt (nn1) nn2) h12); obtain ⟨o0, o1, o2, o3, o4, o5⟩ := six_cells (keep (bt bd (bt (nn1) nn2)) y1))
                | (have _ := b6; go_at_call 13; go_must (have kA := fun v sa sb => rright5_any r1 c1 r2 c2 (.slice xo' xs'.length xc') (.slice po' ps'.length pc') xs' ps' v sa sb; rw [hk1 (by simp)] at kA; refine (kA _ z1 z2).mono ?_); rintro e wx1 ⟨rfl, nn1⟩; obtain ⟨l0, l1, l2, l3, l4, l5⟩ := six_cells (keep (nn1) h9); obtain ⟨m0, m1, m2, m3, m4, m5⟩ := six_cells (keep (nn1) h12); obtain ⟨o0, o1, o2, o3, o4, o5⟩ := six_cells (keep (bt bd (nn1)) y1))
                | (have _ := b5; go_at_call 22; go_must (refine (kU _ (t1.below bc) (t2.below bc) (t5.below bc)).mono ?_); rintro e wg ⟨r3, c3, r4, c4, xo2, xc2, po2, pc2, xs2, ps2, od2, rfl, u3, u4, hk2, hk3, b6⟩; have b67 := bt b6 (box_below wg (.cells #[.int .i64 r3, .int .i64 c3, .slice xo2 xs2.length xc2, .int .i64 r4, .int .i64 c4, .slice po2 ps2.length pc2] 26)); have bd := bt bc b67; have h9 := keep b67 (heap_new wf (.cells #[.int .i64 r1, .int .i64 c1, .slice xo' xs'.length xc', .int .i64 r2, .int .i64 c2, .slice po' ps'.length pc'] 26)); have h12 := heap_new wg (.cells #[.int .i64 r3, .int .i64 c3, .slice xo2 xs2.length xc2, .int .i64 r4, .int .i64 c4, .slice po2 ps2.length pc2] 26); have z1 := (u1.alloc (.cells #[.int .i64 r1, .int .i64 c1, .slice xo' xs'.length xc', .int .i64 r2, .int .i64 c2, .slice po' ps'.length pc'] 26)).below b67; have z2 := (u2.alloc (.cells #[.int .i64 r1, .int .i64 c1, .slice xo' xs'.length xc', .int .i64 r2, .int .i64 c2, .slice po' ps'.length pc'] 26)).below b67; have z3 := u3.alloc (.cells #[.int .i64 r3, .int .i64 c3, .slice xo2 xs2.length xc2, .int .i64 r4, .int .i64 c4, .slice po2 ps2.length pc2] 26); have z4 := u4.alloc (.cells #[.int .i64 r3, .int .i64 c3, .slice xo2 xs2.length xc2, .int .i64 r4, .int .i64 c4, .slice po2 ps2.length pc2] 26); obtain ⟨l0, l1, l2, l3, l4, l5⟩ := six_cells h9; obtain ⟨m0, m1, m2, m3, m4, m5⟩ := six_cells h12; obtain ⟨o0, o1, o2, o3, o4, o5⟩ := six_cells (keep bd y1))
                | (have _ := b4; go_at_call 21; go_must (refine (kP _ (t1.below bb) (t2.below bb) (t3.below bb) (t4.below bb)).mono ?_); rintro e wf ⟨r1, c1, r2, c2, xo', xc', po', pc', xs', ps', od, rfl, u1, u2, hk1, b5⟩; have bc := bt bb (bt b5 (box_below wf (.cells #[.int .i64 r1, .int .i64 c1, .slice xo' xs'.length xc', .int .i64 r2, .int .i64 c2, .slice po' ps'.length pc'] 26))); obtain ⟨i0, i1, i2, i3, i4, i5⟩ := six_cells (keep bc y1); obtain ⟨j0, j1, j2, _⟩ := mat_cells (keep bc y4); obtain ⟨k0, k1, k2, _⟩ := mat_cells (keep bc y5))
                | (have _ := b3; go_at_call 16; go_must (refine (kH _ (bt (bt (bt b0 b1) b2) b3)).mono ?_); rintro e we ⟨rfl, b4⟩; have bb := bt (bt (bt (bt b0 b1) b2) b3) b4; obtain ⟨tp0, tp1, tp2, tp3, tp4, tp5⟩ := six_cells (keep bb y1); obtain ⟨tf0, tf1, tf2, _⟩ := mat_cells (keep bb y2); obtain ⟨tq0, tq1, tq2, _⟩ := mat_cells (keep bb y3))
                | (have _ := b2; go_at_call 16; go_must (refine (kQ _ (bt (bt b0 b1) b2)).mono ?_); rintro e wd ⟨rfl, b3⟩; obtain ⟨h0, h1, h2, _⟩ := mat_cells (keep (bt (bt (bt b0 b1) b2) b3) y4))
                | (have _ := b1; go_at_call 16; go_must (refine (kF _ (bt b0 b1)).mono ?_); rintro e wc ⟨rfl, b2⟩; obtain ⟨q0, q1, q2, _⟩ := mat_cells (keep (bt (bt b0 b1) b2) y3))
                | (have _ := b0; go_at_call 13; refine (kT _ b0).mono ?_; rintro e wb ⟨rfl, b1⟩; obtain ⟨f0, f1, f2, _⟩ := mat_cells (keep (bt b0 b1) y2))
                | (go_at_call 10; go_must (refine (kshown_any _).mono ?_); rintro e wa ⟨rfl, b0⟩; obtain ⟨p0, p1, p2, p3, p4, p5⟩ := six_cells (keep b0 y1)))
              go_ret
              exact ⟨rfl, bt bW (bt bd (bt (nn1) nn2))⟩
          · have hE' : (E == 0) = false := by simpa using hE
            by_cases hG : G = 0
            · subst hG
              cases tk
              · skip
                go_enter Try.func4, Try.ntmps4
                go_wp2_with (first
                  | (have _ := nn2; go_at_call 15; go_must (refine (kK _ (t1.below (bt bd (bt (nn1) nn2))) (t2.below (bt bd (bt (nn1) nn2)))).mono ?_); rintro e wx3 ⟨rfl, nn3⟩; obtain ⟨l0, l1, l2, l3, l4, l5⟩ := six_cells (keep (bt (bt (nn1) nn2) nn3) h9); obtain ⟨m0, m1, m2, m3, m4, m5⟩ := six_cells (keep (bt (bt (nn1) nn2) nn3) h12); obtain ⟨o0, o1, o2, o3, o4, o5⟩ := six_cells (keep (bt bd (bt (bt (nn1) nn2) nn3)) y1))
                  | (have _ := nn1; go_at_call 14; go_must (have l3 : xs2.length ≤ 100 := (by obtain ⟨n', _, _, _, _, _, m8, e1', _, _⟩ := trk_of (hk2 (by simp)); omega); have l4 : ps2.length ≤ 100 := (by obtain ⟨n', _, _, _, _, _, m8, _, e2', _⟩ := trk_of (hk2 (by simp)); have := mul_le_64 m8 m8; omega); have kC := fun v sa sb sc sd => rsamet_any r3 c3 r4 c4 n 1 n n (.slice xo2 xs2.length xc2) (.slice po2 ps2.length pc2) (.slice xo xs.length xc) (.slice po ps.length pc) xs2 ps2 xs ps v l3 l4 lx lp sa sb sc sd; rw [hk3 (by simp) (by simp)] at kC; clear l3 l4; refine (kC _ (z3.below (nn1)) (z4.below (nn1)) (t1.below (bt bd (nn1))) (t2.below (bt bd (nn1)))).mono ?_); rintro e wx2 ⟨rfl, nn2⟩; obtain ⟨l0, l1, l2, l3, l4, l5⟩ := six_cells (keep (bt (nn1) nn2) h9); obtain ⟨m0, m1, m2, m3, m4, m5⟩ := six_cells (keep (bt (nn1) nn2) h12); obtain ⟨o0, o1, o2, o3, o4, o5⟩ := six_cells (keep (bt bd (bt (nn1) nn2)) y1))
                  | (have _ := b6; go_at_call 13; go_must (have kB := fun v sa sb => rright5_any r3 c3 r4 c4 (.slice xo2 xs2.length xc2) (.slice po2 ps2.length pc2) xs2 ps2 v sa sb; rw [hk2 (by simp)] at kB; refine (kB _ z3 z4).mono ?_); rintro e wx1 ⟨rfl, nn1⟩; obtain ⟨l0, l1, l2, l3, l4, l5⟩ := six_cells (keep (nn1) h9); obtain ⟨m0, m1, m2, m3, m4, m5⟩ := six_cells (keep (nn1) h12); obtain ⟨o0, o1, o2, o3, o4, o5⟩ := six_cells (keep (bt bd (nn1)) y1))
                  | (have _ := b5; go_at_call 22; go_must (refine (kU _ (t1.below bc) (t2.below bc) (t5.below bc)).mono ?_); rintro e wg ⟨r3, c3, r4, c4, xo2, xc2, po2, pc2, xs2, ps2, od2, rfl, u3, u4, hk2, hk3, b6⟩; have b67 := bt b6 (box_below wg (.cells #[.int .i64 r3, .int .i64 c3, .slice xo2 xs2.length xc2, .int .i64 r4, .int .i64 c4, .slice po2 ps2.length pc2] 26)); have bd := bt bc b67; have h9 := keep b67 (heap_new wf (.cells #[.int .i64 r1, .int .i64 c1, .slice xo' xs'.length xc', .int .i64 r2, .int .i64 c2, .slice po' ps'.length pc'] 26)); have h12 := heap_new wg (.cells #[.int .i64 r3, .int .i64 c3, .slice xo2 xs2.length xc2, .int .i64 r4, .int .i64 c4, .slice po2 ps2.length pc2] 26); have z1 := (u1.alloc (.cells #[.int .i64 r1, .int .i64 c1, .slice xo' xs'.length xc', .int .i64 r2, .int .i64 c2, .slice po' ps'.length pc'] 26)).below b67; have z2 := (u2.alloc (.cells #[.int .i64 r1, .int .i64 c1, .slice xo' xs'.length xc', .int .i64 r2, .int .i64 c2, .slice po' ps'.length pc'] 26)).below b67; have z3 := u3.alloc (.cells #[.int .i64 r3, .int .i64 c3, .slice xo2 xs2.length xc2, .int .i64 r4, .int .i64 c4, .slice po2 ps2.length pc2] 26); have z4 := u4.alloc (.cells #[.int .i64 r3, .int .i64 c3, .slice xo2 xs2.length xc2, .int .i64 r4, .int .i64 c4, .slice po2 ps2.length pc2] 26); obtain ⟨l0, l1, l2, l3, l4, l5⟩ := six_cells h9; obtain ⟨m0, m1, m2, m3, m4, m5⟩ := six_cells h12; obtain ⟨o0, o1, o2, o3, o4, o5⟩ := six_cells (keep bd y1))
                  | (have _ := b4; go_at_call 21; go_must (refine (kP _ (t1.below bb) (t2.below bb) (t3.below bb) (t4.below bb)).mono ?_); rintro e wf ⟨r1, c1, r2, c2, xo', xc', po', pc', xs', ps', od, rfl, u1, u2, hk1, b5⟩; have bc := bt bb (bt b5 (box_below wf (.cells #[.int .i64 r1, .int .i64 c1, .slice xo' xs'.length xc', .int .i64 r2, .int .i64 c2, .slice po' ps'.length pc'] 26))); obtain ⟨i0, i1, i2, i3, i4, i5⟩ := six_cells (keep bc y1); obtain ⟨j0, j1, j2, _⟩ := mat_cells (keep bc y4); obtain ⟨k0, k1, k2, _⟩ := mat_cells (keep bc y5))
                  | (have _ := b3; go_at_call 16; go_must (refine (kH _ (bt (bt (bt b0 b1) b2) b3)).mono ?_); rintro e we ⟨rfl, b4⟩; have bb := bt (bt (bt (bt b0 b1) b2) b3) b4; obtain ⟨tp0, tp1, tp2, tp3, tp4, tp5⟩ := six_cells (keep bb y1); obtain ⟨tf0, tf1, tf2, _⟩ := mat_cells (keep bb y2); obtain ⟨tq0, tq1, tq2, _⟩ := mat_cells (keep bb y3))
                  | (have _ := b2; go_at_call 16; go_must (refine (kQ _ (bt (bt b0 b1) b2)).mono ?_); rintro e wd ⟨rfl, b3⟩; obtain ⟨h0, h1, h2, _⟩ := mat_cells (keep (bt (bt (bt b0 b1) b2) b3) y4))
                  | (have _ := b1; go_at_call 16; go_must (refine (kF _ (bt b0 b1)).mono ?_); rintro e wc ⟨rfl, b2⟩; obtain ⟨q0, q1, q2, _⟩ := mat_cells (keep (bt (bt b0 b1) b2) y3))
                  | (have _ := b0; go_at_call 13; refine (kT _ b0).mono ?_; rintro e wb ⟨rfl, b1⟩; obtain ⟨f0, f1, f2, _⟩ := mat_cells (keep (bt b0 b1) y2))
                  | (go_at_call 10; go_must (refine (kshown_any _).mono ?_); rintro e wa ⟨rfl, b0⟩; obtain ⟨p0, p1, p2, p3, p4, p5⟩ := six_cells (keep b0 y1)))
                go_ret
                exact ⟨rfl, bt bW (bt bd (bt (bt (nn1) nn2) nn3))⟩
              · skip
                go_enter Try.func4, Try.ntmps4
                go_wp2_with (first
                  | (have _ := nn1; go_at_call 15; go_must (refine (kK _ (t1.below (bt bd (nn1))) (t2.below (bt bd (nn1)))).mono ?_); rintro e wx2 ⟨rfl, nn2⟩; obtain ⟨l0, l1, l2, l3, l4, l5⟩ := six_cells (keep (bt (nn1) nn2) h9); obtain ⟨m0, m1, m2, m3, m4, m5⟩ := six_cells (keep (bt (nn1) nn2) h12); obtain ⟨o0, o1, o2, o3, o4, o5⟩ := six_cells (keep (bt bd (bt (nn1) nn2)) y1))
                  | (have _ := b6; go_at_call 13; go_must (have kB := fun v sa sb => rright5_any r3 c3 r4 c4 (.slice xo2 xs2.length xc2) (.slice po2 ps2.length pc2) xs2 ps2 v sa sb; rw [hk2 (by simp)] at kB; refine (kB _ z3 z4).mono ?_); rintro e wx1 ⟨rfl, nn1⟩; obtain ⟨l0, l1, l2, l3, l4, l5⟩ := six_cells (keep (nn1) h9); obtain ⟨m0, m1, m2, m3, m4, m5⟩ := six_cells (keep (nn1) h12); obtain ⟨o0, o1, o2, o3, o4, o5⟩ := six_cells (keep (bt bd (nn1)) y1))
                  | (have _ := b5; go_at_call 22; go_must (refine (kU _ (t1.below bc) (t2.below bc) (t5.below bc)).mono ?_); rintro e wg ⟨r3, c3, r4, c4, xo2, xc2, po2, pc2, xs2, ps2, od2, rfl, u3, u4, hk2, hk3, b6⟩; have b67 := bt b6 (box_below wg (.cells #[.int .i64 r3, .int .i64 c3, .slice xo2 xs2.length xc2, .int .i64 r4, .int .i64 c4, .slice po2 ps2.length pc2] 26)); have bd := bt bc b67; have h9 := keep b67 (heap_new wf (.cells #[.int .i64 r1, .int .i64 c1, .slice xo' xs'.length xc', .int .i64 r2, .int .i64 c2, .slice po' ps'.length pc'] 26)); have h12 := heap_new wg (.cells #[.int .i64 r3, .int .i64 c3, .slice xo2 xs2.length xc2, .int .i64 r4, .int .i64 c4, .slice po2 ps2.length pc2] 26); have z1 := (u1.alloc (.cells #[.int .i64 r1, .int .i64 c1, .slice xo' xs'.length xc', .int .i64 r2, .int .i64 c2, .slice po' ps'.length pc'] 26)).below b67; have z2 := (u2.alloc (.cells #[.int .i64 r1, .int .i64 c1, .slice xo' xs'.length xc', .int .i64 r2, .int .i64 c2, .slice po' ps'.length pc'] 26)).below b67; have z3 := u3.alloc (.cells #[.int .i64 r3, .int .i64 c3, .slice xo2 xs2.length xc2, .int .i64 r4, .int .i64 c4, .slice po2 ps2.length pc2] 26); have z4 := u4.alloc (.cells #[.int .i64 r3, .int .i64 c3, .slice xo2 xs2.length xc2, .int .i64 r4, .int .i64 c4, .slice po2 ps2.length pc2] 26); obtain ⟨l0, l1, l2, l3, l4, l5⟩ := six_cells h9; obtain ⟨m0, m1, m2, m3, m4, m5⟩ := six_cells h12; obtain ⟨o0, o1, o2, o3, o4, o5⟩ := six_cells (keep bd y1))
                  | (have _ := b4; go_at_call 21; go_must (refine (kP _ (t1.below bb) (t2.below bb) (t3.below bb) (t4.below bb)).mono ?_); rintro e wf ⟨r1, c1, r2, c2, xo', xc', po', pc', xs', ps', od, rfl, u1, u2, hk1, b5⟩; have bc := bt bb (bt b5 (box_below wf (.cells #[.int .i64 r1, .int .i64 c1, .slice xo' xs'.length xc', .int .i64 r2, .int .i64 c2, .slice po' ps'.length pc'] 26))); obtain ⟨i0, i1, i2, i3, i4, i5⟩ := six_cells (keep bc y1); obtain ⟨j0, j1, j2, _⟩ := mat_cells (keep bc y4); obtain ⟨k0, k1, k2, _⟩ := mat_cells (keep bc y5))
                  | (have _ := b3; go_at_call 16; go_must (refine (kH _ (bt (bt (bt b0 b1) b2) b3)).mono ?_); rintro e we ⟨rfl, b4⟩; have bb := bt (bt (bt (bt b0 b1) b2) b3) b4; obtain ⟨tp0, tp1, tp2, tp3, tp4, tp5⟩ := six_cells (keep bb y1); obtain ⟨tf0, tf1, tf2, _⟩ := mat_cells (keep bb y2); obtain ⟨tq0, tq1, tq2, _⟩ := mat_cells (keep bb y3))
                  | (have _ := b2; go_at_call 16; go_must (refine (kQ _ (bt (bt b0 b1) b2)).mono ?_); rintro e wd ⟨rfl, b3⟩; obtain ⟨h0, h1, h2, _⟩ := mat_cells (keep (bt (bt (bt b0 b1) b2) b3) y4))
                  | (have _ := b1; go_at_call 16; go_must (refine (kF _ (bt b0 b1)).mono ?_); rintro e wc ⟨rfl, b2⟩; obtain ⟨q0, q1, q2, _⟩ := mat_cells (keep (bt (bt b0 b1) b2) y3))
                  | (have _ := b0; go_at_call 13; refine (kT _ b0).mono ?_; rintro e wb ⟨rfl, b1⟩; obtain ⟨f0, f1, f2, _⟩ := mat_cells (keep (bt b0 b1) y2))
                  | (go_at_call 10; go_must (refine (kshown_any _).mono ?_); rintro e wa ⟨rfl, b0⟩; obtain ⟨p0, p1, p2, p3, p4, p5⟩ := six_cells (keep b0 y1)))
                go_ret
                exact ⟨rfl, bt bW (bt bd (bt (nn1) nn2))⟩
            · have hG' : (G == 0) = false := by simpa using hG
              go_enter Try.func4, Try.ntmps4
              go_wp2_with (first
                | (have _ := b6; go_at_call 15; go_must (refine (kK _ (t1.below bd) (t2.below bd)).mono ?_); rintro e wx1 ⟨rfl, nn1⟩; obtain ⟨l0, l1, l2, l3, l4, l5⟩ := six_cells (keep (nn1) h9); obtain ⟨m0, m1, m2, m3, m4, m5⟩ := six_cells (keep (nn1) h12); obtain ⟨o0, o1, o2, o3, o4, o5⟩ := six_cells (keep (bt bd (nn1)) y1))
                | (have _ := b5; go_at_call 22; go_must (refine (kU _ (t1.below bc) (t2.below bc) (t5.below bc)).mono ?_); rintro e wg ⟨r3, c3, r4, c4, xo2, xc2, po2, pc2, xs2, ps2, od2, rfl, u3, u4, hk2, hk3, b6⟩; have b67 := bt b6 (box_below wg (.cells #[.int .i64 r3, .int .i64 c3, .slice xo2 xs2.length xc2, .int .i64 r4, .int .i64 c4, .slice po2 ps2.length pc2] 26)); have bd := bt bc b67; have h9 := keep b67 (heap_new wf (.cells #[.int .i64 r1, .int .i64 c1, .slice xo' xs'.length xc', .int .i64 r2, .int .i64 c2, .slice po' ps'.length pc'] 26)); have h12 := heap_new wg (.cells #[.int .i64 r3, .int .i64 c3, .slice xo2 xs2.length xc2, .int .i64 r4, .int .i64 c4, .slice po2 ps2.length pc2] 26); have z1 := (u1.alloc (.cells #[.int .i64 r1, .int .i64 c1, .slice xo' xs'.length xc', .int .i64 r2, .int .i64 c2, .slice po' ps'.length pc'] 26)).below b67; have z2 := (u2.alloc (.cells #[.int .i64 r1, .int .i64 c1, .slice xo' xs'.length xc', .int .i64 r2, .int .i64 c2, .slice po' ps'.length pc'] 26)).below b67; have z3 := u3.alloc (.cells #[.int .i64 r3, .int .i64 c3, .slice xo2 xs2.length xc2, .int .i64 r4, .int .i64 c4, .slice po2 ps2.length pc2] 26); have z4 := u4.alloc (.cells #[.int .i64 r3, .int .i64 c3, .slice xo2 xs2.length xc2, .int .i64 r4, .int .i64 c4, .slice po2 ps2.length pc2] 26); obtain ⟨l0, l1, l2, l3, l4, l5⟩ := six_cells h9; obtain ⟨m0, m1, m2, m3, m4, m5⟩ := six_cells h12; obtain ⟨o0, o1, o2, o3, o4, o5⟩ := six_cells (keep bd y1))
                | (have _ := b4; go_at_call 21; go_must (refine (kP _ (t1.below bb) (t2.below bb) (t3.below bb) (t4.below bb)).mono ?_); rintro e wf ⟨r1, c1, r2, c2, xo', xc', po', pc', xs', ps', od, rfl, u1, u2, hk1, b5⟩; have bc := bt bb (bt b5 (box_below wf (.cells #[.int .i64 r1, .int .i64 c1, .slice xo' xs'.length xc', .int .i64 r2, .int .i64 c2, .slice po' ps'.length pc'] 26))); obtain ⟨i0, i1, i2, i3, i4, i5⟩ := six_cells (keep bc y1); obtain ⟨j0, j1, j2, _⟩ := mat_cells (keep bc y4); obtain ⟨k0, k1, k2, _⟩ := mat_cells (keep bc y5))
                | (have _ := b3; go_at_call 16; go_must (refine (kH _ (bt (bt (bt b0 b1) b2) b3)).mono ?_); rintro e we ⟨rfl, b4⟩; have bb := bt (bt (bt (bt b0 b1) b2) b3) b4; obtain ⟨tp0, tp1, tp2, tp3, tp4, tp5⟩ := six_cells (keep bb y1); obtain ⟨tf0, tf1, tf2, _⟩ := mat_cells (keep bb y2); obtain ⟨tq0, tq1, tq2, _⟩ := mat_cells (keep bb y3))
                | (have _ := b2; go_at_call 16; go_must (refine (kQ _ (bt (bt b0 b1) b2)).mono ?_); rintro e wd ⟨rfl, b3⟩; obtain ⟨h0, h1, h2, _⟩ := mat_cells (keep (bt (bt (bt b0 b1) b2) b3) y4))
                | (have _ := b1; go_at_call 16; go_must (refine (kF _ (bt b0 b1)).mono ?_); rintro e wc ⟨rfl, b2⟩; obtain ⟨q0, q1, q2, _⟩ := mat_cells (keep (bt (bt b0 b1) b2) y3))
                | (have _ := b0; go_at_call 13; refine (kT _ b0).mono ?_; rintro e wb ⟨rfl, b1⟩; obtain ⟨f0, f1, f2, _⟩ := mat_cells (keep (bt b0 b1) y2))
                | (go_at_call 10; go_must (refine (kshown_any _).mono ?_); rintro e wa ⟨rfl, b0⟩; obtain ⟨p0, p1, p2, p3, p4, p5⟩ := six_cells (keep b0 y1)))
              go_ret
              exact ⟨rfl, bt bW (bt bd (nn1))⟩
end Go.Proofs.Ytiniobcknmaigaa
