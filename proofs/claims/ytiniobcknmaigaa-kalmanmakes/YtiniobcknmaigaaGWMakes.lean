/-
  The walk of KalmanMakes.
-/
import Derived.Test.YtiniobcknmaigaaGRNew
import Derived.Test.YtiniobcknmaigaaGAMk
import Derived.Test.YtiniobcknmaigaaG35
import Derived.Test.YtiniobcknmaigaaG36
import Derived.Test.YtiniobcknmaigaaG25
import Derived.Test.YtiniobcknmaigaaG24
namespace Go.Proofs.Ytiniobcknmaigaa
open Go.RowKit Go.Sort Qm

set_option maxRecDepth 20000 in
set_option maxHeartbeats 6400000 in
theorem kalmanMakes_walk (ta ua tb ub tc uc td ud : Int) (v1 v2 v3 v4 v5 v6 : Value) (xs vs ks ls ms ns : List Int) (w : World) (s1 : Sees w v1 xs) (s2 : Sees w v2 vs) (s3 : Sees w v3 ks) (s4 : Sees w v4 ls) (s5 : Sees w v5 ms) (s6 : Sees w v6 ns)
    (hst : v1 = .slice none 0 0 ∨ ∃ a n c, v1 = .slice (some a) n c) (z1 : xs.length * 8 ≤ 140737488351232) (z2 : vs.length * 8 ≤ 140737488351232) (z3 : ks.length * 8 ≤ 140737488351232) (z4 : ls.length * 8 ≤ 140737488351232) (z5 : ms.length * 8 ≤ 140737488351232) (z6 : ns.length * 8 ≤ 140737488351232) :
    Calls Try.prog 3 #[.agg #[v1, v2, .int .i64 ta, .int .i64 ua, v3, .int .i64 tb, .int .i64 ub, v4, .int .i64 tc, .int .i64 uc, v5, .int .i64 td, .int .i64 ud, v6]] w fun e w' => e = .returned (.bool true) ∧ Below w.heap.size w w' := by
  obtain ⟨xo, xc, rfl⟩ := s1.slice
  obtain ⟨vo, vc, rfl⟩ := s2.slice
  obtain ⟨ko, kc, rfl⟩ := s3.slice
  obtain ⟨lo, lc, rfl⟩ := s4.slice
  obtain ⟨mo, mc, rfl⟩ := s5.slice
  obtain ⟨no, nc, rfl⟩ := s6.slice
  obtain ⟨W, hW⟩ : ∃ W, ((w.alloc (.cells #[.slice xo xs.length xc, .slice vo vs.length vc, .int .i64 ta, .int .i64 ua, .slice ko ks.length kc, .int .i64 tb, .int .i64 ub, .slice lo ls.length lc, .int .i64 tc, .int .i64 uc, .slice mo ms.length mc, .int .i64 td, .int .i64 ud, .slice no ns.length nc] 28)).alloc (.cells #[.int .i64 ta, .int .i64 ua, .slice ko ks.length kc, .int .i64 tb, .int .i64 ub, .slice lo ls.length lc] 26)).alloc (.cells #[.int .i64 tc, .int .i64 uc, .slice mo ms.length mc, .int .i64 td, .int .i64 ud, .slice no ns.length nc] 26) = W := ⟨_, rfl⟩
  obtain ⟨_, y1, y2⟩ := allocs3 w (.cells #[.slice xo xs.length xc, .slice vo vs.length vc, .int .i64 ta, .int .i64 ua, .slice ko ks.length kc, .int .i64 tb, .int .i64 ub, .slice lo ls.length lc, .int .i64 tc, .int .i64 uc, .slice mo ms.length mc, .int .i64 td, .int .i64 ud, .slice no ns.length nc] 28) (.cells #[.int .i64 ta, .int .i64 ua, .slice ko ks.length kc, .int .i64 tb, .int .i64 ub, .slice lo ls.length lc] 26) (.cells #[.int .i64 tc, .int .i64 uc, .slice mo ms.length mc, .int .i64 td, .int .i64 ud, .slice no ns.length nc] 26)
  have bW := ball3 w (.cells #[.slice xo xs.length xc, .slice vo vs.length vc, .int .i64 ta, .int .i64 ua, .slice ko ks.length kc, .int .i64 tb, .int .i64 ub, .slice lo ls.length lc, .int .i64 tc, .int .i64 uc, .slice mo ms.length mc, .int .i64 td, .int .i64 ud, .slice no ns.length nc] 28) (.cells #[.int .i64 ta, .int .i64 ua, .slice ko ks.length kc, .int .i64 tb, .int .i64 ub, .slice lo ls.length lc] 26) (.cells #[.int .i64 tc, .int .i64 uc, .slice mo ms.length mc, .int .i64 td, .int .i64 ud, .slice no ns.length nc] 26)
  rw [hW] at y1 y2 bW
  have t1 := s1.below bW
  have t2 := s2.below bW
  have t3 := s3.below bW
  have t4 := s4.below bW
  have t5 := s5.below bW
  have t6 := s6.below bW
  by_cases g1 : (20 : Int) < (xs.length : Int) + (vs.length : Int)
  · clear hst
    go_enter Try.func3, Try.ntmps3
    go_wp2_with (first
      | (go_at_call 10; go_must (refine (kshown_any _).mono ?_); rintro e wa ⟨rfl, b0⟩; obtain ⟨p0, p1, p2, p3, p4, p5⟩ := six_cells (keep b0 y1); obtain ⟨q0, q1, q2, q3, q4, q5⟩ := six_cells (keep b0 y2)))
    go_ret
    exact ⟨rfl, bt bW b0⟩
  · by_cases g2 : (200 : Int) < (ks.length : Int) + (ls.length : Int) + (ms.length : Int) + (ns.length : Int)
    · clear hst
      go_enter Try.func3, Try.ntmps3
      go_wp2_with (first
        | (go_at_call 10; go_must (refine (kshown_any _).mono ?_); rintro e wa ⟨rfl, b0⟩; obtain ⟨p0, p1, p2, p3, p4, p5⟩ := six_cells (keep b0 y1); obtain ⟨q0, q1, q2, q3, q4, q5⟩ := six_cells (keep b0 y2)))
      go_ret
      exact ⟨rfl, bt bW b0⟩
    · obtain ⟨r1, c1', r2, c2', X, P, E, lX, lP, kN, kN'⟩ := new_both xo vo xc vc xs vs hst (by omega) (by omega)
      have kT := fun v hv => rright5_any ta ua tb ub _ _ ks ls v (t3.below hv) (t4.below hv)
      have kK := fun v hv => kright_all ta ua tb ub _ _ ks ls v (t3.below hv) (t4.below hv)
      have kP := fun v hv => rright_any tb ub _ ls v (t4.below hv)
      have kV := fun v hv => rright5_any tc uc td ud _ _ ms ns v (t5.below hv) (t6.below hv)
      have kS := fun va vb vc vd v sa sb sc sd => rsamet_any r1 c1' r2 c2' r1 c1' r2 c2' va vb vc vd X P X P v lX lP lX lP sa sb sc sd
      rw [sameB_self, sameB_self] at kS
      clear hst lX lP
      cases hB : trkB ta ua ks tb ub ls with
      | false =>
        rw [hB] at kT kK
        clear hB
        cases hC : rightB tb ub ls with
        | false =>
          rw [hC] at kP
          clear hC
          go_enter Try.func3, Try.ntmps3
          go_wp2_with (first
            | (have _ := b5; go_at_call 16; go_must (refine (kP _ c5).mono ?_); rintro e wg ⟨rfl, b6⟩; have c6 := bt c5 b6; obtain ⟨p0, p1, p2, p3, p4, p5⟩ := six_cells (keep c6 y1); obtain ⟨q0, q1, q2, q3, q4, q5⟩ := six_cells (keep c6 y2))
            | (have _ := b4; go_at_call 15; go_must (refine (kK _ c4).mono ?_); rintro e wf ⟨rfl, b5⟩; have c5 := bt c4 b5; obtain ⟨p0, p1, p2, p3, p4, p5⟩ := six_cells (keep c5 y1))
            | (have _ := b3; go_at_call 14; go_must (refine (kS _ _ _ _ _ (u1.below b3) (w1.below b3) (u2.below b3) (w2.below b3)).mono ?_); rintro e we ⟨rfl, b4⟩; have c4 := bt c3 b4; obtain ⟨p0, p1, p2, p3, p4, p5⟩ := six_cells (keep c4 y1))
            | (have _ := b2; go_at_call 13; go_must (refine (kT _ c2).mono ?_); rintro e wd ⟨rfl, b3⟩; have c3 := bt c2 b3; obtain ⟨l0, l1, l2, l3, l4, l5⟩ := six_cells (keep b3 hh1); obtain ⟨m0, m1, m2, m3, m4, m5⟩ := six_cells (keep b3 hh2))
            | (have _ := b1; go_at_call 12; go_must (refine (kN' _ (t1.below c1) (t2.below c1)).mono ?_); rintro e wc ⟨xo2, xc2, po2, pc2, rfl, u2, w2, b2⟩; have d2 := bt b2 (box_below wc (.cells #[.int .i64 r1, .int .i64 c1', .slice xo2 X.length xc2, .int .i64 r2, .int .i64 c2', .slice po2 P.length pc2] 26)); have c2 := bt c1 d2; have hh1 := keep d2 hh1; have hh2 := heap_new wc (.cells #[.int .i64 r1, .int .i64 c1', .slice xo2 X.length xc2, .int .i64 r2, .int .i64 c2', .slice po2 P.length pc2] 26); have u1 := u1.below d2; have w1 := w1.below d2; have u2 := u2.alloc (.cells #[.int .i64 r1, .int .i64 c1', .slice xo2 X.length xc2, .int .i64 r2, .int .i64 c2', .slice po2 P.length pc2] 26); have w2 := w2.alloc (.cells #[.int .i64 r1, .int .i64 c1', .slice xo2 X.length xc2, .int .i64 r2, .int .i64 c2', .slice po2 P.length pc2] 26); obtain ⟨p0, p1, p2, p3, p4, p5⟩ := six_cells (keep c2 y1))
            | (have _ := b0; go_at_call 11; go_must (refine (kN _ (t1.below b0) (t2.below b0)).mono ?_); rintro e wb ⟨xo1, xc1, po1, pc1, rfl, u1, w1, b1⟩; have c1 := bt b0 (bt b1 (box_below wb (.cells #[.int .i64 r1, .int .i64 c1', .slice xo1 X.length xc1, .int .i64 r2, .int .i64 c2', .slice po1 P.length pc1] 26))); have hh1 := heap_new wb (.cells #[.int .i64 r1, .int .i64 c1', .slice xo1 X.length xc1, .int .i64 r2, .int .i64 c2', .slice po1 P.length pc1] 26); have u1 := u1.alloc (.cells #[.int .i64 r1, .int .i64 c1', .slice xo1 X.length xc1, .int .i64 r2, .int .i64 c2', .slice po1 P.length pc1] 26); have w1 := w1.alloc (.cells #[.int .i64 r1, .int .i64 c1', .slice xo1 X.length xc1, .int .i64 r2, .int .i64 c2', .slice po1 P.length pc1] 26))
            | (go_at_call 10; go_must (refine (kshown_any _).mono ?_); rintro e wa ⟨rfl, b0⟩; obtain ⟨p0, p1, p2, p3, p4, p5⟩ := six_cells (keep b0 y1); obtain ⟨q0, q1, q2, q3, q4, q5⟩ := six_cells (keep b0 y2)))
          go_ret
          exact ⟨rfl, bt bW c6⟩
        | true =>
          rw [hC] at kP
          clear hC
          by_cases hE : tb = ub
          · subst hE
            go_enter Try.func3, Try.ntmps3
            go_wp2_with (first
              | (have _ := b5; go_at_call 16; go_must (refine (kP _ c5).mono ?_); rintro e wg ⟨rfl, b6⟩; have c6 := bt c5 b6; obtain ⟨p0, p1, p2, p3, p4, p5⟩ := six_cells (keep c6 y1); obtain ⟨q0, q1, q2, q3, q4, q5⟩ := six_cells (keep c6 y2))
              | (have _ := b4; go_at_call 15; go_must (refine (kK _ c4).mono ?_); rintro e wf ⟨rfl, b5⟩; have c5 := bt c4 b5; obtain ⟨p0, p1, p2, p3, p4, p5⟩ := six_cells (keep c5 y1))
              | (have _ := b3; go_at_call 14; go_must (refine (kS _ _ _ _ _ (u1.below b3) (w1.below b3) (u2.below b3) (w2.below b3)).mono ?_); rintro e we ⟨rfl, b4⟩; have c4 := bt c3 b4; obtain ⟨p0, p1, p2, p3, p4, p5⟩ := six_cells (keep c4 y1))
              | (have _ := b2; go_at_call 13; go_must (refine (kT _ c2).mono ?_); rintro e wd ⟨rfl, b3⟩; have c3 := bt c2 b3; obtain ⟨l0, l1, l2, l3, l4, l5⟩ := six_cells (keep b3 hh1); obtain ⟨m0, m1, m2, m3, m4, m5⟩ := six_cells (keep b3 hh2))
              | (have _ := b1; go_at_call 12; go_must (refine (kN' _ (t1.below c1) (t2.below c1)).mono ?_); rintro e wc ⟨xo2, xc2, po2, pc2, rfl, u2, w2, b2⟩; have d2 := bt b2 (box_below wc (.cells #[.int .i64 r1, .int .i64 c1', .slice xo2 X.length xc2, .int .i64 r2, .int .i64 c2', .slice po2 P.length pc2] 26)); have c2 := bt c1 d2; have hh1 := keep d2 hh1; have hh2 := heap_new wc (.cells #[.int .i64 r1, .int .i64 c1', .slice xo2 X.length xc2, .int .i64 r2, .int .i64 c2', .slice po2 P.length pc2] 26); have u1 := u1.below d2; have w1 := w1.below d2; have u2 := u2.alloc (.cells #[.int .i64 r1, .int .i64 c1', .slice xo2 X.length xc2, .int .i64 r2, .int .i64 c2', .slice po2 P.length pc2] 26); have w2 := w2.alloc (.cells #[.int .i64 r1, .int .i64 c1', .slice xo2 X.length xc2, .int .i64 r2, .int .i64 c2', .slice po2 P.length pc2] 26); obtain ⟨p0, p1, p2, p3, p4, p5⟩ := six_cells (keep c2 y1))
              | (have _ := b0; go_at_call 11; go_must (refine (kN _ (t1.below b0) (t2.below b0)).mono ?_); rintro e wb ⟨xo1, xc1, po1, pc1, rfl, u1, w1, b1⟩; have c1 := bt b0 (bt b1 (box_below wb (.cells #[.int .i64 r1, .int .i64 c1', .slice xo1 X.length xc1, .int .i64 r2, .int .i64 c2', .slice po1 P.length pc1] 26))); have hh1 := heap_new wb (.cells #[.int .i64 r1, .int .i64 c1', .slice xo1 X.length xc1, .int .i64 r2, .int .i64 c2', .slice po1 P.length pc1] 26); have u1 := u1.alloc (.cells #[.int .i64 r1, .int .i64 c1', .slice xo1 X.length xc1, .int .i64 r2, .int .i64 c2', .slice po1 P.length pc1] 26); have w1 := w1.alloc (.cells #[.int .i64 r1, .int .i64 c1', .slice xo1 X.length xc1, .int .i64 r2, .int .i64 c2', .slice po1 P.length pc1] 26))
              | (go_at_call 10; go_must (refine (kshown_any _).mono ?_); rintro e wa ⟨rfl, b0⟩; obtain ⟨p0, p1, p2, p3, p4, p5⟩ := six_cells (keep b0 y1); obtain ⟨q0, q1, q2, q3, q4, q5⟩ := six_cells (keep b0 y2)))
            go_ret
            exact ⟨rfl, bt bW c6⟩
          · have hE' : (tb == ub) = false := by simpa using hE
            go_enter Try.func3, Try.ntmps3
            go_wp2_with (first
              | (have _ := b5; go_at_call 16; go_must (refine (kP _ c5).mono ?_); rintro e wg ⟨rfl, b6⟩; have c6 := bt c5 b6; obtain ⟨p0, p1, p2, p3, p4, p5⟩ := six_cells (keep c6 y1); obtain ⟨q0, q1, q2, q3, q4, q5⟩ := six_cells (keep c6 y2))
              | (have _ := b4; go_at_call 15; go_must (refine (kK _ c4).mono ?_); rintro e wf ⟨rfl, b5⟩; have c5 := bt c4 b5; obtain ⟨p0, p1, p2, p3, p4, p5⟩ := six_cells (keep c5 y1))
              | (have _ := b3; go_at_call 14; go_must (refine (kS _ _ _ _ _ (u1.below b3) (w1.below b3) (u2.below b3) (w2.below b3)).mono ?_); rintro e we ⟨rfl, b4⟩; have c4 := bt c3 b4; obtain ⟨p0, p1, p2, p3, p4, p5⟩ := six_cells (keep c4 y1))
              | (have _ := b2; go_at_call 13; go_must (refine (kT _ c2).mono ?_); rintro e wd ⟨rfl, b3⟩; have c3 := bt c2 b3; obtain ⟨l0, l1, l2, l3, l4, l5⟩ := six_cells (keep b3 hh1); obtain ⟨m0, m1, m2, m3, m4, m5⟩ := six_cells (keep b3 hh2))
              | (have _ := b1; go_at_call 12; go_must (refine (kN' _ (t1.below c1) (t2.below c1)).mono ?_); rintro e wc ⟨xo2, xc2, po2, pc2, rfl, u2, w2, b2⟩; have d2 := bt b2 (box_below wc (.cells #[.int .i64 r1, .int .i64 c1', .slice xo2 X.length xc2, .int .i64 r2, .int .i64 c2', .slice po2 P.length pc2] 26)); have c2 := bt c1 d2; have hh1 := keep d2 hh1; have hh2 := heap_new wc (.cells #[.int .i64 r1, .int .i64 c1', .slice xo2 X.length xc2, .int .i64 r2, .int .i64 c2', .slice po2 P.length pc2] 26); have u1 := u1.below d2; have w1 := w1.below d2; have u2 := u2.alloc (.cells #[.int .i64 r1, .int .i64 c1', .slice xo2 X.length xc2, .int .i64 r2, .int .i64 c2', .slice po2 P.length pc2] 26); have w2 := w2.alloc (.cells #[.int .i64 r1, .int .i64 c1', .slice xo2 X.length xc2, .int .i64 r2, .int .i64 c2', .slice po2 P.length pc2] 26); obtain ⟨p0, p1, p2, p3, p4, p5⟩ := six_cells (keep c2 y1))
              | (have _ := b0; go_at_call 11; go_must (refine (kN _ (t1.below b0) (t2.below b0)).mono ?_); rintro e wb ⟨xo1, xc1, po1, pc1, rfl, u1, w1, b1⟩; have c1 := bt b0 (bt b1 (box_below wb (.cells #[.int .i64 r1, .int .i64 c1', .slice xo1 X.length xc1, .int .i64 r2, .int .i64 c2', .slice po1 P.length pc1] 26))); have hh1 := heap_new wb (.cells #[.int .i64 r1, .int .i64 c1', .slice xo1 X.length xc1, .int .i64 r2, .int .i64 c2', .slice po1 P.length pc1] 26); have u1 := u1.alloc (.cells #[.int .i64 r1, .int .i64 c1', .slice xo1 X.length xc1, .int .i64 r2, .int .i64 c2', .slice po1 P.length pc1] 26); have w1 := w1.alloc (.cells #[.int .i64 r1, .int .i64 c1', .slice xo1 X.length xc1, .int .i64 r2, .int .i64 c2', .slice po1 P.length pc1] 26))
              | (go_at_call 10; go_must (refine (kshown_any _).mono ?_); rintro e wa ⟨rfl, b0⟩; obtain ⟨p0, p1, p2, p3, p4, p5⟩ := six_cells (keep b0 y1); obtain ⟨q0, q1, q2, q3, q4, q5⟩ := six_cells (keep b0 y2)))
            go_ret
            exact ⟨rfl, bt bW c6⟩
      | true =>
        rw [hB] at kT kK
        obtain ⟨n, rfl, rfl, rfl, rfl, n1, n8, hx, hp, ix, ip, he⟩ := trk_of hB
        have hC : rightB n n ls = true := right_mk ⟨rfl, rfl, n1, n8, n1, n8, hp, ip⟩
        rw [hC] at kP
        clear hC hB
        cases hD : trkB tc uc ms td ud ns with
        | false =>
          rw [hD] at kV
          clear hD hx hp ix ip he
          go_enter Try.func3, Try.ntmps3
          go_wp2_with (first
            | (have _ := b6; go_at_call 13; go_must (refine (kV _ c6).mono ?_); rintro e wh ⟨rfl, b7⟩; have c7 := bt c6 b7)
            | (have _ := b5; go_at_call 16; go_must (refine (kP _ c5).mono ?_); rintro e wg ⟨rfl, b6⟩; have c6 := bt c5 b6; obtain ⟨p0, p1, p2, p3, p4, p5⟩ := six_cells (keep c6 y1); obtain ⟨q0, q1, q2, q3, q4, q5⟩ := six_cells (keep c6 y2))
            | (have _ := b4; go_at_call 15; go_must (refine (kK _ c4).mono ?_); rintro e wf ⟨rfl, b5⟩; have c5 := bt c4 b5; obtain ⟨p0, p1, p2, p3, p4, p5⟩ := six_cells (keep c5 y1))
            | (have _ := b3; go_at_call 14; go_must (refine (kS _ _ _ _ _ (u1.below b3) (w1.below b3) (u2.below b3) (w2.below b3)).mono ?_); rintro e we ⟨rfl, b4⟩; have c4 := bt c3 b4; obtain ⟨p0, p1, p2, p3, p4, p5⟩ := six_cells (keep c4 y1))
            | (have _ := b2; go_at_call 13; go_must (refine (kT _ c2).mono ?_); rintro e wd ⟨rfl, b3⟩; have c3 := bt c2 b3; obtain ⟨l0, l1, l2, l3, l4, l5⟩ := six_cells (keep b3 hh1); obtain ⟨m0, m1, m2, m3, m4, m5⟩ := six_cells (keep b3 hh2))
            | (have _ := b1; go_at_call 12; go_must (refine (kN' _ (t1.below c1) (t2.below c1)).mono ?_); rintro e wc ⟨xo2, xc2, po2, pc2, rfl, u2, w2, b2⟩; have d2 := bt b2 (box_below wc (.cells #[.int .i64 r1, .int .i64 c1', .slice xo2 X.length xc2, .int .i64 r2, .int .i64 c2', .slice po2 P.length pc2] 26)); have c2 := bt c1 d2; have hh1 := keep d2 hh1; have hh2 := heap_new wc (.cells #[.int .i64 r1, .int .i64 c1', .slice xo2 X.length xc2, .int .i64 r2, .int .i64 c2', .slice po2 P.length pc2] 26); have u1 := u1.below d2; have w1 := w1.below d2; have u2 := u2.alloc (.cells #[.int .i64 r1, .int .i64 c1', .slice xo2 X.length xc2, .int .i64 r2, .int .i64 c2', .slice po2 P.length pc2] 26); have w2 := w2.alloc (.cells #[.int .i64 r1, .int .i64 c1', .slice xo2 X.length xc2, .int .i64 r2, .int .i64 c2', .slice po2 P.length pc2] 26); obtain ⟨p0, p1, p2, p3, p4, p5⟩ := six_cells (keep c2 y1))
            | (have _ := b0; go_at_call 11; go_must (refine (kN _ (t1.below b0) (t2.below b0)).mono ?_); rintro e wb ⟨xo1, xc1, po1, pc1, rfl, u1, w1, b1⟩; have c1 := bt b0 (bt b1 (box_below wb (.cells #[.int .i64 r1, .int .i64 c1', .slice xo1 X.length xc1, .int .i64 r2, .int .i64 c2', .slice po1 P.length pc1] 26))); have hh1 := heap_new wb (.cells #[.int .i64 r1, .int .i64 c1', .slice xo1 X.length xc1, .int .i64 r2, .int .i64 c2', .slice po1 P.length pc1] 26); have u1 := u1.alloc (.cells #[.int .i64 r1, .int .i64 c1', .slice xo1 X.length xc1, .int .i64 r2, .int .i64 c2', .slice po1 P.length pc1] 26); have w1 := w1.alloc (.cells #[.int .i64 r1, .int .i64 c1', .slice xo1 X.length xc1, .int .i64 r2, .int .i64 c2', .slice po1 P.length pc1] 26))
            | (go_at_call 10; go_must (refine (kshown_any _).mono ?_); rintro e wa ⟨rfl, b0⟩; obtain ⟨p0, p1, p2, p3, p4, p5⟩ := six_cells (keep b0 y1); obtain ⟨q0, q1, q2, q3, q4, q5⟩ := six_cells (keep b0 y2)))
          go_ret
          exact ⟨rfl, bt bW c7⟩
        | true =>
          rw [hD] at kV
          obtain ⟨m, rfl, rfl, rfl, rfl, m1, m8, hmx, hmp, _, _, _⟩ := trk_of hD
          have h64 := mul_le_64 n8 n8
          have m64 := mul_le_64 m8 m8
          have kG := fun v hs => kgood_any n n1 n8 (.slice lo ls.length lc) ls hp ip v hs
          have kG' := fun v hs => rgood_any n n1 n8 (.slice lo ls.length lc) ls hp ip v hs
          have lg : (gd n ls).length = n * n := gd_len _ _
          have pg : 0 < (gd n ls).length := by rw [lg]; exact Nat.mul_pos n1 n1
          have kE := fun va vb v sa sb => rsame_any n n n n va vb (gd n ls) (gd n ls) v (by omega) (by omega) sa sb
          rw [sameB_self] at kE
          have kQ := fun v sa sb sc sd => ksame_any n 1 n n m 1 m m (.slice ko ks.length kc) (.slice lo ls.length lc) (.slice mo ms.length mc) (.slice no ns.length nc) ks ls ms ns v (by omega) (by omega) (by omega) (by omega) sa sb sc sd
          have kQ' := fun v sa sb sc sd => rsamet_any n 1 n n m 1 m m (.slice ko ks.length kc) (.slice lo ls.length lc) (.slice mo ms.length mc) (.slice no ns.length nc) ks ls ms ns v (by omega) (by omega) (by omega) (by omega) sa sb sc sd
          obtain ⟨sB, hsB⟩ : ∃ sB, (sameB n 1 ks m 1 ms && sameB n n ls m m ns) = sB := ⟨_, rfl⟩
          rw [hsB] at kQ kQ'
          clear hD hx hp ix ip he hmx hmp hsB lg
          generalize gd n ls = gs at kG kG' pg kE
          go_enter Try.func3, Try.ntmps3
          go_wp2_with (first
            | (have _ := b6; go_at_call 13; go_must (refine (kV _ c6).mono ?_); rintro e wh ⟨rfl, b7⟩; have c7 := bt c6 b7)
            | (have _ := b5; go_at_call 16; go_must (refine (kP _ c5).mono ?_); rintro e wg ⟨rfl, b6⟩; have c6 := bt c5 b6; obtain ⟨p0, p1, p2, p3, p4, p5⟩ := six_cells (keep c6 y1); obtain ⟨q0, q1, q2, q3, q4, q5⟩ := six_cells (keep c6 y2))
            | (have _ := b4; go_at_call 15; go_must (refine (kK _ c4).mono ?_); rintro e wf ⟨rfl, b5⟩; have c5 := bt c4 b5; obtain ⟨p0, p1, p2, p3, p4, p5⟩ := six_cells (keep c5 y1))
            | (have _ := b3; go_at_call 14; go_must (refine (kS _ _ _ _ _ (u1.below b3) (w1.below b3) (u2.below b3) (w2.below b3)).mono ?_); rintro e we ⟨rfl, b4⟩; have c4 := bt c3 b4; obtain ⟨p0, p1, p2, p3, p4, p5⟩ := six_cells (keep c4 y1))
            | (have _ := b2; go_at_call 13; go_must (refine (kT _ c2).mono ?_); rintro e wd ⟨rfl, b3⟩; have c3 := bt c2 b3; obtain ⟨l0, l1, l2, l3, l4, l5⟩ := six_cells (keep b3 hh1); obtain ⟨m0, m1, m2, m3, m4, m5⟩ := six_cells (keep b3 hh2))
            | (have _ := b1; go_at_call 12; go_must (refine (kN' _ (t1.below c1) (t2.below c1)).mono ?_); rintro e wc ⟨xo2, xc2, po2, pc2, rfl, u2, w2, b2⟩; have d2 := bt b2 (box_below wc (.cells #[.int .i64 r1, .int .i64 c1', .slice xo2 X.length xc2, .int .i64 r2, .int .i64 c2', .slice po2 P.length pc2] 26)); have c2 := bt c1 d2; have hh1 := keep d2 hh1; have hh2 := heap_new wc (.cells #[.int .i64 r1, .int .i64 c1', .slice xo2 X.length xc2, .int .i64 r2, .int .i64 c2', .slice po2 P.length pc2] 26); have u1 := u1.below d2; have w1 := w1.below d2; have u2 := u2.alloc (.cells #[.int .i64 r1, .int .i64 c1', .slice xo2 X.length xc2, .int .i64 r2, .int .i64 c2', .slice po2 P.length pc2] 26); have w2 := w2.alloc (.cells #[.int .i64 r1, .int .i64 c1', .slice xo2 X.length xc2, .int .i64 r2, .int .i64 c2', .slice po2 P.length pc2] 26); obtain ⟨p0, p1, p2, p3, p4, p5⟩ := six_cells (keep c2 y1))
            | (have _ := b0; go_at_call 11; go_must (refine (kN _ (t1.below b0) (t2.below b0)).mono ?_); rintro e wb ⟨xo1, xc1, po1, pc1, rfl, u1, w1, b1⟩; have c1 := bt b0 (bt b1 (box_below wb (.cells #[.int .i64 r1, .int .i64 c1', .slice xo1 X.length xc1, .int .i64 r2, .int .i64 c2', .slice po1 P.length pc1] 26))); have hh1 := heap_new wb (.cells #[.int .i64 r1, .int .i64 c1', .slice xo1 X.length xc1, .int .i64 r2, .int .i64 c2', .slice po1 P.length pc1] 26); have u1 := u1.alloc (.cells #[.int .i64 r1, .int .i64 c1', .slice xo1 X.length xc1, .int .i64 r2, .int .i64 c2', .slice po1 P.length pc1] 26); have w1 := w1.alloc (.cells #[.int .i64 r1, .int .i64 c1', .slice xo1 X.length xc1, .int .i64 r2, .int .i64 c2', .slice po1 P.length pc1] 26))
            | (go_at_call 10; go_must (refine (kshown_any _).mono ?_); rintro e wa ⟨rfl, b0⟩; obtain ⟨p0, p1, p2, p3, p4, p5⟩ := six_cells (keep b0 y1); obtain ⟨q0, q1, q2, q3, q4, q5⟩ := six_cells (keep b0 y2)))
          have hM : ∀ v, Mod (fun _ => False) wh v → Below wh.heap.size wh v := fun v hv => hv.below (Nat.le_refl _) (fun _ h => h.elim)
          have z1' := keep c7 y1
          have z2' := keep c7 y2
          refine amk_region (D5 := w.heap.size + 1) (D6 := w.heap.size + 1 + 1) (n := n) (m := m) (xc := kc) (pc := lc) (yc := mc) (qc := nc) (xo := ko) (po := lo) (yo := mo) (qo := no) (xs := ks) (ps := ls) (ys := ms) (us := ns) (gs := gs) (qs := gs) (sB := sB)
            (fun v hv => keep (hM v hv) z1') (fun v hv => (six_cells (keep (hM v hv) z1')).2.2.2) (fun v hv => keep (hM v hv) z2') (fun v hv => kG v (t4.below (bt c7 (hM v hv)))) pg (fun v hv => kG' v (t4.below (bt c7 (hM v hv)))) pg (fun v hv s hs t ht => kE s t v hs ht)
            (fun v hv => kQ v (t3.below (bt c7 (hM v hv))) (t4.below (bt c7 (hM v hv))) (t5.below (bt c7 (hM v hv))) (t6.below (bt c7 (hM v hv)))) (fun v hv => kQ' v (t3.below (bt c7 (hM v hv))) (t4.below (bt c7 (hM v hv))) (t5.below (bt c7 (hM v hv))) (t6.below (bt c7 (hM v hv)))) ?_
          intro us' w8 m8' e2
          unfold amkFr
          rw [e2]
          go_wp2
          go_ret
          exact ⟨rfl, bt bW (bt c7 (hM _ m8'))⟩
end Go.Proofs.Ytiniobcknmaigaa
