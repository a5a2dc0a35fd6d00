/-
  The walk of KalmanGates.
-/
import Derived.Test.YtiniobcknmaigaaGKGate
import Derived.Test.YtiniobcknmaigaaG35
import Derived.Test.YtiniobcknmaigaaG36
import Derived.Test.YtiniobcknmaigaaG25
namespace Go.Proofs.Ytiniobcknmaigaa
open Go.RowKit Go.Sort Qm

set_option maxRecDepth 20000 in
set_option maxHeartbeats 6400000 in
theorem kalmanGates_walk (ta ua tb ub rh ch r off : Int) (v1 v2 v3 : Value) (xs ps hs : List Int) (w : World) (s1 : Sees w v1 xs) (s2 : Sees w v2 ps) (s3 : Sees w v3 hs) :
    Calls Try.prog 5 #[.agg #[.int .i64 ta, .int .i64 ua, v1, .int .i64 tb, .int .i64 ub, v2, .int .i64 rh, .int .i64 ch, v3, .int .i64 r, .int .i64 off]] w fun e w' => e = .returned (.bool true) ∧ Below w.heap.size w w' := by
  obtain ⟨xo, xc, rfl⟩ := s1.slice
  obtain ⟨po, pc, rfl⟩ := s2.slice
  obtain ⟨ho, hc, rfl⟩ := s3.slice
  obtain ⟨W, hW⟩ : ∃ W, ((w.alloc (.cells #[.int .i64 ta, .int .i64 ua, .slice xo xs.length xc, .int .i64 tb, .int .i64 ub, .slice po ps.length pc, .int .i64 rh, .int .i64 ch, .slice ho hs.length hc, .int .i64 r, .int .i64 off] 51)).alloc (.cells #[.int .i64 ta, .int .i64 ua, .slice xo xs.length xc, .int .i64 tb, .int .i64 ub, .slice po ps.length pc] 26)).alloc (.cells #[.int .i64 rh, .int .i64 ch, .slice ho hs.length hc] 24) = W := ⟨_, rfl⟩
  obtain ⟨y0, y1, y2⟩ := allocs3 w (.cells #[.int .i64 ta, .int .i64 ua, .slice xo xs.length xc, .int .i64 tb, .int .i64 ub, .slice po ps.length pc, .int .i64 rh, .int .i64 ch, .slice ho hs.length hc, .int .i64 r, .int .i64 off] 51) (.cells #[.int .i64 ta, .int .i64 ua, .slice xo xs.length xc, .int .i64 tb, .int .i64 ub, .slice po ps.length pc] 26) (.cells #[.int .i64 rh, .int .i64 ch, .slice ho hs.length hc] 24)
  have bW := ball3 w (.cells #[.int .i64 ta, .int .i64 ua, .slice xo xs.length xc, .int .i64 tb, .int .i64 ub, .slice po ps.length pc, .int .i64 rh, .int .i64 ch, .slice ho hs.length hc, .int .i64 r, .int .i64 off] 51) (.cells #[.int .i64 ta, .int .i64 ua, .slice xo xs.length xc, .int .i64 tb, .int .i64 ub, .slice po ps.length pc] 26) (.cells #[.int .i64 rh, .int .i64 ch, .slice ho hs.length hc] 24)
  rw [hW] at y0 y1 y2 bW
  have x9 : W.cell? ⟨w.heap.size, 9, none⟩ = some (.int .i64 r) := by simp [World.cell?, y0]
  have x10 : W.cell? ⟨w.heap.size, 10, none⟩ = some (.int .i64 off) := by simp [World.cell?, y0]
  clear y0
  have t1 := s1.below bW
  have t2 := s2.below bW
  have t3 := s3.below bW
  have kT := fun v hv => rright5_any ta ua tb ub _ _ xs ps v (t1.below hv) (t2.below hv)
  have kH := fun v hv => rright_any rh ch _ hs v (t3.below hv)
  cases hT : trkB ta ua xs tb ub ps with
  | false =>
    rw [hT] at kT
    clear hT
    go_enter Try.func5, Try.ntmps5
    go_wp2_with (first
      | (have _ := b0; go_at_call 13; go_must (refine (kT _ b0).mono ?_); rintro e wb ⟨rfl, b1⟩; have c1 := bt b0 b1; obtain ⟨q0, q1, q2, _⟩ := mat_cells (keep c1 y2))
      | (go_at_call 10; go_must (refine (kshown_any _).mono ?_); rintro e wa ⟨rfl, b0⟩; obtain ⟨p0, p1, p2, p3, p4, p5⟩ := six_cells (keep b0 y1)))
    go_ret
    exact ⟨rfl, bt bW c1⟩
  | true =>
    cases hH : rightB rh ch hs with
    | false =>
      rw [hT] at kT
      rw [hH] at kH
      clear hT hH
      go_enter Try.func5, Try.ntmps5
      go_wp2_with (first
        | (have _ := b1; go_at_call 16; go_must (refine (kH _ c1).mono ?_); rintro e wc ⟨rfl, b2⟩; have c2 := bt c1 b2; obtain ⟨p0, p1, p2, p3, p4, p5⟩ := six_cells (keep c2 y1); obtain ⟨q0, q1, q2, _⟩ := mat_cells (keep c2 y2))
        | (have _ := b0; go_at_call 13; go_must (refine (kT _ b0).mono ?_); rintro e wb ⟨rfl, b1⟩; have c1 := bt b0 b1; obtain ⟨q0, q1, q2, _⟩ := mat_cells (keep c1 y2))
        | (go_at_call 10; go_must (refine (kshown_any _).mono ?_); rintro e wa ⟨rfl, b0⟩; obtain ⟨p0, p1, p2, p3, p4, p5⟩ := six_cells (keep b0 y1)))
      go_ret
      exact ⟨rfl, bt bW c2⟩
    | true =>
      rw [hT] at kT
      rw [hH] at kH
      obtain ⟨n, rfl, rfl, rfl, rfl, n1, n8, hx, hp, ix, ip, he⟩ := trk_of hT
      obtain ⟨R, C, hR⟩ := right_of hH
      by_cases g1 : rh = 1
      · subst g1
        by_cases g2 : ch = n
        · subst g2
          by_cases g3 : r ≤ 0
          · clear hT hH hR hx hp ix ip he
            go_enter Try.func5, Try.ntmps5
            go_wp2_with (first
              | (have _ := b1; go_at_call 16; go_must (refine (kH _ c1).mono ?_); rintro e wc ⟨rfl, b2⟩; have c2 := bt c1 b2; obtain ⟨p0, p1, p2, p3, p4, p5⟩ := six_cells (keep c2 y1); obtain ⟨q0, q1, q2, _⟩ := mat_cells (keep c2 y2))
              | (have _ := b0; go_at_call 13; go_must (refine (kT _ b0).mono ?_); rintro e wb ⟨rfl, b1⟩; have c1 := bt b0 b1; obtain ⟨q0, q1, q2, _⟩ := mat_cells (keep c1 y2))
              | (go_at_call 10; go_must (refine (kshown_any _).mono ?_); rintro e wa ⟨rfl, b0⟩; obtain ⟨p0, p1, p2, p3, p4, p5⟩ := six_cells (keep b0 y1)))
            go_ret
            exact ⟨rfl, bt bW c2⟩
          · have hr : 0 < r := by omega
            have a1 := hR.hr
            have a2 := hR.hc
            have e1 : R = 1 := by omega
            have e2 : C = n := by omega
            subst e1 e2
            have hh := hR.len
            have kI := fun z v hv => kinnov_any C n1 n8 (.slice xo xs.length xc) (.slice po ps.length pc) (.slice ho hs.length hc) xs ps hs hx hp hh z r hr v (t1.below hv) (t2.below hv) (t3.below hv)
            have kU := fun z gate v hv => upd_right C n1 n8 (.slice xo xs.length xc) (.slice po ps.length pc) (.slice ho hs.length hc) xs ps hs hx hp ix hh z r gate hr v (t1.below hv) (t2.below hv) (t3.below hv)
            have lx : xs.length ≤ 100 := by omega
            have kS := fun vb v sa sb => rsame_any C 1 C 1 vb (.slice xo xs.length xc) xs xs v lx lx sa sb
            rw [sameB_self] at kS
            have kI0 := kI 0
            have kI1 := kI off
            obtain ⟨hY1, hY2⟩ := inY_bd C xs hs 0
            have f1 := fun z hv hs1 => tk_right (n := C) (xs := xs) (ps := ps) (hs := hs) (z := z) (r := r) hv hs1
            have f2 := tk_none (n := C) (xs := xs) (ps := ps) (hs := hs) (z := off) (r := r)
            obtain ⟨Y, hY⟩ : ∃ Y, inY C xs hs 0 = Y := ⟨_, rfl⟩
            rw [hY] at kI0 hY1 hY2
            have kI2 := kI (-Y)
            have kU1 := kU (-Y) 16777216
            have kU2 := kU off (-16777216)
            have f1 := f1 (-Y)
            clear kI kU hY
            obtain ⟨K1, hK1⟩ : ∃ K1, tkB C xs ps hs (-Y) r 16777216 = K1 := ⟨_, rfl⟩
            obtain ⟨K2, hK2⟩ : ∃ K2, tkB C xs ps hs off r (-16777216) = K2 := ⟨_, rfl⟩
            obtain ⟨S, hS⟩ : ∃ S, inS C ps hs r = S := ⟨_, rfl⟩
            obtain ⟨D, hD⟩ : ∃ D, inY C xs hs off = D := ⟨_, rfl⟩
            obtain ⟨V, hV⟩ : ∃ V, inY C xs hs (-Y) = V := ⟨_, rfl⟩
            obtain ⟨F0, hF0⟩ : ∃ F0, inF C xs ps hs 0 r = F0 := ⟨_, rfl⟩
            obtain ⟨F1, hF1⟩ : ∃ F1, inF C xs ps hs off r = F1 := ⟨_, rfl⟩
            obtain ⟨F2, hF2⟩ : ∃ F2, inF C xs ps hs (-Y) r = F2 := ⟨_, rfl⟩
            rw [hS, hF0] at kI0
            rw [hD, hS, hF1] at kI1
            rw [hV, hS, hF2] at kI2
            rw [hK1, hV] at kU1
            rw [hK2, hD] at kU2
            rw [hV, hS, hK1] at f1
            rw [hS, hK2] at f2
            clear hK1 hK2 hS hD hV hF0 hF1 hF2 hT hH hR hx hp ix ip he hh a1 a2 lx
            by_cases k1 : Y ≤ -70368744177664
            · clear f1 f2
              go_enter Try.func5, Try.ntmps5
              go_wp2_with (first
                | (have _ := b5; go_at_call 23; go_must (refine (kI1 _ c5).mono ?_); rintro e wg ⟨rfl, b6⟩; have d6 := bt d5 b6; have c6 := bt c5 b6; obtain ⟨p0, p1, p2, p3, p4, p5⟩ := six_cells (keep c6 y1); obtain ⟨q0, q1, q2, _⟩ := mat_cells (keep c6 y2))
                | (have _ := b4; go_at_call 22; go_must (refine (kU2 _ c4).mono ?_); rintro e wf ⟨xo2, xc2, po2, pc2, xs2, pl2, od2, rfl, _, _, b5⟩; have d5 := bt b5 (box_below wf (.cells #[.int .i64 C, .int .i64 1, .slice xo2 xs2.length xc2, .int .i64 C, .int .i64 C, .slice po2 pl2 pc2] 26)); have c5 := bt c4 d5; obtain ⟨p0, p1, p2, p3, p4, p5⟩ := six_cells (keep c5 y1); obtain ⟨q0, q1, q2, _⟩ := mat_cells (keep c5 y2))
                | (have _ := b3; go_at_call 22; go_must (refine (kU1 _ c3).mono ?_); rintro e we ⟨xo1, xc1, po1, pc1, xs1, pl1, od1, rfl, u1, hk1, b4⟩; clear hk1; have c4 := bt c3 (bt b4 (box_below we (.cells #[.int .i64 C, .int .i64 1, .slice xo1 xs1.length xc1, .int .i64 C, .int .i64 C, .slice po1 pl1 pc1] 26))); have h9 := heap_new we (.cells #[.int .i64 C, .int .i64 1, .slice xo1 xs1.length xc1, .int .i64 C, .int .i64 C, .slice po1 pl1 pc1] 26); have z1 := u1.alloc (.cells #[.int .i64 C, .int .i64 1, .slice xo1 xs1.length xc1, .int .i64 C, .int .i64 C, .slice po1 pl1 pc1] 26); obtain ⟨p0, p1, p2, p3, p4, p5⟩ := six_cells (keep c4 y1); obtain ⟨q0, q1, q2, _⟩ := mat_cells (keep c4 y2))
                | (have _ := b2; go_at_call 23; go_must (refine (kI0 _ c2).mono ?_); rintro e wd ⟨rfl, b3⟩; have c3 := bt c2 b3; obtain ⟨p0, p1, p2, p3, p4, p5⟩ := six_cells (keep c3 y1); obtain ⟨q0, q1, q2, _⟩ := mat_cells (keep c3 y2))
                | (have _ := b1; go_at_call 16; go_must (refine (kH _ c1).mono ?_); rintro e wc ⟨rfl, b2⟩; have c2 := bt c1 b2; obtain ⟨p0, p1, p2, p3, p4, p5⟩ := six_cells (keep c2 y1); obtain ⟨q0, q1, q2, _⟩ := mat_cells (keep c2 y2))
                | (have _ := b0; go_at_call 13; go_must (refine (kT _ b0).mono ?_); rintro e wb ⟨rfl, b1⟩; have c1 := bt b0 b1; obtain ⟨q0, q1, q2, _⟩ := mat_cells (keep c1 y2))
                | (go_at_call 10; go_must (refine (kshown_any _).mono ?_); rintro e wa ⟨rfl, b0⟩; obtain ⟨p0, p1, p2, p3, p4, p5⟩ := six_cells (keep b0 y1)))
              go_ret
              exact ⟨rfl, bt bW c6⟩
            · by_cases k2 : 70368744177663 ≤ Y
              · clear f1 f2
                go_enter Try.func5, Try.ntmps5
                go_wp2_with (first
                  | (have _ := b5; go_at_call 23; go_must (refine (kI1 _ c5).mono ?_); rintro e wg ⟨rfl, b6⟩; have d6 := bt d5 b6; have c6 := bt c5 b6; obtain ⟨p0, p1, p2, p3, p4, p5⟩ := six_cells (keep c6 y1); obtain ⟨q0, q1, q2, _⟩ := mat_cells (keep c6 y2))
                  | (have _ := b4; go_at_call 22; go_must (refine (kU2 _ c4).mono ?_); rintro e wf ⟨xo2, xc2, po2, pc2, xs2, pl2, od2, rfl, _, _, b5⟩; have d5 := bt b5 (box_below wf (.cells #[.int .i64 C, .int .i64 1, .slice xo2 xs2.length xc2, .int .i64 C, .int .i64 C, .slice po2 pl2 pc2] 26)); have c5 := bt c4 d5; obtain ⟨p0, p1, p2, p3, p4, p5⟩ := six_cells (keep c5 y1); obtain ⟨q0, q1, q2, _⟩ := mat_cells (keep c5 y2))
                  | (have _ := b3; go_at_call 22; go_must (refine (kU1 _ c3).mono ?_); rintro e we ⟨xo1, xc1, po1, pc1, xs1, pl1, od1, rfl, u1, hk1, b4⟩; clear hk1; have c4 := bt c3 (bt b4 (box_below we (.cells #[.int .i64 C, .int .i64 1, .slice xo1 xs1.length xc1, .int .i64 C, .int .i64 C, .slice po1 pl1 pc1] 26))); have h9 := heap_new we (.cells #[.int .i64 C, .int .i64 1, .slice xo1 xs1.length xc1, .int .i64 C, .int .i64 C, .slice po1 pl1 pc1] 26); have z1 := u1.alloc (.cells #[.int .i64 C, .int .i64 1, .slice xo1 xs1.length xc1, .int .i64 C, .int .i64 C, .slice po1 pl1 pc1] 26); obtain ⟨p0, p1, p2, p3, p4, p5⟩ := six_cells (keep c4 y1); obtain ⟨q0, q1, q2, _⟩ := mat_cells (keep c4 y2))
                  | (have _ := b2; go_at_call 23; go_must (refine (kI0 _ c2).mono ?_); rintro e wd ⟨rfl, b3⟩; have c3 := bt c2 b3; obtain ⟨p0, p1, p2, p3, p4, p5⟩ := six_cells (keep c3 y1); obtain ⟨q0, q1, q2, _⟩ := mat_cells (keep c3 y2))
                  | (have _ := b1; go_at_call 16; go_must (refine (kH _ c1).mono ?_); rintro e wc ⟨rfl, b2⟩; have c2 := bt c1 b2; obtain ⟨p0, p1, p2, p3, p4, p5⟩ := six_cells (keep c2 y1); obtain ⟨q0, q1, q2, _⟩ := mat_cells (keep c2 y2))
                  | (have _ := b0; go_at_call 13; go_must (refine (kT _ b0).mono ?_); rintro e wb ⟨rfl, b1⟩; have c1 := bt b0 b1; obtain ⟨q0, q1, q2, _⟩ := mat_cells (keep c1 y2))
                  | (go_at_call 10; go_must (refine (kshown_any _).mono ?_); rintro e wa ⟨rfl, b0⟩; obtain ⟨p0, p1, p2, p3, p4, p5⟩ := six_cells (keep b0 y1)))
                go_ret
                exact ⟨rfl, bt bW c6⟩
              · by_cases k3 : S < 16777216
                · clear f1 f2
                  go_enter Try.func5, Try.ntmps5
                  go_wp2_with (first
                    | (have _ := b5; go_at_call 23; go_must (refine (kI1 _ c5).mono ?_); rintro e wg ⟨rfl, b6⟩; have d6 := bt d5 b6; have c6 := bt c5 b6; obtain ⟨p0, p1, p2, p3, p4, p5⟩ := six_cells (keep c6 y1); obtain ⟨q0, q1, q2, _⟩ := mat_cells (keep c6 y2))
                    | (have _ := b4; go_at_call 22; go_must (refine (kU2 _ c4).mono ?_); rintro e wf ⟨xo2, xc2, po2, pc2, xs2, pl2, od2, rfl, _, _, b5⟩; have d5 := bt b5 (box_below wf (.cells #[.int .i64 C, .int .i64 1, .slice xo2 xs2.length xc2, .int .i64 C, .int .i64 C, .slice po2 pl2 pc2] 26)); have c5 := bt c4 d5; obtain ⟨p0, p1, p2, p3, p4, p5⟩ := six_cells (keep c5 y1); obtain ⟨q0, q1, q2, _⟩ := mat_cells (keep c5 y2))
                    | (have _ := b3; go_at_call 22; go_must (refine (kU1 _ c3).mono ?_); rintro e we ⟨xo1, xc1, po1, pc1, xs1, pl1, od1, rfl, u1, hk1, b4⟩; clear hk1; have c4 := bt c3 (bt b4 (box_below we (.cells #[.int .i64 C, .int .i64 1, .slice xo1 xs1.length xc1, .int .i64 C, .int .i64 C, .slice po1 pl1 pc1] 26))); have h9 := heap_new we (.cells #[.int .i64 C, .int .i64 1, .slice xo1 xs1.length xc1, .int .i64 C, .int .i64 C, .slice po1 pl1 pc1] 26); have z1 := u1.alloc (.cells #[.int .i64 C, .int .i64 1, .slice xo1 xs1.length xc1, .int .i64 C, .int .i64 C, .slice po1 pl1 pc1] 26); obtain ⟨p0, p1, p2, p3, p4, p5⟩ := six_cells (keep c4 y1); obtain ⟨q0, q1, q2, _⟩ := mat_cells (keep c4 y2))
                    | (have _ := b2; go_at_call 23; go_must (refine (kI0 _ c2).mono ?_); rintro e wd ⟨rfl, b3⟩; have c3 := bt c2 b3; obtain ⟨p0, p1, p2, p3, p4, p5⟩ := six_cells (keep c3 y1); obtain ⟨q0, q1, q2, _⟩ := mat_cells (keep c3 y2))
                    | (have _ := b1; go_at_call 16; go_must (refine (kH _ c1).mono ?_); rintro e wc ⟨rfl, b2⟩; have c2 := bt c1 b2; obtain ⟨p0, p1, p2, p3, p4, p5⟩ := six_cells (keep c2 y1); obtain ⟨q0, q1, q2, _⟩ := mat_cells (keep c2 y2))
                    | (have _ := b0; go_at_call 13; go_must (refine (kT _ b0).mono ?_); rintro e wb ⟨rfl, b1⟩; have c1 := bt b0 b1; obtain ⟨q0, q1, q2, _⟩ := mat_cells (keep c1 y2))
                    | (go_at_call 10; go_must (refine (kshown_any _).mono ?_); rintro e wa ⟨rfl, b0⟩; obtain ⟨p0, p1, p2, p3, p4, p5⟩ := six_cells (keep b0 y1)))
                  go_ret
                  exact ⟨rfl, bt bW c6⟩
                · by_cases k4 : V = 0
                  · subst k4
                    have e1 := f1 rfl (by omega)
                    have e2 := f2 (by omega)
                    subst e1 e2
                    clear f1 f2
                    by_cases k5 : D = 0
                    · subst k5
                      go_enter Try.func5, Try.ntmps5
                      go_wp2_with (first
                        | (have _ := b7; go_at_call 17; go_must (refine (kS _ _ (z1.below d7) (t1.below c7)).mono ?_); rintro e wi ⟨rfl, b8⟩)
                        | (have _ := b6; go_at_call 23; go_must (refine (kI2 _ c6).mono ?_); rintro e wh ⟨rfl, b7⟩; have d7 := bt d6 b7; have c7 := bt c6 b7; obtain ⟨p0, p1, p2, p3, p4, p5⟩ := six_cells (keep c7 y1); obtain ⟨m0, m1, m2, _, _, _⟩ := six_cells (keep d7 h9))
                        | (have _ := b5; go_at_call 23; go_must (refine (kI1 _ c5).mono ?_); rintro e wg ⟨rfl, b6⟩; have d6 := bt d5 b6; have c6 := bt c5 b6; obtain ⟨p0, p1, p2, p3, p4, p5⟩ := six_cells (keep c6 y1); obtain ⟨q0, q1, q2, _⟩ := mat_cells (keep c6 y2))
                        | (have _ := b4; go_at_call 22; go_must (refine (kU2 _ c4).mono ?_); rintro e wf ⟨xo2, xc2, po2, pc2, xs2, pl2, od2, rfl, _, _, b5⟩; have d5 := bt b5 (box_below wf (.cells #[.int .i64 C, .int .i64 1, .slice xo2 xs2.length xc2, .int .i64 C, .int .i64 C, .slice po2 pl2 pc2] 26)); have c5 := bt c4 d5; obtain ⟨p0, p1, p2, p3, p4, p5⟩ := six_cells (keep c5 y1); obtain ⟨q0, q1, q2, _⟩ := mat_cells (keep c5 y2))
                        | (have _ := b3; go_at_call 22; go_must (refine (kU1 _ c3).mono ?_); rintro e we ⟨xo1, xc1, po1, pc1, xs1, pl1, od1, rfl, u1, hk1, b4⟩; have hk2 := (hk1 (by simp) (by simp)).symm; subst hk2; have c4 := bt c3 (bt b4 (box_below we (.cells #[.int .i64 C, .int .i64 1, .slice xo1 xs.length xc1, .int .i64 C, .int .i64 C, .slice po1 pl1 pc1] 26))); have h9 := heap_new we (.cells #[.int .i64 C, .int .i64 1, .slice xo1 xs.length xc1, .int .i64 C, .int .i64 C, .slice po1 pl1 pc1] 26); have z1 := u1.alloc (.cells #[.int .i64 C, .int .i64 1, .slice xo1 xs.length xc1, .int .i64 C, .int .i64 C, .slice po1 pl1 pc1] 26); obtain ⟨p0, p1, p2, p3, p4, p5⟩ := six_cells (keep c4 y1); obtain ⟨q0, q1, q2, _⟩ := mat_cells (keep c4 y2))
                        | (have _ := b2; go_at_call 23; go_must (refine (kI0 _ c2).mono ?_); rintro e wd ⟨rfl, b3⟩; have c3 := bt c2 b3; obtain ⟨p0, p1, p2, p3, p4, p5⟩ := six_cells (keep c3 y1); obtain ⟨q0, q1, q2, _⟩ := mat_cells (keep c3 y2))
                        | (have _ := b1; go_at_call 16; go_must (refine (kH _ c1).mono ?_); rintro e wc ⟨rfl, b2⟩; have c2 := bt c1 b2; obtain ⟨p0, p1, p2, p3, p4, p5⟩ := six_cells (keep c2 y1); obtain ⟨q0, q1, q2, _⟩ := mat_cells (keep c2 y2))
                        | (have _ := b0; go_at_call 13; go_must (refine (kT _ b0).mono ?_); rintro e wb ⟨rfl, b1⟩; have c1 := bt b0 b1; obtain ⟨q0, q1, q2, _⟩ := mat_cells (keep c1 y2))
                        | (go_at_call 10; go_must (refine (kshown_any _).mono ?_); rintro e wa ⟨rfl, b0⟩; obtain ⟨p0, p1, p2, p3, p4, p5⟩ := six_cells (keep b0 y1)))
                      go_ret
                      exact ⟨rfl, bt bW (bt c7 b8)⟩
                    · have k5' : (D == 0) = false := by simpa using k5
                      go_enter Try.func5, Try.ntmps5
                      go_wp2_with (first
                        | (have _ := b7; go_at_call 17; go_must (refine (kS _ _ (z1.below d7) (t1.below c7)).mono ?_); rintro e wi ⟨rfl, b8⟩)
                        | (have _ := b6; go_at_call 23; go_must (refine (kI2 _ c6).mono ?_); rintro e wh ⟨rfl, b7⟩; have d7 := bt d6 b7; have c7 := bt c6 b7; obtain ⟨p0, p1, p2, p3, p4, p5⟩ := six_cells (keep c7 y1); obtain ⟨m0, m1, m2, _, _, _⟩ := six_cells (keep d7 h9))
                        | (have _ := b5; go_at_call 23; go_must (refine (kI1 _ c5).mono ?_); rintro e wg ⟨rfl, b6⟩; have d6 := bt d5 b6; have c6 := bt c5 b6; obtain ⟨p0, p1, p2, p3, p4, p5⟩ := six_cells (keep c6 y1); obtain ⟨q0, q1, q2, _⟩ := mat_cells (keep c6 y2))
                        | (have _ := b4; go_at_call 22; go_must (refine (kU2 _ c4).mono ?_); rintro e wf ⟨xo2, xc2, po2, pc2, xs2, pl2, od2, rfl, _, _, b5⟩; have d5 := bt b5 (box_below wf (.cells #[.int .i64 C, .int .i64 1, .slice xo2 xs2.length xc2, .int .i64 C, .int .i64 C, .slice po2 pl2 pc2] 26)); have c5 := bt c4 d5; obtain ⟨p0, p1, p2, p3, p4, p5⟩ := six_cells (keep c5 y1); obtain ⟨q0, q1, q2, _⟩ := mat_cells (keep c5 y2))
                        | (have _ := b3; go_at_call 22; go_must (refine (kU1 _ c3).mono ?_); rintro e we ⟨xo1, xc1, po1, pc1, xs1, pl1, od1, rfl, u1, hk1, b4⟩; have hk2 := (hk1 (by simp) (by simp)).symm; subst hk2; have c4 := bt c3 (bt b4 (box_below we (.cells #[.int .i64 C, .int .i64 1, .slice xo1 xs.length xc1, .int .i64 C, .int .i64 C, .slice po1 pl1 pc1] 26))); have h9 := heap_new we (.cells #[.int .i64 C, .int .i64 1, .slice xo1 xs.length xc1, .int .i64 C, .int .i64 C, .slice po1 pl1 pc1] 26); have z1 := u1.alloc (.cells #[.int .i64 C, .int .i64 1, .slice xo1 xs.length xc1, .int .i64 C, .int .i64 C, .slice po1 pl1 pc1] 26); obtain ⟨p0, p1, p2, p3, p4, p5⟩ := six_cells (keep c4 y1); obtain ⟨q0, q1, q2, _⟩ := mat_cells (keep c4 y2))
                        | (have _ := b2; go_at_call 23; go_must (refine (kI0 _ c2).mono ?_); rintro e wd ⟨rfl, b3⟩; have c3 := bt c2 b3; obtain ⟨p0, p1, p2, p3, p4, p5⟩ := six_cells (keep c3 y1); obtain ⟨q0, q1, q2, _⟩ := mat_cells (keep c3 y2))
                        | (have _ := b1; go_at_call 16; go_must (refine (kH _ c1).mono ?_); rintro e wc ⟨rfl, b2⟩; have c2 := bt c1 b2; obtain ⟨p0, p1, p2, p3, p4, p5⟩ := six_cells (keep c2 y1); obtain ⟨q0, q1, q2, _⟩ := mat_cells (keep c2 y2))
                        | (have _ := b0; go_at_call 13; go_must (refine (kT _ b0).mono ?_); rintro e wb ⟨rfl, b1⟩; have c1 := bt b0 b1; obtain ⟨q0, q1, q2, _⟩ := mat_cells (keep c1 y2))
                        | (go_at_call 10; go_must (refine (kshown_any _).mono ?_); rintro e wa ⟨rfl, b0⟩; obtain ⟨p0, p1, p2, p3, p4, p5⟩ := six_cells (keep b0 y1)))
                      go_ret
                      exact ⟨rfl, bt bW (bt c7 b8)⟩
                  · clear f1 f2
                    go_enter Try.func5, Try.ntmps5
                    go_wp2_with (first
                      | (have _ := b6; go_at_call 23; go_must (refine (kI2 _ c6).mono ?_); rintro e wh ⟨rfl, b7⟩; have d7 := bt d6 b7; have c7 := bt c6 b7; obtain ⟨p0, p1, p2, p3, p4, p5⟩ := six_cells (keep c7 y1); obtain ⟨m0, m1, m2, _, _, _⟩ := six_cells (keep d7 h9))
                      | (have _ := b5; go_at_call 23; go_must (refine (kI1 _ c5).mono ?_); rintro e wg ⟨rfl, b6⟩; have d6 := bt d5 b6; have c6 := bt c5 b6; obtain ⟨p0, p1, p2, p3, p4, p5⟩ := six_cells (keep c6 y1); obtain ⟨q0, q1, q2, _⟩ := mat_cells (keep c6 y2))
                      | (have _ := b4; go_at_call 22; go_must (refine (kU2 _ c4).mono ?_); rintro e wf ⟨xo2, xc2, po2, pc2, xs2, pl2, od2, rfl, _, _, b5⟩; have d5 := bt b5 (box_below wf (.cells #[.int .i64 C, .int .i64 1, .slice xo2 xs2.length xc2, .int .i64 C, .int .i64 C, .slice po2 pl2 pc2] 26)); have c5 := bt c4 d5; obtain ⟨p0, p1, p2, p3, p4, p5⟩ := six_cells (keep c5 y1); obtain ⟨q0, q1, q2, _⟩ := mat_cells (keep c5 y2))
                      | (have _ := b3; go_at_call 22; go_must (refine (kU1 _ c3).mono ?_); rintro e we ⟨xo1, xc1, po1, pc1, xs1, pl1, od1, rfl, u1, hk1, b4⟩; clear hk1; have c4 := bt c3 (bt b4 (box_below we (.cells #[.int .i64 C, .int .i64 1, .slice xo1 xs1.length xc1, .int .i64 C, .int .i64 C, .slice po1 pl1 pc1] 26))); have h9 := heap_new we (.cells #[.int .i64 C, .int .i64 1, .slice xo1 xs1.length xc1, .int .i64 C, .int .i64 C, .slice po1 pl1 pc1] 26); have z1 := u1.alloc (.cells #[.int .i64 C, .int .i64 1, .slice xo1 xs1.length xc1, .int .i64 C, .int .i64 C, .slice po1 pl1 pc1] 26); obtain ⟨p0, p1, p2, p3, p4, p5⟩ := six_cells (keep c4 y1); obtain ⟨q0, q1, q2, _⟩ := mat_cells (keep c4 y2))
                      | (have _ := b2; go_at_call 23; go_must (refine (kI0 _ c2).mono ?_); rintro e wd ⟨rfl, b3⟩; have c3 := bt c2 b3; obtain ⟨p0, p1, p2, p3, p4, p5⟩ := six_cells (keep c3 y1); obtain ⟨q0, q1, q2, _⟩ := mat_cells (keep c3 y2))
                      | (have _ := b1; go_at_call 16; go_must (refine (kH _ c1).mono ?_); rintro e wc ⟨rfl, b2⟩; have c2 := bt c1 b2; obtain ⟨p0, p1, p2, p3, p4, p5⟩ := six_cells (keep c2 y1); obtain ⟨q0, q1, q2, _⟩ := mat_cells (keep c2 y2))
                      | (have _ := b0; go_at_call 13; go_must (refine (kT _ b0).mono ?_); rintro e wb ⟨rfl, b1⟩; have c1 := bt b0 b1; obtain ⟨q0, q1, q2, _⟩ := mat_cells (keep c1 y2))
                      | (go_at_call 10; go_must (refine (kshown_any _).mono ?_); rintro e wa ⟨rfl, b0⟩; obtain ⟨p0, p1, p2, p3, p4, p5⟩ := six_cells (keep b0 y1)))
                    go_ret
                    exact ⟨rfl, bt bW c7⟩
        · clear hT hH hR hx hp ix ip he
          go_enter Try.func5, Try.ntmps5
          go_wp2_with (first
            | (have _ := b1; go_at_call 16; go_must (refine (kH _ c1).mono ?_); rintro e wc ⟨rfl, b2⟩; have c2 := bt c1 b2; obtain ⟨p0, p1, p2, p3, p4, p5⟩ := six_cells (keep c2 y1); obtain ⟨q0, q1, q2, _⟩ := mat_cells (keep c2 y2))
            | (have _ := b0; go_at_call 13; go_must (refine (kT _ b0).mono ?_); rintro e wb ⟨rfl, b1⟩; have c1 := bt b0 b1; obtain ⟨q0, q1, q2, _⟩ := mat_cells (keep c1 y2))
            | (go_at_call 10; go_must (refine (kshown_any _).mono ?_); rintro e wa ⟨rfl, b0⟩; obtain ⟨p0, p1, p2, p3, p4, p5⟩ := six_cells (keep b0 y1)))
          go_ret
          exact ⟨rfl, bt bW c2⟩
      · clear hT hH hR hx hp ix ip he
        go_enter Try.func5, Try.ntmps5
        go_wp2_with (first
          | (have _ := b1; go_at_call 16; go_must (refine (kH _ c1).mono ?_); rintro e wc ⟨rfl, b2⟩; have c2 := bt c1 b2; obtain ⟨p0, p1, p2, p3, p4, p5⟩ := six_cells (keep c2 y1); obtain ⟨q0, q1, q2, _⟩ := mat_cells (keep c2 y2))
          | (have _ := b0; go_at_call 13; go_must (refine (kT _ b0).mono ?_); rintro e wb ⟨rfl, b1⟩; have c1 := bt b0 b1; obtain ⟨q0, q1, q2, _⟩ := mat_cells (keep c1 y2))
          | (go_at_call 10; go_must (refine (kshown_any _).mono ?_); rintro e wa ⟨rfl, b0⟩; obtain ⟨p0, p1, p2, p3, p4, p5⟩ := six_cells (keep b0 y1)))
        go_ret
        exact ⟨rfl, bt bW c2⟩
end Go.Proofs.Ytiniobcknmaigaa
