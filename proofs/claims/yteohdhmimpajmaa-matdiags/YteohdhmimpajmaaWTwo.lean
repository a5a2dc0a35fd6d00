/-
  The walk of MatTwo.
-/
import Derived.Test.YteohdhmimpajmaaBoth
import Derived.Deep.RegionWith
import Derived.Deep.CutRange
namespace Go.Proofs.Yteohdhmimpajmaa
open Go.RowKit Go.Sort Qm

def ShownOk : Prop := ∀ w, Calls Try.prog 10 #[] w fun e w' => e = .returned (.bool true) ∧ Below w.heap.size w w'
theorem rsame_calm (r c r' c' : Int) (va vb : Value) (xs ys : List Int) (w : World) (hx : xs.length ≤ 100) (hy : ys.length ≤ 100) (sa : Sees w va xs) (sb : Sees w vb ys) (d : Nat) (os : Array Obj) :
    Calls Try.prog 18 #[.agg #[.int .i64 r, .int .i64 c, va], .agg #[.int .i64 r', .int .i64 c', vb]] (grow (redrawn w d) os) fun e w'' => e = .returned (.bool (sameB r c xs r' c' ys)) ∧ ∃ p : Regrown, w'' = grow (redrawn w p.d) p.os :=
  Calls.regrown_of (rsame_any r c r' c' va vb xs ys _ hx hy (sa.below (below_regrown w d os)) (sb.below (below_regrown w d os)))
theorem same_calm (r c r' c' : Int) (va vb : Value) (xs ys : List Int) (w : World) (hx : xs.length ≤ 100) (hy : ys.length ≤ 100) (sa : Sees w va xs) (sb : Sees w vb ys) (d : Nat) (os : Array Obj) :
    Calls Try.prog 19 #[.agg #[.int .i64 r, .int .i64 c, va], .agg #[.int .i64 r', .int .i64 c', vb]] (grow (redrawn w d) os) fun e w'' => e = .returned (.bool (sameB r c xs r' c' ys)) ∧ ∃ p : Regrown, w'' = grow (redrawn w p.d) p.os :=
  Calls.regrown_of (same_any r c r' c' va vb xs ys _ hx hy (sa.below (below_regrown w d os)) (sb.below (below_regrown w d os)))

set_option maxRecDepth 40000 in
set_option maxHeartbeats 4000000 in
theorem mattwo_walk (hsh : ShownOk) (ra ca rb cb : Int) (va vb : Value) (xs ys : List Int) (w : World) (sa : Sees w va xs) (sb : Sees w vb ys) :
    Calls Try.prog 3 #[.agg #[.int .i64 ra, .int .i64 ca, va], .agg #[.int .i64 rb, .int .i64 cb, vb]] w fun e w' => e = .returned (.bool true) ∧ Below w.heap.size w w' := by
  obtain ⟨ao, cap, rfl⟩ := sa.slice
  obtain ⟨bo, bcap, rfl⟩ := sb.slice
  obtain ⟨V0, hV0⟩ : ∃ V0, (w.alloc (.cells #[.int .i64 ra, .int .i64 ca, .slice ao xs.length cap] 24)).alloc (.cells #[.int .i64 rb, .int .i64 cb, .slice bo ys.length bcap] 24) = V0 := ⟨_, rfl⟩
  obtain ⟨x1, x2⟩ := allocs2 w (.cells #[.int .i64 ra, .int .i64 ca, .slice ao xs.length cap] 24) (.cells #[.int .i64 rb, .int .i64 cb, .slice bo ys.length bcap] 24)
  have b0 := ball2 w (.cells #[.int .i64 ra, .int .i64 ca, .slice ao xs.length cap] 24) (.cells #[.int .i64 rb, .int .i64 cb, .slice bo ys.length bcap] 24)
  rw [hV0] at x1 x2 b0
  have sa0 := sa.below b0
  have sb0 := sb.below b0
  clear sa sb
  unfold ShownOk at hsh
  have armS : True := trivial
  cases hra : rightB ra ca xs with
  | false =>
    go_enter Try.func3, Try.ntmps3
    go_wp2_with (first
      | (go_at_call 10; refine (hsh _).mono ?_; rintro e w1 ⟨rfl, b1⟩; obtain ⟨c0, c1, c2, _⟩ := mat_cells (keep b1 x1))
      | (go_at_call 11; refine (rright_any _ _ _ xs _ (sa0.below b1)).mono ?_; rintro e w2 ⟨rfl, b2⟩))
    go_ret
    exact ⟨rfl, bt (bt b0 b1) b2⟩
  | true =>
    cases hrb : rightB rb cb ys with
    | false =>
      go_enter Try.func3, Try.ntmps3
      go_wp2_with (first
        | (go_at_call 10; refine (hsh _).mono ?_; rintro e w1 ⟨rfl, b1⟩; obtain ⟨c0, c1, c2, _⟩ := mat_cells (keep b1 x1); obtain ⟨d0, d1, d2, _⟩ := mat_cells (keep b1 x2))
        | (go_at_call_of 11 (Value.slice ao xs.length cap); refine (rright_any _ _ _ xs _ (sa0.below b1)).mono ?_; rintro e w2 ⟨rfl, b2⟩; obtain ⟨e0, e1, e2, _⟩ := mat_cells (keep b2 (keep b1 x2)))
        | (go_at_call 11; refine (rright_any _ _ _ ys _ (sb0.below (bt b1 b2))).mono ?_; rintro e w3 ⟨rfl, b3⟩))
      go_ret
      exact ⟨rfl, bt (bt (bt b0 b1) b2) b3⟩
    | true =>
      obtain ⟨R, C, ha⟩ := right_of hra
      obtain ⟨R', C', hb⟩ := right_of hrb
      have hxl : xs.length ≤ 100 := Nat.le_trans ha.le (by decide)
      have hyl : ys.length ≤ 100 := Nat.le_trans hb.le (by decide)
      obtain ⟨r1, c1, z1, o1, e1, l1, t1, t2⟩ := add_both ha hb
      obtain ⟨r3, c3, z3, o3, e3, l3, t3, t4⟩ := sub_both ha hb
      obtain ⟨r5, c5, z5, o5, e5, l5, t5, t6⟩ := mul_both ha hb
      have hs1 := sameB_self r1 c1 z1
      have hs3 := sameB_self r3 c3 z3
      have hs5 := sameB_self r5 c5 z5
      clear ha hb
      go_enter Try.func3, Try.ntmps3
      go_upto_region 4 with (first
        | (go_at_call 10; refine (hsh _).mono ?_; rintro e w1 ⟨rfl, b1⟩; obtain ⟨c0, c1, c2, _⟩ := mat_cells (keep b1 x1); obtain ⟨d0, d1, d2, _⟩ := mat_cells (keep b1 x2))
        | (go_at_call_of 11 (Value.slice ao xs.length cap); refine (rright_any _ _ _ xs _ (sa0.below b1)).mono ?_; rintro e w2 ⟨rfl, b2⟩; obtain ⟨e0, e1, e2, _⟩ := mat_cells (keep b2 (keep b1 x2)))
        | (go_at_call 11; refine (rright_any _ _ _ ys _ (sb0.below (bt b1 b2))).mono ?_; rintro e w3 ⟨rfl, b3⟩))
      have B0 := bt (bt b1 b2) b3
      clear hra hrb hsh b1 b2 b3 armS hV0
      try clear c0 c1 c2 d0 d1 d2 e0 e1 e2

      have hc1 := t1 w3 _ _ (sa0.below B0) (sb0.below B0)
      obtain ⟨p0, p1, p2, _⟩ := mat_cells (keep B0 x1)
      obtain ⟨q0, q1, q2, _⟩ := mat_cells (keep B0 x2)
      go_upto_region 5 with (go_at_call 12; refine hc1.mono ?_; rintro e y1 ⟨v1, rfl, s1, g1⟩; obtain ⟨ao1, cap1, rfl⟩ := s1.slice)
      have m1 := heap_new y1 (.cells #[.int .i64 r1, .int .i64 c1, .slice ao1 z1.length cap1] 24)
      have u1 := s1.alloc (.cells #[.int .i64 r1, .int .i64 c1, .slice ao1 z1.length cap1] 24)
      have k1 := bt g1 (box_below y1 (.cells #[.int .i64 r1, .int .i64 c1, .slice ao1 z1.length cap1] 24))
      obtain ⟨V1, hV1⟩ : ∃ V, y1.alloc (.cells #[.int .i64 r1, .int .i64 c1, .slice ao1 z1.length cap1] 24) = V := ⟨_, rfl⟩
      rw [hV1] at m1 u1 k1 ⊢
      have B1 := bt B0 k1
      clear hc1 p0 p1 p2 q0 q1 q2 hV1 s1 g1
      have hc2 := t2 V1 _ _ (sa0.below B1) (sb0.below B1)
      obtain ⟨p0, p1, p2, _⟩ := mat_cells (keep B1 x1)
      obtain ⟨q0, q1, q2, _⟩ := mat_cells (keep B1 x2)
      go_upto_region 6 with (go_at_call 13; refine hc2.mono ?_; rintro e y2 ⟨v2, rfl, s2, g2⟩; obtain ⟨ao2, cap2, rfl⟩ := s2.slice)
      have m2 := heap_new y2 (.cells #[.int .i64 r1, .int .i64 c1, .slice ao2 z1.length cap2] 24)
      have u2 := s2.alloc (.cells #[.int .i64 r1, .int .i64 c1, .slice ao2 z1.length cap2] 24)
      have k2 := bt g2 (box_below y2 (.cells #[.int .i64 r1, .int .i64 c1, .slice ao2 z1.length cap2] 24))
      obtain ⟨V2, hV2⟩ : ∃ V, y2.alloc (.cells #[.int .i64 r1, .int .i64 c1, .slice ao2 z1.length cap2] 24) = V := ⟨_, rfl⟩
      rw [hV2] at m2 u2 k2 ⊢
      have B2 := bt B1 k2
      clear hc2 p0 p1 p2 q0 q1 q2 hV2 s2 g2
      have hc3 := t3 V2 _ _ (sa0.below B2) (sb0.below B2)
      obtain ⟨p0, p1, p2, _⟩ := mat_cells (keep B2 x1)
      obtain ⟨q0, q1, q2, _⟩ := mat_cells (keep B2 x2)
      go_upto_region 7 with (go_at_call 14; refine hc3.mono ?_; rintro e y3 ⟨v3, rfl, s3, g3⟩; obtain ⟨ao3, cap3, rfl⟩ := s3.slice)
      have m3 := heap_new y3 (.cells #[.int .i64 r3, .int .i64 c3, .slice ao3 z3.length cap3] 24)
      have u3 := s3.alloc (.cells #[.int .i64 r3, .int .i64 c3, .slice ao3 z3.length cap3] 24)
      have k3 := bt g3 (box_below y3 (.cells #[.int .i64 r3, .int .i64 c3, .slice ao3 z3.length cap3] 24))
      obtain ⟨V3, hV3⟩ : ∃ V, y3.alloc (.cells #[.int .i64 r3, .int .i64 c3, .slice ao3 z3.length cap3] 24) = V := ⟨_, rfl⟩
      rw [hV3] at m3 u3 k3 ⊢
      have B3 := bt B2 k3
      clear hc3 p0 p1 p2 q0 q1 q2 hV3 s3 g3
      have hc4 := t4 V3 _ _ (sa0.below B3) (sb0.below B3)
      obtain ⟨p0, p1, p2, _⟩ := mat_cells (keep B3 x1)
      obtain ⟨q0, q1, q2, _⟩ := mat_cells (keep B3 x2)
      go_upto_region 8 with (go_at_call 15; refine hc4.mono ?_; rintro e y4 ⟨v4, rfl, s4, g4⟩; obtain ⟨ao4, cap4, rfl⟩ := s4.slice)
      have m4 := heap_new y4 (.cells #[.int .i64 r3, .int .i64 c3, .slice ao4 z3.length cap4] 24)
      have u4 := s4.alloc (.cells #[.int .i64 r3, .int .i64 c3, .slice ao4 z3.length cap4] 24)
      have k4 := bt g4 (box_below y4 (.cells #[.int .i64 r3, .int .i64 c3, .slice ao4 z3.length cap4] 24))
      obtain ⟨V4, hV4⟩ : ∃ V, y4.alloc (.cells #[.int .i64 r3, .int .i64 c3, .slice ao4 z3.length cap4] 24) = V := ⟨_, rfl⟩
      rw [hV4] at m4 u4 k4 ⊢
      have B4 := bt B3 k4
      clear hc4 p0 p1 p2 q0 q1 q2 hV4 s4 g4
      have hc5 := t5 V4 _ _ (sa0.below B4) (sb0.below B4)
      obtain ⟨p0, p1, p2, _⟩ := mat_cells (keep B4 x1)
      obtain ⟨q0, q1, q2, _⟩ := mat_cells (keep B4 x2)
      go_upto_region 9 with (go_at_call 16; refine hc5.mono ?_; rintro e y5 ⟨v5, rfl, s5, g5⟩; obtain ⟨ao5, cap5, rfl⟩ := s5.slice)
      have m5 := heap_new y5 (.cells #[.int .i64 r5, .int .i64 c5, .slice ao5 z5.length cap5] 24)
      have u5 := s5.alloc (.cells #[.int .i64 r5, .int .i64 c5, .slice ao5 z5.length cap5] 24)
      have k5 := bt g5 (box_below y5 (.cells #[.int .i64 r5, .int .i64 c5, .slice ao5 z5.length cap5] 24))
      obtain ⟨V5, hV5⟩ : ∃ V, y5.alloc (.cells #[.int .i64 r5, .int .i64 c5, .slice ao5 z5.length cap5] 24) = V := ⟨_, rfl⟩
      rw [hV5] at m5 u5 k5 ⊢
      have B5 := bt B4 k5
      clear hc5 p0 p1 p2 q0 q1 q2 hV5 s5 g5
      have hc6 := t6 V5 _ _ (sa0.below B5) (sb0.below B5)
      obtain ⟨p0, p1, p2, _⟩ := mat_cells (keep B5 x1)
      obtain ⟨q0, q1, q2, _⟩ := mat_cells (keep B5 x2)
      go_upto_region 10 with (go_at_call 17; refine hc6.mono ?_; rintro e y6 ⟨v6, rfl, s6, g6⟩; obtain ⟨ao6, cap6, rfl⟩ := s6.slice)
      have m6 := heap_new y6 (.cells #[.int .i64 r5, .int .i64 c5, .slice ao6 z5.length cap6] 24)
      have u6 := s6.alloc (.cells #[.int .i64 r5, .int .i64 c5, .slice ao6 z5.length cap6] 24)
      have k6 := bt g6 (box_below y6 (.cells #[.int .i64 r5, .int .i64 c5, .slice ao6 z5.length cap6] 24))
      obtain ⟨V6, hV6⟩ : ∃ V, y6.alloc (.cells #[.int .i64 r5, .int .i64 c5, .slice ao6 z5.length cap6] 24) = V := ⟨_, rfl⟩
      rw [hV6] at m6 u6 k6 ⊢
      have B6 := bt B5 k6
      clear hc6 p0 p1 p2 q0 q1 q2 hV6 s6 g6
      have j5 : Below V5.heap.size V5 V6 := k6
      have j4 := bt k5 j5
      have j3 := bt k4 j4
      have j2 := bt k3 j3
      have j1 := bt k2 j2
      have M1 := keep j1 m1
      have M2 := keep j2 m2
      have M3 := keep j3 m3
      have M4 := keep j4 m4
      have M5 := keep j5 m5
      have U1 := u1.below j1
      have U2 := u2.below j2
      have U3 := u3.below j3
      have U4 := u4.below j4
      have U5 := u5.below j5
      clear m1 m2 m3 m4 m5 u1 u2 u3 u4 u5 k1 k2 k3 k4 k5 k6 j1 j2 j3 j4 j5 t1 t2 t3 t4 t5 t6
      obtain ⟨f10, f11, f12, _⟩ := mat_cells M1
      obtain ⟨f20, f21, f22, _⟩ := mat_cells M2
      go_upto_region 11 with (first
        | (go_at_call_of 18 (Value.slice ao1 z1.length cap1); refine (rsame_any _ _ _ _ _ _ z1 z1 _ (by omega) (by omega) U1 U2).mono ?_; rintro e w7 ⟨rfl, b7⟩; obtain ⟨f30, f31, f32, _⟩ := mat_cells (keep b7 M3); obtain ⟨f40, f41, f42, _⟩ := mat_cells (keep b7 M4))
        | (go_at_call 18; refine (rsame_any _ _ _ _ _ _ z3 z3 _ (by omega) (by omega) (U3.below b7) (U4.below b7)).mono ?_; rintro e w8 ⟨rfl, b8⟩))
      have b78 := bt b7 b8
      have N5 := keep b78 M5
      have N6 := keep b78 m6
      have W5 := U5.below b78
      have W6 := u6.below b78
      have B8 := bt B6 b78
      have A8 := keep B8 x1
      have D8 := keep B8 x2
      have SA := sa0.below B8
      have SB := sb0.below B8
      obtain ⟨h10, h11, h12, _⟩ := mat_cells N5
      obtain ⟨h20, h21, h22, _⟩ := mat_cells N6
      obtain ⟨h30, h31, h32, _⟩ := mat_cells A8
      obtain ⟨h40, h41, h42, _⟩ := mat_cells D8
      have n10 := cell_regrown h10
      have n11 := cell_regrown h11
      have n12 := cell_regrown h12
      have n20 := cell_regrown h20
      have n21 := cell_regrown h21
      have n22 := cell_regrown h22
      have n30 := cell_regrown h30
      have n31 := cell_regrown h31
      have n32 := cell_regrown h32
      have n40 := cell_regrown h40
      have n41 := cell_regrown h41
      have n42 := cell_regrown h42
      have g1 := rsame_calm r5 c5 r5 c5 _ _ z5 z5 w8 (by omega) (by omega) W5 W6
      have g2 := same_calm ra ca rb cb _ _ xs ys w8 hxl hyl SA SB
      have g3 := rsame_calm ra ca rb cb _ _ xs ys w8 hxl hyl SA SB
      rw [hs5] at g1
      obtain ⟨Z, hZ⟩ : ∃ Z, sameB ra ca xs rb cb ys = Z := ⟨_, rfl⟩
      rw [hZ] at g2 g3
      clear M1 M2 M3 M4 M5 U1 U2 U3 U4 U5 m6 u6 b7 b8 N5 N6 W5 W6 A8 D8 SA SB h10 h11 h12 h20 h21 h22 h30 h31 h32 h40 h41 h42 hs1 hs3 hs5 hZ
      try clear f10 f11 f12 f20 f21 f22 f30 f31 f32 f40 f41 f42
      refine wp_region_quiet_below (by kernel_rfl) (by kernel_rfl) ?_
      repeat (quiet_step (first | (go_at_call_of 18 (Value.slice ao5 z5.length cap5); exact g1 _ _) | (go_at_call 19; exact g2 _ _) | (go_at_call 18; exact g3 _ _)))
      refine wpQuiet_nil ?_
      intro _ hw'
      obtain ⟨⟨dq, osq⟩, hw''⟩ := hw'
      subst hw''
      go_wp2
      go_ret
      exact ⟨by simp, bt (bt b0 B8) (below_regrown w8 dq osq)⟩
end Go.Proofs.Yteohdhmimpajmaa
