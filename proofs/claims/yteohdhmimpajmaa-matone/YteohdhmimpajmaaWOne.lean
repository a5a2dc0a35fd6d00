/-
  The walk of MatOne.
-/
import Derived.Test.YteohdhmimpajmaaWTwo
import Derived.Test.YteohdhmimpajmaaFactO
import Derived.Test.YteohdhmimpajmaaFactS
import Derived.Test.YteohdhmimpajmaaOnR
import Derived.Deep.RegionWith
import Derived.Deep.CutRange
namespace Go.Proofs.Yteohdhmimpajmaa
open Go.RowKit Go.Sort Qm

set_option maxRecDepth 40000 in
set_option maxHeartbeats 8000000 in
theorem matone_walk (hsh : ShownOk) (ra ca k0 n0 : Int) (va vl : Value) (xs ls : List Int) (w : World) (sa : Sees w va xs) (sl : Sees w vl ls) :
    Calls Try.prog 4 #[.agg #[.int .i64 ra, .int .i64 ca, va, .int .i64 k0, .int .i64 n0, vl]] w fun e w' => e = .returned (.bool true) ∧ Below w.heap.size w w' := by
  obtain ⟨ao, cap, rfl⟩ := sa.slice
  obtain ⟨lo, lcap, rfl⟩ := sl.slice
  obtain ⟨V0, hV0⟩ : ∃ V0, (w.alloc (.cells #[.int .i64 ra, .int .i64 ca, .slice ao xs.length cap, .int .i64 k0, .int .i64 n0, .slice lo ls.length lcap] 35)).alloc (.cells #[.int .i64 ra, .int .i64 ca, .slice ao xs.length cap] 24) = V0 := ⟨_, rfl⟩
  obtain ⟨x0, x1⟩ := allocs2 w (.cells #[.int .i64 ra, .int .i64 ca, .slice ao xs.length cap, .int .i64 k0, .int .i64 n0, .slice lo ls.length lcap] 35) (.cells #[.int .i64 ra, .int .i64 ca, .slice ao xs.length cap] 24)
  have b0 := ball2 w (.cells #[.int .i64 ra, .int .i64 ca, .slice ao xs.length cap, .int .i64 k0, .int .i64 n0, .slice lo ls.length lcap] 35) (.cells #[.int .i64 ra, .int .i64 ca, .slice ao xs.length cap] 24)
  rw [hV0] at x0 x1 b0
  have q3 : V0.cell? ⟨w.heap.size, 3, none⟩ = some (.int .i64 k0) := by simp [World.cell?, x0]
  have q4 : V0.cell? ⟨w.heap.size, 4, none⟩ = some (.int .i64 n0) := by simp [World.cell?, x0]
  have q5 : V0.cell? ⟨w.heap.size, 5, none⟩ = some (.slice lo ls.length lcap) := by simp [World.cell?, x0]
  clear x0
  have sa0 := sa.below b0
  have sl0 := sl.below b0
  clear sa sl
  unfold ShownOk at hsh
  by_cases h20 : ls.length ≤ 20
  · by_cases h100 : xs.length ≤ 100
    · have d1 : decide ((20 : Int) < (ls.length : Int)) = false := by simp; omega
      have d2 : decide ((100 : Int) < (xs.length : Int)) = false := by simp; omega
      have hxl : xs.length ≤ 100 := h100
      obtain ⟨r1, c1, z1, e1, l1, t1, t2⟩ := eye_both n0
      obtain ⟨r3, c3, z3, e3, l3, t3, t4⟩ := diag_both ls (by omega)
      have hs1 := sameB_self r1 c1 z1
      have hs3 := sameB_self r3 c3 z3
      cases hra : rightB ra ca xs with
      | false =>
      go_enter Try.func4, Try.ntmps4
      go_upto_region 8 with (first | (go_at_call 10; refine (hsh _).mono ?_; rintro e w1 ⟨rfl, b1⟩; obtain ⟨i0, i1, i2, _⟩ := mat_cells (keep b1 x1)))
      have B0 := b1
      clear hV0 hsh b1
      try clear i0 i1 i2
      have hc1 := t1 w1
      go_upto_region 9 with (go_at_call 20; refine hc1.mono ?_; rintro e y1 ⟨v1, rfl, s1, g1⟩; obtain ⟨ao1, cap1, hv1⟩ := s1.slice; subst hv1)
      have m1 := heap_new y1 (.cells #[.int .i64 r1, .int .i64 c1, .slice ao1 z1.length cap1] 24)
      have u1 := s1.alloc (.cells #[.int .i64 r1, .int .i64 c1, .slice ao1 z1.length cap1] 24)
      have k1 := bt g1 (box_below y1 (.cells #[.int .i64 r1, .int .i64 c1, .slice ao1 z1.length cap1] 24))
      obtain ⟨V1, hV1⟩ : ∃ V, y1.alloc (.cells #[.int .i64 r1, .int .i64 c1, .slice ao1 z1.length cap1] 24) = V := ⟨_, rfl⟩
      rw [hV1] at m1 u1 k1 ⊢
      have B1 := bt B0 k1
      clear hc1 hV1 s1 g1
      have hc2 := t2 V1
      go_upto_region 10 with (go_at_call 21; refine hc2.mono ?_; rintro e y2 ⟨v2, rfl, s2, g2⟩; obtain ⟨ao2, cap2, hv2⟩ := s2.slice; subst hv2)
      have m2 := heap_new y2 (.cells #[.int .i64 r1, .int .i64 c1, .slice ao2 z1.length cap2] 24)
      have u2 := s2.alloc (.cells #[.int .i64 r1, .int .i64 c1, .slice ao2 z1.length cap2] 24)
      have k2 := bt g2 (box_below y2 (.cells #[.int .i64 r1, .int .i64 c1, .slice ao2 z1.length cap2] 24))
      obtain ⟨V2, hV2⟩ : ∃ V, y2.alloc (.cells #[.int .i64 r1, .int .i64 c1, .slice ao2 z1.length cap2] 24) = V := ⟨_, rfl⟩
      rw [hV2] at m2 u2 k2 ⊢
      have B2 := bt B1 k2
      clear hc2 hV2 s2 g2
      have hc3 := t3 V2 _ (sl0.below B2)
      go_upto_region 11 with (go_at_call 22; refine hc3.mono ?_; rintro e y3 ⟨v3, rfl, s3, g3⟩; obtain ⟨ao3, cap3, hv3⟩ := s3.slice; subst hv3)
      have m3 := heap_new y3 (.cells #[.int .i64 r3, .int .i64 c3, .slice ao3 z3.length cap3] 24)
      have u3 := s3.alloc (.cells #[.int .i64 r3, .int .i64 c3, .slice ao3 z3.length cap3] 24)
      have k3 := bt g3 (box_below y3 (.cells #[.int .i64 r3, .int .i64 c3, .slice ao3 z3.length cap3] 24))
      obtain ⟨V3, hV3⟩ : ∃ V, y3.alloc (.cells #[.int .i64 r3, .int .i64 c3, .slice ao3 z3.length cap3] 24) = V := ⟨_, rfl⟩
      rw [hV3] at m3 u3 k3 ⊢
      have B3 := bt B2 k3
      clear hc3 hV3 s3 g3
      have hc4 := t4 V3 _ (sl0.below B3)
      go_upto_region 12 with (go_at_call 23; refine hc4.mono ?_; rintro e y4 ⟨v4, rfl, s4, g4⟩; obtain ⟨ao4, cap4, hv4⟩ := s4.slice; subst hv4)
      have m4 := heap_new y4 (.cells #[.int .i64 r3, .int .i64 c3, .slice ao4 z3.length cap4] 24)
      have u4 := s4.alloc (.cells #[.int .i64 r3, .int .i64 c3, .slice ao4 z3.length cap4] 24)
      have k4 := bt g4 (box_below y4 (.cells #[.int .i64 r3, .int .i64 c3, .slice ao4 z3.length cap4] 24))
      obtain ⟨V4, hV4⟩ : ∃ V, y4.alloc (.cells #[.int .i64 r3, .int .i64 c3, .slice ao4 z3.length cap4] 24) = V := ⟨_, rfl⟩
      rw [hV4] at m4 u4 k4 ⊢
      have B4 := bt B3 k4
      clear hc4 hV4 s4 g4
      have M1 := keep k4 (keep k3 (keep k2 m1))
      have M2 := keep k4 (keep k3 m2)
      have M3 := keep k4 m3
      have M4 := m4
      have U1 := u1.below (bt k2 (bt k3 k4))
      have U2 := u2.below (bt k3 k4)
      have U3 := u3.below k4
      have U4 := u4
      have X1 := keep B4 x1
      have SA := sa0.below B4
      clear m1 m2 m3 m4 u1 u2 u3 u4 k1 k2 k3 k4 t1 t2 t3 t4
      obtain ⟨f10, f11, f12, _⟩ := mat_cells X1
      go_wp2_with (first
        | (go_at_call 11; refine (rright_any _ _ _ xs _ SA).mono ?_; rintro e w5 ⟨rfl, b5⟩; obtain ⟨g10, g11, g12, _⟩ := mat_cells (keep b5 M1); obtain ⟨g20, g21, g22, _⟩ := mat_cells (keep b5 M2))
        | (go_at_call_of 18 (Value.slice ao1 z1.length cap1); refine (rsame_any _ _ _ _ _ _ z1 z1 _ (by omega) (by omega) (U1.below b5) (U2.below b5)).mono ?_; rintro e w6 ⟨rfl, b6⟩; obtain ⟨g30, g31, g32, _⟩ := mat_cells (keep b6 (keep b5 M3)); obtain ⟨g40, g41, g42, _⟩ := mat_cells (keep b6 (keep b5 M4)))
        | (go_at_call 18; refine (rsame_any _ _ _ _ _ _ z3 z3 _ (by omega) (by omega) (U3.below (bt b5 b6)) (U4.below (bt b5 b6))).mono ?_; rintro e w7 ⟨rfl, b7⟩; obtain ⟨g50, g51, g52, _⟩ := mat_cells (keep b7 (keep b6 (keep b5 X1))))
        | (go_at_call 24; refine (right_any _ _ _ xs _ hxl (SA.below (bt (bt b5 b6) b7))).mono ?_; rintro e w8 ⟨rfl, b8⟩))
      go_ret
      exact ⟨rfl, bt (bt (bt (bt (bt b0 B4) b5) b6) b7) b8⟩
      | true =>
      obtain ⟨R, C, ha⟩ := right_of hra
      obtain ⟨_, _, t5, t6⟩ := scales_facts ha k0
      obtain ⟨r7, c7, z7, o7, e7, l7, t7, t8⟩ := even_both ha
      obtain ⟨z9, l9, t9, t10⟩ := trans_both ha
      have l5 : (scl xs k0).length ≤ 100 := by rw [scl_len]; exact hxl
      obtain ⟨z5, hz5⟩ : ∃ z5, scl xs k0 = z5 := ⟨_, rfl⟩
      obtain ⟨o5, ho5⟩ : ∃ o5, sclB xs k0 = o5 := ⟨_, rfl⟩
      rw [hz5] at t5 t6 l5
      rw [ho5] at t5 t6
      have hs5 := sameB_self ra ca z5
      have hs7 := sameB_self r7 c7 z7
      have hs9 := sameB_self ca ra z9
      clear ha hz5 ho5
      go_enter Try.func4, Try.ntmps4
      go_upto_region 8 with (first | (go_at_call 10; refine (hsh _).mono ?_; rintro e w1 ⟨rfl, b1⟩; obtain ⟨i0, i1, i2, _⟩ := mat_cells (keep b1 x1)))
      have B0 := b1
      clear hV0 hsh b1
      try clear i0 i1 i2
      have hc1 := t1 w1
      go_upto_region 9 with (go_at_call 20; refine hc1.mono ?_; rintro e y1 ⟨v1, rfl, s1, g1⟩; obtain ⟨ao1, cap1, hv1⟩ := s1.slice; subst hv1)
      have m1 := heap_new y1 (.cells #[.int .i64 r1, .int .i64 c1, .slice ao1 z1.length cap1] 24)
      have u1 := s1.alloc (.cells #[.int .i64 r1, .int .i64 c1, .slice ao1 z1.length cap1] 24)
      have k1 := bt g1 (box_below y1 (.cells #[.int .i64 r1, .int .i64 c1, .slice ao1 z1.length cap1] 24))
      obtain ⟨V1, hV1⟩ : ∃ V, y1.alloc (.cells #[.int .i64 r1, .int .i64 c1, .slice ao1 z1.length cap1] 24) = V := ⟨_, rfl⟩
      rw [hV1] at m1 u1 k1 ⊢
      have B1 := bt B0 k1
      clear hc1 hV1 s1 g1
      have hc2 := t2 V1
      go_upto_region 10 with (go_at_call 21; refine hc2.mono ?_; rintro e y2 ⟨v2, rfl, s2, g2⟩; obtain ⟨ao2, cap2, hv2⟩ := s2.slice; subst hv2)
      have m2 := heap_new y2 (.cells #[.int .i64 r1, .int .i64 c1, .slice ao2 z1.length cap2] 24)
      have u2 := s2.alloc (.cells #[.int .i64 r1, .int .i64 c1, .slice ao2 z1.length cap2] 24)
      have k2 := bt g2 (box_below y2 (.cells #[.int .i64 r1, .int .i64 c1, .slice ao2 z1.length cap2] 24))
      obtain ⟨V2, hV2⟩ : ∃ V, y2.alloc (.cells #[.int .i64 r1, .int .i64 c1, .slice ao2 z1.length cap2] 24) = V := ⟨_, rfl⟩
      rw [hV2] at m2 u2 k2 ⊢
      have B2 := bt B1 k2
      clear hc2 hV2 s2 g2
      have hc3 := t3 V2 _ (sl0.below B2)
      go_upto_region 11 with (go_at_call 22; refine hc3.mono ?_; rintro e y3 ⟨v3, rfl, s3, g3⟩; obtain ⟨ao3, cap3, hv3⟩ := s3.slice; subst hv3)
      have m3 := heap_new y3 (.cells #[.int .i64 r3, .int .i64 c3, .slice ao3 z3.length cap3] 24)
      have u3 := s3.alloc (.cells #[.int .i64 r3, .int .i64 c3, .slice ao3 z3.length cap3] 24)
      have k3 := bt g3 (box_below y3 (.cells #[.int .i64 r3, .int .i64 c3, .slice ao3 z3.length cap3] 24))
      obtain ⟨V3, hV3⟩ : ∃ V, y3.alloc (.cells #[.int .i64 r3, .int .i64 c3, .slice ao3 z3.length cap3] 24) = V := ⟨_, rfl⟩
      rw [hV3] at m3 u3 k3 ⊢
      have B3 := bt B2 k3
      clear hc3 hV3 s3 g3
      have hc4 := t4 V3 _ (sl0.below B3)
      go_upto_region 12 with (go_at_call 23; refine hc4.mono ?_; rintro e y4 ⟨v4, rfl, s4, g4⟩; obtain ⟨ao4, cap4, hv4⟩ := s4.slice; subst hv4)
      have m4 := heap_new y4 (.cells #[.int .i64 r3, .int .i64 c3, .slice ao4 z3.length cap4] 24)
      have u4 := s4.alloc (.cells #[.int .i64 r3, .int .i64 c3, .slice ao4 z3.length cap4] 24)
      have k4 := bt g4 (box_below y4 (.cells #[.int .i64 r3, .int .i64 c3, .slice ao4 z3.length cap4] 24))
      obtain ⟨V4, hV4⟩ : ∃ V, y4.alloc (.cells #[.int .i64 r3, .int .i64 c3, .slice ao4 z3.length cap4] 24) = V := ⟨_, rfl⟩
      rw [hV4] at m4 u4 k4 ⊢
      have B4 := bt B3 k4
      clear hc4 hV4 s4 g4
      have M1 := keep k4 (keep k3 (keep k2 m1))
      have M2 := keep k4 (keep k3 m2)
      have M3 := keep k4 m3
      have M4 := m4
      have U1 := u1.below (bt k2 (bt k3 k4))
      have U2 := u2.below (bt k3 k4)
      have U3 := u3.below k4
      have U4 := u4
      have X1 := keep B4 x1
      have SA := sa0.below B4
      clear m1 m2 m3 m4 u1 u2 u3 u4 k1 k2 k3 k4 t1 t2 t3 t4
      obtain ⟨f10, f11, f12, _⟩ := mat_cells X1
      go_upto_region 17 with (first
        | (go_at_call 11; refine (rright_any _ _ _ xs _ SA).mono ?_; rintro e w5 ⟨rfl, b5⟩; obtain ⟨g10, g11, g12, _⟩ := mat_cells (keep b5 M1); obtain ⟨g20, g21, g22, _⟩ := mat_cells (keep b5 M2))
        | (go_at_call_of 18 (Value.slice ao1 z1.length cap1); refine (rsame_any _ _ _ _ _ _ z1 z1 _ (by omega) (by omega) (U1.below b5) (U2.below b5)).mono ?_; rintro e w6 ⟨rfl, b6⟩; obtain ⟨g30, g31, g32, _⟩ := mat_cells (keep b6 (keep b5 M3)); obtain ⟨g40, g41, g42, _⟩ := mat_cells (keep b6 (keep b5 M4)))
        | (go_at_call 18; refine (rsame_any _ _ _ _ _ _ z3 z3 _ (by omega) (by omega) (U3.below (bt b5 b6)) (U4.below (bt b5 b6))).mono ?_; rintro e w7 ⟨rfl, b7⟩; obtain ⟨g50, g51, g52, _⟩ := mat_cells (keep b7 (keep b6 (keep b5 X1))))
        | (go_at_call 24; refine (right_any _ _ _ xs _ hxl (SA.below (bt (bt b5 b6) b7))).mono ?_; rintro e w8 ⟨rfl, b8⟩))
      have B4' := bt B4 (bt (bt (bt b5 b6) b7) b8)
      clear B4 b5 b6 b7 b8 M1 M2 M3 M4 U1 U2 U3 U4 X1 SA hra
      have B4 := B4'
      clear B4'
      try clear f10 f11 f12 g10 g11 g12 g20 g21 g22 g30 g31 g32 g40 g41 g42 g50 g51 g52
      have hc5 := t5 w8 _ (sa0.below B4)
      obtain ⟨p00, p01, p02, _⟩ := mat_cells (keep B4 x1)
      go_upto_region 18 with (go_at_call 25; refine hc5.mono ?_; rintro e y5 ⟨v5, rfl, s5, g5⟩; obtain ⟨ao5, cap5, hv5⟩ := s5.slice; subst hv5)
      have m5 := heap_new y5 (.cells #[.int .i64 ra, .int .i64 ca, .slice ao5 z5.length cap5] 24)
      have u5 := s5.alloc (.cells #[.int .i64 ra, .int .i64 ca, .slice ao5 z5.length cap5] 24)
      have k5 := bt g5 (box_below y5 (.cells #[.int .i64 ra, .int .i64 ca, .slice ao5 z5.length cap5] 24))
      obtain ⟨V5, hV5⟩ : ∃ V, y5.alloc (.cells #[.int .i64 ra, .int .i64 ca, .slice ao5 z5.length cap5] 24) = V := ⟨_, rfl⟩
      rw [hV5] at m5 u5 k5 ⊢
      have B5 := bt B4 k5
      clear hc5 p00 p01 p02 hV5 s5 g5
      have hc6 := t6 V5 _ (sa0.below B5)
      obtain ⟨p00, p01, p02, _⟩ := mat_cells (keep B5 x1)
      go_upto_region 19 with (go_at_call 26; refine hc6.mono ?_; rintro e y6 ⟨v6, rfl, s6, g6⟩; obtain ⟨ao6, cap6, hv6⟩ := s6.slice; subst hv6)
      have m6 := heap_new y6 (.cells #[.int .i64 ra, .int .i64 ca, .slice ao6 z5.length cap6] 24)
      have u6 := s6.alloc (.cells #[.int .i64 ra, .int .i64 ca, .slice ao6 z5.length cap6] 24)
      have k6 := bt g6 (box_below y6 (.cells #[.int .i64 ra, .int .i64 ca, .slice ao6 z5.length cap6] 24))
      obtain ⟨V6, hV6⟩ : ∃ V, y6.alloc (.cells #[.int .i64 ra, .int .i64 ca, .slice ao6 z5.length cap6] 24) = V := ⟨_, rfl⟩
      rw [hV6] at m6 u6 k6 ⊢
      have B6 := bt B5 k6
      clear hc6 p00 p01 p02 hV6 s6 g6
      have hc7 := t7 V6 _ (sa0.below B6)
      obtain ⟨p00, p01, p02, _⟩ := mat_cells (keep B6 x1)
      go_upto_region 20 with (go_at_call 27; refine hc7.mono ?_; rintro e y7 ⟨v7, rfl, s7, g7⟩; obtain ⟨ao7, cap7, hv7⟩ := s7.slice; subst hv7)
      have m7 := heap_new y7 (.cells #[.int .i64 r7, .int .i64 c7, .slice ao7 z7.length cap7] 24)
      have u7 := s7.alloc (.cells #[.int .i64 r7, .int .i64 c7, .slice ao7 z7.length cap7] 24)
      have k7 := bt g7 (box_below y7 (.cells #[.int .i64 r7, .int .i64 c7, .slice ao7 z7.length cap7] 24))
      obtain ⟨V7, hV7⟩ : ∃ V, y7.alloc (.cells #[.int .i64 r7, .int .i64 c7, .slice ao7 z7.length cap7] 24) = V := ⟨_, rfl⟩
      rw [hV7] at m7 u7 k7 ⊢
      have B7 := bt B6 k7
      clear hc7 p00 p01 p02 hV7 s7 g7
      have hc8 := t8 V7 _ (sa0.below B7)
      obtain ⟨p00, p01, p02, _⟩ := mat_cells (keep B7 x1)
      go_upto_region 21 with (go_at_call 28; refine hc8.mono ?_; rintro e y8 ⟨v8, rfl, s8, g8⟩; obtain ⟨ao8, cap8, hv8⟩ := s8.slice; subst hv8)
      have m8 := heap_new y8 (.cells #[.int .i64 r7, .int .i64 c7, .slice ao8 z7.length cap8] 24)
      have u8 := s8.alloc (.cells #[.int .i64 r7, .int .i64 c7, .slice ao8 z7.length cap8] 24)
      have k8 := bt g8 (box_below y8 (.cells #[.int .i64 r7, .int .i64 c7, .slice ao8 z7.length cap8] 24))
      obtain ⟨V8, hV8⟩ : ∃ V, y8.alloc (.cells #[.int .i64 r7, .int .i64 c7, .slice ao8 z7.length cap8] 24) = V := ⟨_, rfl⟩
      rw [hV8] at m8 u8 k8 ⊢
      have B8 := bt B7 k8
      clear hc8 p00 p01 p02 hV8 s8 g8
      have N5 := keep k8 (keep k7 (keep k6 m5))
      have N6 := keep k8 (keep k7 m6)
      have N7 := keep k8 m7
      have W5 := u5.below (bt k6 (bt k7 k8))
      have W6 := u6.below (bt k7 k8)
      have W7 := u7.below k8
      have X8 := keep B8 x1
      have S8 := sa0.below B8
      clear m5 m6 m7 u5 u6 u7 k5 k6 k7 k8 t5 t6 t7 t8
      refine on_region X8 N5 N6 N7 m8 (zs := z9) ?_ ?_ ?_ ?_ ?_ ?_
      · intro w hb
        exact t9 w _ (S8.below hb)
      · intro w hb
        exact t10 w _ (S8.below hb)
      · intro w p q hb h1 h2
        exact (rsame_any _ _ _ _ _ _ z9 z9 w (by omega) (by omega) h1 h2).mono fun e b ⟨h1, h2⟩ => ⟨by rw [h1, hs9], h2⟩
      · intro w hb
        exact (rsame_any _ _ _ _ _ _ z5 z5 w l5 l5 (W5.below hb) (W6.below hb)).mono fun e b ⟨h1, h2⟩ => ⟨by rw [h1, hs5], h2⟩
      · intro w hb
        exact (rsame_any _ _ _ _ _ _ z7 z7 w (by omega) (by omega) (W7.below hb) (u8.below hb)).mono fun e b ⟨h1, h2⟩ => ⟨by rw [h1, hs7], h2⟩
      · intro vs y hb hv
        unfold onFr
        rw [hv]
        go_wp2
        go_ret
        exact ⟨rfl, bt (bt b0 B8) hb⟩
    · have d1 : decide ((20 : Int) < (ls.length : Int)) = false := by simp; omega
      have d2 : decide ((100 : Int) < (xs.length : Int)) = true := by simp; omega
      have g2 : (100 : Int) < (xs.length : Int) := by omega
      go_enter Try.func4, Try.ntmps4
      go_wp2_with (first | (go_at_call 10; refine (hsh _).mono ?_; rintro e w1 ⟨rfl, b1⟩; obtain ⟨c0, c1, c2, _⟩ := mat_cells (keep b1 x1)))
      go_ret
      exact ⟨rfl, bt b0 b1⟩
  · have d1 : decide ((20 : Int) < (ls.length : Int)) = true := by simp; omega
    have g1 : (20 : Int) < (ls.length : Int) := by omega
    go_enter Try.func4, Try.ntmps4
    go_wp2_with (first | (go_at_call 10; refine (hsh _).mono ?_; rintro e w1 ⟨rfl, b1⟩; obtain ⟨c0, c1, c2, _⟩ := mat_cells (keep b1 x1)))
    go_ret
    exact ⟨rfl, bt b0 b1⟩
end Go.Proofs.Yteohdhmimpajmaa
