/-
  The walk of MatSums.
-/
import Derived.Test.YteohdhmimpajmaaWTwo
import Derived.Test.YteohdhmimpajmaaFactS
import Derived.Deep.RegionWith
import Derived.Deep.CutRange
namespace Go.Proofs.Yteohdhmimpajmaa
open Go.RowKit Go.Sort Qm

set_option maxRecDepth 40000 in
set_option maxHeartbeats 4000000 in
theorem matsums_walk (hsh : ShownOk) (ra ca rb cb : Int) (va vb : Value) (xs ys : List Int) (w : World) (sa : Sees w va xs) (sb : Sees w vb ys) :
    Calls Try.prog 7 #[.agg #[.int .i64 ra, .int .i64 ca, va], .agg #[.int .i64 rb, .int .i64 cb, vb]] w fun e w' => e = .returned (.bool true) ∧ Below w.heap.size w w' := by
  obtain ⟨ao, cap, rfl⟩ := sa.slice
  obtain ⟨bo, bcap, rfl⟩ := sb.slice
  obtain ⟨V0, hV0⟩ : ∃ V0, (w.alloc (.cells #[.int .i64 ra, .int .i64 ca, .slice ao xs.length cap] 24)).alloc (.cells #[.int .i64 rb, .int .i64 cb, .slice bo ys.length bcap] 24) = V0 := ⟨_, rfl⟩
  obtain ⟨x1, x2⟩ := allocs2 w (.cells #[.int .i64 ra, .int .i64 ca, .slice ao xs.length cap] 24) (.cells #[.int .i64 rb, .int .i64 cb, .slice bo ys.length bcap] 24)
  have b0 := ball2 w (.cells #[.int .i64 ra, .int .i64 ca, .slice ao xs.length cap] 24) (.cells #[.int .i64 rb, .int .i64 cb, .slice bo ys.length bcap] 24)
  rw [hV0] at x1 x2 b0
  have sa0 := sa.below b0
  have sb0 := sb.below b0
  clear sa sb
  unfold ShownOk at hsh
  cases hra : rightB ra ca xs with
  | false =>
    go_enter Try.func7, Try.ntmps7
    go_wp2_with (first | (go_at_call 10; refine (hsh _).mono ?_; rintro e w1 ⟨rfl, b1⟩; obtain ⟨c0, c1, c2, _⟩ := mat_cells (keep b1 x1); obtain ⟨d0, d1, d2, _⟩ := mat_cells (keep b1 x2)) | (go_at_call 11; refine (rright_any _ _ _ xs _ (sa0.below b1)).mono ?_; rintro e w2 ⟨rfl, b2⟩))
    go_ret
    exact ⟨rfl, bt (bt b0 b1) b2⟩
  | true =>
    cases hrb : rightB rb cb ys with
    | false =>
      go_enter Try.func7, Try.ntmps7
      go_wp2_with (first | (go_at_call 10; refine (hsh _).mono ?_; rintro e w1 ⟨rfl, b1⟩; obtain ⟨c0, c1, c2, _⟩ := mat_cells (keep b1 x1); obtain ⟨d0, d1, d2, _⟩ := mat_cells (keep b1 x2)) | (go_at_call_of 11 (Value.slice ao xs.length cap); refine (rright_any _ _ _ xs _ (sa0.below b1)).mono ?_; rintro e w2 ⟨rfl, b2⟩; obtain ⟨e0, e1, e2, _⟩ := mat_cells (keep b2 (keep b1 x2))) | (go_at_call 11; refine (rright_any _ _ _ ys _ (sb0.below (bt b1 b2))).mono ?_; rintro e w3 ⟨rfl, b3⟩))
      go_ret
      exact ⟨rfl, bt (bt (bt b0 b1) b2) b3⟩
    | true =>
      by_cases hr : ra = rb
      · by_cases hc : ca = cb
        · subst hr
          subst hc
          obtain ⟨R, C, ha⟩ := right_of hra
          obtain ⟨R', C', hb⟩ := right_of hrb
          have hxl : xs.length ≤ 100 := Nat.le_trans ha.le (by decide)
          obtain ⟨hxy, z1, o1, l1, t1, t2, t3, t4⟩ := sums_facts ha hb
          obtain ⟨z0, hz0⟩ : ∃ z0, tab (fun _ => (0 : Int)) xs.length = z0 := ⟨_, rfl⟩
          have lz : z0.length = xs.length := by rw [← hz0]; exact tab_len _ _
          have gz : ∀ k, k < xs.length → ge z0 k = 0 := fun k hk => by rw [← hz0]; exact ge_tab hk
          rw [hz0] at t3 t4
          have LZ : Hid (z0.length = xs.length) := lz
          have GZ : Hid (∀ k, k < xs.length → ge z0 k = 0) := gz
          have hs1 := sameB_self ra ca z1
          have hs2 := sameB_self ra ca xs
          clear ha hb hz0 lz gz hxy
          go_enter Try.func7, Try.ntmps7
          go_upto_region 4 with (first | (go_at_call 10; refine (hsh _).mono ?_; rintro e w1 ⟨rfl, b1⟩; obtain ⟨c0, c1, c2, _⟩ := mat_cells (keep b1 x1); obtain ⟨d0, d1, d2, _⟩ := mat_cells (keep b1 x2)) | (go_at_call_of 11 (Value.slice ao xs.length cap); refine (rright_any _ _ _ xs _ (sa0.below b1)).mono ?_; rintro e w2 ⟨rfl, b2⟩; obtain ⟨e0, e1, e2, _⟩ := mat_cells (keep b2 (keep b1 x2))) | (go_at_call 11; refine (rright_any _ _ _ ys _ (sb0.below (bt b1 b2))).mono ?_; rintro e w3 ⟨rfl, b3⟩; obtain ⟨f0, f1, f2, _⟩ := mat_cells (keep b3 (keep b2 (keep b1 x1))); obtain ⟨g0, g1, g2, _⟩ := mat_cells (keep b3 (keep b2 (keep b1 x2)))))
          have B0 := bt (bt b1 b2) b3
          clear hra hrb hsh b1 b2 b3 hV0
          try clear c0 c1 c2 d0 d1 d2 e0 e1 e2 f0 f1 f2 g0 g1 g2
          have hc1 := t1 w3 _ _ (sa0.below B0) (sb0.below B0)
          obtain ⟨p00, p01, p02, _⟩ := mat_cells (keep B0 x1)
          obtain ⟨p10, p11, p12, _⟩ := mat_cells (keep B0 x2)
          go_upto_region 5 with (go_at_call 12; refine hc1.mono ?_; rintro e y1 ⟨v1, rfl, s1, g1⟩; obtain ⟨ao1, cap1, hv1⟩ := s1.slice; subst hv1)
          have m1 := heap_new y1 (.cells #[.int .i64 ra, .int .i64 ca, .slice ao1 z1.length cap1] 24)
          have u1 := s1.alloc (.cells #[.int .i64 ra, .int .i64 ca, .slice ao1 z1.length cap1] 24)
          have k1 := bt g1 (box_below y1 (.cells #[.int .i64 ra, .int .i64 ca, .slice ao1 z1.length cap1] 24))
          obtain ⟨V1, hV1⟩ : ∃ V, y1.alloc (.cells #[.int .i64 ra, .int .i64 ca, .slice ao1 z1.length cap1] 24) = V := ⟨_, rfl⟩
          rw [hV1] at m1 u1 k1 ⊢
          have B1 := bt B0 k1
          clear hc1 p00 p01 p02 p10 p11 p12 hV1 s1 g1
          have hc2 := t2 V1 _ _ (sb0.below B1) (sa0.below B1)
          obtain ⟨p00, p01, p02, _⟩ := mat_cells (keep B1 x1)
          obtain ⟨p10, p11, p12, _⟩ := mat_cells (keep B1 x2)
          go_upto_region 6 with (go_at_call 12; refine hc2.mono ?_; rintro e y2 ⟨v2, rfl, s2, g2⟩; obtain ⟨ao2, cap2, hv2⟩ := s2.slice; subst hv2)
          have m2 := heap_new y2 (.cells #[.int .i64 ra, .int .i64 ca, .slice ao2 z1.length cap2] 24)
          have u2 := s2.alloc (.cells #[.int .i64 ra, .int .i64 ca, .slice ao2 z1.length cap2] 24)
          have k2 := bt g2 (box_below y2 (.cells #[.int .i64 ra, .int .i64 ca, .slice ao2 z1.length cap2] 24))
          obtain ⟨V2, hV2⟩ : ∃ V, y2.alloc (.cells #[.int .i64 ra, .int .i64 ca, .slice ao2 z1.length cap2] 24) = V := ⟨_, rfl⟩
          rw [hV2] at m2 u2 k2 ⊢
          have B2 := bt B1 k2
          clear hc2 p00 p01 p02 p10 p11 p12 hV2 s2 g2
          have hc3 := t3 V2 _ _ (sa0.below B2) (sa0.below B2)
          obtain ⟨p00, p01, p02, _⟩ := mat_cells (keep B2 x1)
          go_upto_region 7 with (go_at_call 14; refine hc3.mono ?_; rintro e y3 ⟨v3, rfl, s3, g3⟩; obtain ⟨ao3, cap3, hv3⟩ := s3.slice; rw [LZ.out] at hv3; subst hv3)
          have m3 := heap_new y3 (.cells #[.int .i64 ra, .int .i64 ca, .slice ao3 xs.length cap3] 24)
          have u3 := s3.alloc (.cells #[.int .i64 ra, .int .i64 ca, .slice ao3 xs.length cap3] 24)
          have k3 := bt g3 (box_below y3 (.cells #[.int .i64 ra, .int .i64 ca, .slice ao3 xs.length cap3] 24))
          obtain ⟨V3, hV3⟩ : ∃ V, y3.alloc (.cells #[.int .i64 ra, .int .i64 ca, .slice ao3 xs.length cap3] 24) = V := ⟨_, rfl⟩
          rw [hV3] at m3 u3 k3 ⊢
          have B3 := bt B2 k3
          clear hc3 p00 p01 p02 hV3 s3 g3
          have hc4 := t4 V3 _ _ (sa0.below B3) u3
          obtain ⟨p00, p01, p02, _⟩ := mat_cells (keep B3 x1)
          obtain ⟨p10, p11, p12, _⟩ := mat_cells (m3)
          go_upto_region 8 with (go_at_call 12; refine hc4.mono ?_; rintro e y4 ⟨v4, rfl, s4, g4⟩; obtain ⟨ao4, cap4, hv4⟩ := s4.slice; subst hv4)
          have m4 := heap_new y4 (.cells #[.int .i64 ra, .int .i64 ca, .slice ao4 xs.length cap4] 24)
          have u4 := s4.alloc (.cells #[.int .i64 ra, .int .i64 ca, .slice ao4 xs.length cap4] 24)
          have k4 := bt g4 (box_below y4 (.cells #[.int .i64 ra, .int .i64 ca, .slice ao4 xs.length cap4] 24))
          obtain ⟨V4, hV4⟩ : ∃ V, y4.alloc (.cells #[.int .i64 ra, .int .i64 ca, .slice ao4 xs.length cap4] 24) = V := ⟨_, rfl⟩
          rw [hV4] at m4 u4 k4 ⊢
          have B4 := bt B3 k4
          clear hc4 p00 p01 p02 p10 p11 p12 hV4 s4 g4
          have M1 := keep k4 (keep k3 (keep k2 m1))
          have M2 := keep k4 (keep k3 m2)
          have M3 := keep k4 m3
          have U1 := u1.below (bt k2 (bt k3 k4))
          have U2 := u2.below (bt k3 k4)
          have U3 := u3.below k4
          have X1 := keep B4 x1
          have U4 := u4
          have SA := sa0.below B4
          clear m1 m2 m3 u1 u2 u3 k1 k2 k3 k4 t1 t2 t3 t4
          obtain ⟨f30, f31, f32, _⟩ := mat_cells M3
          go_wp2
          go_loop [18] (fun i => ∃ k : Nat, k ≤ xs.length ∧ i = .int .i64 k) (fun i => xs.length - (intOf i).toNat)
          case atStart => exact ⟨0, Nat.zero_le _, rfl⟩
          case round =>
            obtain ⟨k, hk, rfl⟩ := hrel
            by_cases hlt : k < xs.length
            · obtain ⟨ad, rfl, ca'⟩ := U3.at k (by rw [LZ.out]; exact hlt)
              rw [GZ.out k hlt] at ca'
              go_wp2
              go_round
              case rel => exact ⟨k + 1, by omega, by go_num⟩
              case measure => simp [intOf]; omega
            · have e : k = xs.length := by omega
              subst e
              obtain ⟨f10, f11, f12, _⟩ := mat_cells M1
              obtain ⟨f20, f21, f22, _⟩ := mat_cells M2
              go_wp2_with (first
                | (go_at_call_of 18 (Value.slice ao1 z1.length cap1); refine (rsame_any _ _ _ _ _ _ z1 z1 _ (by omega) (by omega) U1 U2).mono ?_; rintro e w7 ⟨rfl, b7⟩; obtain ⟨h10, h11, h12, _⟩ := mat_cells (keep b7 m4); obtain ⟨h20, h21, h22, _⟩ := mat_cells (keep b7 X1); obtain ⟨h30, h31, h32, _⟩ := mat_cells (keep b7 M3))
                | (go_at_call 18; refine (rsame_any _ _ _ _ _ _ xs xs _ hxl hxl (U4.below b7) (SA.below b7)).mono ?_; rintro e w8 ⟨rfl, b8⟩; obtain ⟨n20, n21, n22, _⟩ := mat_cells (keep b8 (keep b7 X1)); obtain ⟨n30, n31, n32, _⟩ := mat_cells (keep b8 (keep b7 M3))))
              go_ret
              exact ⟨by simp, bt (bt (bt b0 B4) b7) b8⟩
        · have hc' : (ca == cb) = false := by simpa using hc
          subst hr
          go_enter Try.func7, Try.ntmps7
          go_wp2_with (first | (go_at_call 10; refine (hsh _).mono ?_; rintro e w1 ⟨rfl, b1⟩; obtain ⟨c0, c1, c2, _⟩ := mat_cells (keep b1 x1); obtain ⟨d0, d1, d2, _⟩ := mat_cells (keep b1 x2)) | (go_at_call_of 11 (Value.slice ao xs.length cap); refine (rright_any _ _ _ xs _ (sa0.below b1)).mono ?_; rintro e w2 ⟨rfl, b2⟩; obtain ⟨e0, e1, e2, _⟩ := mat_cells (keep b2 (keep b1 x2))) | (go_at_call 11; refine (rright_any _ _ _ ys _ (sb0.below (bt b1 b2))).mono ?_; rintro e w3 ⟨rfl, b3⟩; obtain ⟨f0, f1, f2, _⟩ := mat_cells (keep b3 (keep b2 (keep b1 x1))); obtain ⟨g0, g1, g2, _⟩ := mat_cells (keep b3 (keep b2 (keep b1 x2)))))
          go_ret
          exact ⟨rfl, bt (bt (bt b0 b1) b2) b3⟩
      · have hr' : (ra == rb) = false := by simpa using hr
        go_enter Try.func7, Try.ntmps7
        go_wp2_with (first | (go_at_call 10; refine (hsh _).mono ?_; rintro e w1 ⟨rfl, b1⟩; obtain ⟨c0, c1, c2, _⟩ := mat_cells (keep b1 x1); obtain ⟨d0, d1, d2, _⟩ := mat_cells (keep b1 x2)) | (go_at_call_of 11 (Value.slice ao xs.length cap); refine (rright_any _ _ _ xs _ (sa0.below b1)).mono ?_; rintro e w2 ⟨rfl, b2⟩; obtain ⟨e0, e1, e2, _⟩ := mat_cells (keep b2 (keep b1 x2))) | (go_at_call 11; refine (rright_any _ _ _ ys _ (sb0.below (bt b1 b2))).mono ?_; rintro e w3 ⟨rfl, b3⟩; obtain ⟨f0, f1, f2, _⟩ := mat_cells (keep b3 (keep b2 (keep b1 x1))); obtain ⟨g0, g1, g2, _⟩ := mat_cells (keep b3 (keep b2 (keep b1 x2)))))
        go_ret
        exact ⟨rfl, bt (bt (bt b0 b1) b2) b3⟩
end Go.Proofs.Yteohdhmimpajmaa
