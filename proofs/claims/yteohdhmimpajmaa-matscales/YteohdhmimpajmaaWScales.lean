/-
  The walk of MatScales.
-/
import Derived.Test.YteohdhmimpajmaaWTwo
import Derived.Test.YteohdhmimpajmaaFactS
import Derived.Deep.RegionWith
import Derived.Deep.CutRange
namespace Go.Proofs.Yteohdhmimpajmaa
open Go.RowKit Go.Sort Qm

set_option maxRecDepth 40000 in
set_option maxHeartbeats 4000000 in
theorem matscales_walk (hsh : ShownOk) (ra ca k0 : Int) (va : Value) (xs : List Int) (_ : (Lit.int .i64 k0).wf = true) (w : World) (sa : Sees w va xs) :
    Calls Try.prog 9 #[.agg #[.int .i64 ra, .int .i64 ca, va], .int .i64 k0] w fun e w' => e = .returned (.bool true) ∧ Below w.heap.size w w' := by
  obtain ⟨ao, cap, rfl⟩ := sa.slice
  obtain ⟨V0, hV0⟩ : ∃ V0, w.alloc (.cells #[.int .i64 ra, .int .i64 ca, .slice ao xs.length cap] 24) = V0 := ⟨_, rfl⟩
  have x1 := heap_new w (.cells #[.int .i64 ra, .int .i64 ca, .slice ao xs.length cap] 24)
  have b0 := box_below w (.cells #[.int .i64 ra, .int .i64 ca, .slice ao xs.length cap] 24)
  rw [hV0] at x1 b0
  have sa0 := sa.below b0
  clear sa
  unfold ShownOk at hsh
  cases hra : rightB ra ca xs with
  | false =>
    go_enter Try.func9, Try.ntmps9
    go_wp2_with (first | (go_at_call 10; refine (hsh _).mono ?_; rintro e w1 ⟨rfl, b1⟩; obtain ⟨c0, c1, c2, _⟩ := mat_cells (keep b1 x1)) | (go_at_call 11; refine (rright_any _ _ _ xs _ (sa0.below b1)).mono ?_; rintro e w3 ⟨rfl, b3⟩))
    go_ret
    exact ⟨rfl, bt (bt b0 b1) b3⟩
  | true =>
      obtain ⟨R, C, ha⟩ := right_of hra
      have hxl : xs.length ≤ 100 := Nat.le_trans ha.le (by decide)
      obtain ⟨t1, t2, t3, _⟩ := scales_facts ha k0
      obtain ⟨z0, hz0⟩ : ∃ z0, tab (fun _ => (0 : Int)) xs.length = z0 := ⟨_, rfl⟩
      have LZ : Hid (z0.length = xs.length) := by show _ = _; rw [← hz0]; exact tab_len _ _
      have GZ : Hid (∀ k, k < xs.length → ge z0 k = 0) := fun k hk => by rw [← hz0]; exact ge_tab hk
      rw [hz0] at t2
      obtain ⟨zk, hzk⟩ : ∃ zk, scl xs k0 = zk := ⟨_, rfl⟩
      have LK : Hid (zk.length = xs.length) := by show _ = _; rw [← hzk]; exact scl_len _ _
      have GK : Hid (∀ k, k < xs.length → ge zk k = mul (ge xs k) k0) := fun k hk => by rw [← hzk]; exact ge_tab hk
      obtain ⟨ok, hok⟩ : ∃ ok, sclB xs k0 = ok := ⟨_, rfl⟩
      rw [hzk, hok] at t3
      have hs2 := sameB_self ra ca xs
      clear ha hz0 hzk hok
      go_enter Try.func9, Try.ntmps9
      go_upto_region 4 with (first | (go_at_call 10; refine (hsh _).mono ?_; rintro e w1 ⟨rfl, b1⟩; obtain ⟨c0, c1, c2, _⟩ := mat_cells (keep b1 x1)) | (go_at_call 11; refine (rright_any _ _ _ xs _ (sa0.below b1)).mono ?_; rintro e w3 ⟨rfl, b3⟩))
      have B0 := bt b1 b3
      clear hra hsh b1 b3 hV0
      try clear c0 c1 c2
      have hc1 := t1 w3 _ (sa0.below B0)
      obtain ⟨p00, p01, p02, _⟩ := mat_cells (keep B0 x1)
      go_upto_region 5 with (go_at_call 25; refine hc1.mono ?_; rintro e y1 ⟨v1, rfl, s1, g1⟩; obtain ⟨ao1, cap1, hv1⟩ := s1.slice; subst hv1)
      have m1 := heap_new y1 (.cells #[.int .i64 ra, .int .i64 ca, .slice ao1 xs.length cap1] 24)
      have u1 := s1.alloc (.cells #[.int .i64 ra, .int .i64 ca, .slice ao1 xs.length cap1] 24)
      have k1 := bt g1 (box_below y1 (.cells #[.int .i64 ra, .int .i64 ca, .slice ao1 xs.length cap1] 24))
      obtain ⟨V1, hV1⟩ : ∃ V, y1.alloc (.cells #[.int .i64 ra, .int .i64 ca, .slice ao1 xs.length cap1] 24) = V := ⟨_, rfl⟩
      rw [hV1] at m1 u1 k1 ⊢
      have B1 := bt B0 k1
      clear hc1 p00 p01 p02 hV1 s1 g1
      have hc2 := t2 V1 _ (sa0.below B1)
      obtain ⟨p00, p01, p02, _⟩ := mat_cells (keep B1 x1)
      go_upto_region 6 with (go_at_call 25; refine hc2.mono ?_; rintro e y2 ⟨v2, rfl, s2, g2⟩; obtain ⟨ao2, cap2, hv2⟩ := s2.slice; rw [LZ.out] at hv2; subst hv2)
      have m2 := heap_new y2 (.cells #[.int .i64 ra, .int .i64 ca, .slice ao2 xs.length cap2] 24)
      have u2 := s2.alloc (.cells #[.int .i64 ra, .int .i64 ca, .slice ao2 xs.length cap2] 24)
      have k2 := bt g2 (box_below y2 (.cells #[.int .i64 ra, .int .i64 ca, .slice ao2 xs.length cap2] 24))
      obtain ⟨V2, hV2⟩ : ∃ V, y2.alloc (.cells #[.int .i64 ra, .int .i64 ca, .slice ao2 xs.length cap2] 24) = V := ⟨_, rfl⟩
      rw [hV2] at m2 u2 k2 ⊢
      have B2 := bt B1 k2
      clear hc2 p00 p01 p02 hV2 s2 g2
      have hc3 := t3 V2 _ (sa0.below B2)
      obtain ⟨p00, p01, p02, _⟩ := mat_cells (keep B2 x1)
      go_upto_region 7 with (go_at_call 25; refine hc3.mono ?_; rintro e y3 ⟨v3, rfl, s3, g3⟩; obtain ⟨ao3, cap3, hv3⟩ := s3.slice; rw [LK.out] at hv3; subst hv3)
      have m3 := heap_new y3 (.cells #[.int .i64 ra, .int .i64 ca, .slice ao3 xs.length cap3] 24)
      have u3 := s3.alloc (.cells #[.int .i64 ra, .int .i64 ca, .slice ao3 xs.length cap3] 24)
      have k3 := bt g3 (box_below y3 (.cells #[.int .i64 ra, .int .i64 ca, .slice ao3 xs.length cap3] 24))
      obtain ⟨V3, hV3⟩ : ∃ V, y3.alloc (.cells #[.int .i64 ra, .int .i64 ca, .slice ao3 xs.length cap3] 24) = V := ⟨_, rfl⟩
      rw [hV3] at m3 u3 k3 ⊢
      have B3 := bt B2 k3
      clear hc3 p00 p01 p02 hV3 s3 g3
      have M1 := keep k3 (keep k2 m1)
      have M2 := keep k3 m2
      have U1 := u1.below (bt k2 k3)
      have U2 := u2.below k3
      have X1 := keep B3 x1
      have SA := sa0.below B3
      clear m1 m2 u1 u2 k1 k2 k3 t1 t2 t3
      obtain ⟨f10, f11, f12, _⟩ := mat_cells M1
      obtain ⟨f20, f21, f22, _⟩ := mat_cells M2
      obtain ⟨f30, f31, f32, _⟩ := mat_cells m3
      obtain ⟨f40, f41, f42, _⟩ := mat_cells X1
      go_wp2
      go_loop [12] (fun i => ∃ k : Nat, k ≤ xs.length ∧ i = .int .i64 k) (fun i => xs.length - (intOf i).toNat)
      case atStart => exact ⟨0, Nat.zero_le _, rfl⟩
      case round =>
        obtain ⟨k, hk, rfl⟩ := hrel
        by_cases hlt : k < xs.length
        · obtain ⟨a1, rfl, q1⟩ := U2.at k (by rw [LZ.out]; exact hlt)
          obtain ⟨a2, rfl, q2⟩ := u3.at k (by rw [LK.out]; exact hlt)
          obtain ⟨a3, rfl, q3⟩ := SA.at k hlt
          rw [GZ.out k hlt] at q1
          rw [GK.out k hlt] at q2
          obtain ⟨x, hx⟩ : ∃ x, ge xs k = x := ⟨_, rfl⟩
          rw [hx] at q2 q3
          clear hx
          go_wp2_with (go_at_call 31; refine (rmul_any _ _ _).mono ?_; rintro e wy ⟨rfl, rfl⟩)
          go_round
          case rel => exact ⟨k + 1, by omega, by go_num⟩
          case measure => simp [intOf]; omega
        · have e : k = xs.length := by omega
          subst e
          go_wp2_with (go_at_call 18; refine (rsame_any _ _ _ _ _ _ xs xs _ hxl hxl U1 SA).mono ?_; rintro e w8 ⟨rfl, b8⟩)
          go_ret
          exact ⟨by simp, bt (bt b0 B3) b8⟩
end Go.Proofs.Yteohdhmimpajmaa
