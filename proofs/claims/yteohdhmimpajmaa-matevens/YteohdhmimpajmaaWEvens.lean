/-
  The walk of MatEvens.
-/
import Derived.Test.YteohdhmimpajmaaWTwo
import Derived.Test.YteohdhmimpajmaaFactE
import Derived.Test.YteohdhmimpajmaaEvR
import Derived.Deep.RegionWith
import Derived.Deep.CutRange
namespace Go.Proofs.Yteohdhmimpajmaa
open Go.RowKit Go.Sort Qm

set_option maxRecDepth 40000 in
set_option maxHeartbeats 4000000 in
theorem matevens_walk (hsh : ShownOk) (ra ca : Int) (va : Value) (xs : List Int) (w : World) (sa : Sees w va xs) :
    Calls Try.prog 6 #[.agg #[.int .i64 ra, .int .i64 ca, va]] w fun e w' => e = .returned (.bool true) ∧ Below w.heap.size w w' := by
  obtain ⟨ao, cap, rfl⟩ := sa.slice
  obtain ⟨V0, hV0⟩ : ∃ V0, w.alloc (.cells #[.int .i64 ra, .int .i64 ca, .slice ao xs.length cap] 24) = V0 := ⟨_, rfl⟩
  have x1 := heap_new w (.cells #[.int .i64 ra, .int .i64 ca, .slice ao xs.length cap] 24)
  have b0 := box_below w (.cells #[.int .i64 ra, .int .i64 ca, .slice ao xs.length cap] 24)
  rw [hV0] at x1 b0
  have sa0 := sa.below b0
  clear sa
  unfold ShownOk at hsh
  cases hra : rightB ra ca xs with
  | false =>
    go_enter Try.func6, Try.ntmps6
    go_wp2_with (first | (go_at_call 10; refine (hsh _).mono ?_; rintro e w1 ⟨rfl, b1⟩; obtain ⟨c0, c1, c2, _⟩ := mat_cells (keep b1 x1)) | (go_at_call 11; refine (rright_any _ _ _ xs _ (sa0.below b1)).mono ?_; rintro e w3 ⟨rfl, b3⟩; obtain ⟨d0, d1, d2, _⟩ := mat_cells (keep b3 (keep b1 x1))))
    go_ret
    exact ⟨rfl, bt (bt b0 b1) b3⟩
  | true =>
    obtain ⟨R, C, ha⟩ := right_of hra
    by_cases hRC : R = C
    · subst hRC
      have hr1 := ha.hr
      have hc1 := ha.hc
      subst hr1
      subst hc1
      obtain ⟨t1, _, hr⟩ := even_tells ha
      obtain ⟨t2, _, _⟩ := even_tells hr
      rw [evn_evn] at t2
      have htr := fun w va sa => trans_any R R hr.r1 hr.r8 hr.c1 hr.c8 va (evn R xs) hr.len w sa
      rw [evn_trn] at htr
      have hrt := right_mk hr
      have hl64 : (evn R xs).length ≤ 100 := Nat.le_trans hr.le (by decide)
      obtain ⟨zs, hzs⟩ : ∃ zs, evn R xs = zs := ⟨_, rfl⟩
      rw [hzs] at t1 t2 htr hrt hl64
      have hs1 := sameB_self R R zs
      clear ha hr hzs
      go_enter Try.func6, Try.ntmps6
      go_upto_region 4 with (first | (go_at_call 10; refine (hsh _).mono ?_; rintro e w1 ⟨rfl, b1⟩; obtain ⟨c0, c1, c2, _⟩ := mat_cells (keep b1 x1)) | (go_at_call 11; refine (rright_any _ _ _ xs _ (sa0.below b1)).mono ?_; rintro e w3 ⟨rfl, b3⟩; obtain ⟨d0, d1, d2, _⟩ := mat_cells (keep b3 (keep b1 x1))))
      have B0 := bt b1 b3
      clear hra hsh b1 b3 hV0
      try clear c0 c1 c2 d0 d1 d2
      have hc1 := t1 w3 _ (sa0.below B0)
      obtain ⟨p00, p01, p02, _⟩ := mat_cells (keep B0 x1)
      go_upto_region 5 with (go_at_call 27; refine hc1.mono ?_; rintro e y1 ⟨v1, rfl, s1, g1⟩; obtain ⟨ao1, cap1, hv1⟩ := s1.slice; subst hv1)
      have m1 := heap_new y1 (.cells #[.int .i64 R, .int .i64 R, .slice ao1 zs.length cap1] 24)
      have u1 := s1.alloc (.cells #[.int .i64 R, .int .i64 R, .slice ao1 zs.length cap1] 24)
      have k1 := bt g1 (box_below y1 (.cells #[.int .i64 R, .int .i64 R, .slice ao1 zs.length cap1] 24))
      obtain ⟨V1, hV1⟩ : ∃ V, y1.alloc (.cells #[.int .i64 R, .int .i64 R, .slice ao1 zs.length cap1] 24) = V := ⟨_, rfl⟩
      rw [hV1] at m1 u1 k1 ⊢
      have B1 := bt B0 k1
      clear hc1 p00 p01 p02 hV1 s1 g1
      have hc2 := t2 V1 _ u1
      obtain ⟨p00, p01, p02, _⟩ := mat_cells (keep B1 x1)
      obtain ⟨p10, p11, p12, _⟩ := mat_cells (m1)
      go_upto_region 8 with (go_at_call 27; refine hc2.mono ?_; rintro e y2 ⟨v2, rfl, s2, g2⟩; obtain ⟨ao2, cap2, hv2⟩ := s2.slice; subst hv2)
      have m2 := heap_new y2 (.cells #[.int .i64 R, .int .i64 R, .slice ao2 zs.length cap2] 24)
      have u2 := s2.alloc (.cells #[.int .i64 R, .int .i64 R, .slice ao2 zs.length cap2] 24)
      have k2 := bt g2 (box_below y2 (.cells #[.int .i64 R, .int .i64 R, .slice ao2 zs.length cap2] 24))
      obtain ⟨V2, hV2⟩ : ∃ V, y2.alloc (.cells #[.int .i64 R, .int .i64 R, .slice ao2 zs.length cap2] 24) = V := ⟨_, rfl⟩
      rw [hV2] at m2 u2 k2 ⊢
      have B2 := bt B1 k2
      clear hc2 p00 p01 p02 p10 p11 p12 hV2 s2 g2
      have M1 := keep k2 m1
      have U1 := u1.below k2
      clear m1 u1 k1 k2 t1 t2
      refine ev_region M1 m2 (zs := zs) ?_ ?_ ?_ ?_ ?_
      · intro w hb
        exact (rright_any R R _ zs w (U1.below hb)).mono fun e b ⟨h1, h2⟩ => ⟨by rw [h1, hrt], h2⟩
      · intro w hb
        exact (htr w _ (U1.below hb)).mono fun e b ⟨v, h1, h2, _, h3⟩ => ⟨v, h1, h2, h3⟩
      · intro w sl hb hs
        exact (rsame_any _ _ _ _ _ _ zs zs w hl64 hl64 hs (U1.below hb)).mono fun e b ⟨h1, h2⟩ => ⟨by rw [h1, hs1], h2⟩
      · intro w hb
        exact (rsame_any _ _ _ _ _ _ zs zs w hl64 hl64 (u2.below hb) (U1.below hb)).mono fun e b ⟨h1, h2⟩ => ⟨by rw [h1, hs1], h2⟩
      · intro vs y hb hv
        unfold evFr
        rw [hv]
        go_wp2
        go_ret
        exact ⟨rfl, bt (bt b0 B2) hb⟩
    · have hn := fun w va sa => even_not R C hRC va xs w sa
      have hr1 := ha.hr
      have hc1 := ha.hc
      subst hr1
      subst hc1
      clear ha
      have e3 : ¬ ((R : Int) = (C : Int)) := by omega
      go_enter Try.func6, Try.ntmps6
      go_wp2_with (first | (go_at_call 10; refine (hsh _).mono ?_; rintro e w1 ⟨rfl, b1⟩; obtain ⟨c0, c1, c2, _⟩ := mat_cells (keep b1 x1)) | (go_at_call 11; refine (rright_any _ _ _ xs _ (sa0.below b1)).mono ?_; rintro e w3 ⟨rfl, b3⟩; obtain ⟨d0, d1, d2, _⟩ := mat_cells (keep b3 (keep b1 x1))) | (go_at_call 27; refine (hn _ _ (sa0.below (bt b1 b3))).mono ?_; rintro e w4 ⟨rfl, b4⟩; obtain ⟨f0, f1, f2, _⟩ := mat_cells (heap_old (keep b4 (keep b3 (keep b1 x1))) (.cells #[.int .i64 0, .int .i64 0, .slice none 0 0] 24))))
      go_ret
      exact ⟨rfl, bt (bt (bt (bt b0 b1) b3) b4) (box_below _ _)⟩
end Go.Proofs.Yteohdhmimpajmaa
