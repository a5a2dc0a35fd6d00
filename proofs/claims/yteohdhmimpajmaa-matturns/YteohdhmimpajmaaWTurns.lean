/-
  The walk of MatTurns.
-/
import Derived.Test.YteohdhmimpajmaaWTwo
import Derived.Test.YteohdhmimpajmaaFactT
import Derived.Test.YteohdhmimpajmaaFactO
import Derived.Test.YteohdhmimpajmaaTuS
import Derived.Deep.RegionWith
import Derived.Deep.CutRange
namespace Go.Proofs.Yteohdhmimpajmaa
open Go.RowKit Go.Sort Qm

/-- what MatTurns wants of two right matrices -/
theorem turn_facts {ra ca : Int} {xs : List Int} {R C : Nat} (ha : IsRight ra ca xs R C) : ∃ es zt, es.length ≤ 64 ∧ zt.length ≤ 64 ∧ TellsN 20 ca ca ca es 0 ∧ Tells2 16 ra ca xs ca ca es ra ca xs false 0 ∧
    (∀ w va, Sees w va xs → Calls Try.prog 29 #[.agg #[.int .i64 ra, .int .i64 ca, va]] w fun e b => ∃ v, e = .returned (.agg #[.int .i64 ca, .int .i64 ra, v]) ∧ Sees b v zt ∧ Below w.heap.size w b) ∧
    (∀ w va, Sees w va zt → Calls Try.prog 29 #[.agg #[.int .i64 ca, .int .i64 ra, va]] w fun e b => ∃ v, e = .returned (.agg #[.int .i64 ra, .int .i64 ca, v]) ∧ Sees b v xs ∧ Below w.heap.size w b) := by
  obtain ⟨rfl, rfl, h1, h2, h3, h4, h5, hi⟩ := ha
  refine ⟨dia (fun _ => 16777216) C, trn R C xs, by rw [dia_len]; exact mul_le_64 h4 h4, by rw [trn_len]; exact mul_le_64 h4 h2, fun w => (eye_any C h3 h4 w).mono fun _ _ ⟨v, x, y, _, z⟩ => ⟨v, x, y, z⟩, ?_, fun w va sa => (trans_any R C h1 h2 h3 h4 va xs h5 w sa).mono fun _ _ ⟨v, x, y, _, z⟩ => ⟨v, x, y, z⟩, ?_⟩
  · intro w va vb sa sb
    have := mul_mat R C C h1 h2 h3 h4 h3 h4 va vb xs (dia (fun _ => 16777216) C) h5 (dia_len _ _) w sa sb
    have e := prd_eye hi h5 h3
    rw [e.1, e.2] at this
    exact this.mono fun _ _ ⟨v, x, y, _, z⟩ => ⟨v, x, y, z⟩
  · intro w va sa
    have := trans_any C R h3 h4 h1 h2 va (trn R C xs) (trn_len R C xs) w sa
    rw [trn_trn h5 h3] at this
    exact this.mono fun _ _ ⟨v, x, y, _, z⟩ => ⟨v, x, y, z⟩
theorem turn_prod {ra ca cb : Int} {xs ys : List Int} {R C R' C' : Nat} (ha : IsRight ra ca xs R C) (hb : IsRight ca cb ys R' C') : ∃ ts bs ps zs X, 0 < zs.length ∧ zs.length ≤ 64 ∧ ps.length ≤ 64 ∧ rightB ra cb ps = true ∧ Tells2 16 ra ca xs ca cb ys ra cb ps X 0 ∧
    (∀ w va, Sees w va xs → Calls Try.prog 29 #[.agg #[.int .i64 ra, .int .i64 ca, va]] w fun e b => ∃ v, e = .returned (.agg #[.int .i64 ca, .int .i64 ra, v]) ∧ Sees b v ts ∧ Below w.heap.size w b) ∧
    (∀ w va, Sees w va ys → Calls Try.prog 29 #[.agg #[.int .i64 ca, .int .i64 cb, va]] w fun e b => ∃ v, e = .returned (.agg #[.int .i64 cb, .int .i64 ca, v]) ∧ Sees b v bs ∧ Below w.heap.size w b) ∧
    (∀ w va vb, Sees w va bs → Sees w vb ts → Calls Try.prog 16 #[.agg #[.int .i64 cb, .int .i64 ca, va], .agg #[.int .i64 ca, .int .i64 ra, vb]] w fun e b => ∃ v, e = .returned (.tuple #[.agg #[.int .i64 cb, .int .i64 ra, v], .bool X, .int .i64 0]) ∧ Sees b v zs ∧ New w.heap.size v ∧ Below w.heap.size w b) ∧
    (∀ w va, Sees w va ps → Calls Try.prog 29 #[.agg #[.int .i64 ra, .int .i64 cb, va]] w fun e b => ∃ v, e = .returned (.agg #[.int .i64 cb, .int .i64 ra, v]) ∧ Sees b v zs ∧ Below w.heap.size w b) := by
  have e1 : R' = C := by have h1 := ha.hc; have h2 := hb.hr; omega
  subst e1
  obtain ⟨rfl, rfl, h1, h2, h3, h4, h5, hi⟩ := ha
  obtain ⟨_, rfl, _, _, g3, g4, g5, gi⟩ := hb
  have hp := prd_trn (r := R) (n := R') (c := C') xs ys h1 g3
  have hpl : (prd R R' C' xs ys).length = R * C' := prd_len _ _ _ _ _
  refine ⟨trn R R' xs, trn R' C' ys, prd R R' C' xs ys, trn R C' (prd R R' C' xs ys), prdB R R' C' xs ys, by rw [trn_len]; exact Nat.mul_pos g3 h1, by rw [trn_len]; exact mul_le_64 g4 h2, by rw [hpl]; exact mul_le_64 h2 g4, right_mk ⟨rfl, rfl, h1, h2, g3, g4, hpl, prd_in _ _ _ _ _⟩, ?_, ?_, ?_, ?_, ?_⟩
  · exact fun w va vb sa sb => (mul_mat R R' C' h1 h2 h3 h4 g3 g4 va vb xs ys h5 g5 w sa sb).mono fun _ _ ⟨v, x, y, _, z⟩ => ⟨v, x, y, z⟩
  · exact fun w va sa => (trans_any R R' h1 h2 h3 h4 va xs h5 w sa).mono fun _ _ ⟨v, x, y, _, z⟩ => ⟨v, x, y, z⟩
  · exact fun w va sa => (trans_any R' C' h3 h4 g3 g4 va ys g5 w sa).mono fun _ _ ⟨v, x, y, _, z⟩ => ⟨v, x, y, z⟩
  · intro w va vb sa sb
    have := mul_mat C' R' R g3 g4 h3 h4 h1 h2 va vb (trn R' C' ys) (trn R R' xs) (trn_len _ _ _) (trn_len _ _ _) w sa sb
    rw [hp.1, hp.2] at this
    exact this
  · exact fun w va sa => (trans_any R C' h1 h2 g3 g4 va (prd R R' C' xs ys) hpl w sa).mono fun _ _ ⟨v, x, y, _, z⟩ => ⟨v, x, y, z⟩

set_option maxRecDepth 40000 in
set_option maxHeartbeats 8000000 in
theorem matturns_walk (hsh : ShownOk) (ra ca rb cb : Int) (va vb : Value) (xs ys : List Int) (w : World) (sa : Sees w va xs) (sb : Sees w vb ys) :
    Calls Try.prog 5 #[.agg #[.int .i64 ra, .int .i64 ca, va], .agg #[.int .i64 rb, .int .i64 cb, vb]] w fun e w' => e = .returned (.bool true) ∧ Below w.heap.size w w' := by
  obtain ⟨ao, cap, rfl⟩ := sa.slice
  obtain ⟨bo, bcap, rfl⟩ := sb.slice
  obtain ⟨V0, hV0⟩ : ∃ V0, (w.alloc (.cells #[.int .i64 ra, .int .i64 ca, .slice ao xs.length cap] 24)).alloc (.cells #[.int .i64 rb, .int .i64 cb, .slice bo ys.length bcap] 24) = V0 := ⟨_, rfl⟩
  obtain ⟨x1, x2⟩ := allocs2 w (.cells #[.int .i64 ra, .int .i64 ca, .slice ao xs.length cap] 24) (.cells #[.int .i64 rb, .int .i64 cb, .slice bo ys.length bcap] 24)
  have b0 := ball2 w (.cells #[.int .i64 ra, .int .i64 ca, .slice ao xs.length cap] 24) (.cells #[.int .i64 rb, .int .i64 cb, .slice bo ys.length bcap] 24)
  rw [hV0] at x1 x2 b0
  have sa0 := sa.below b0
  have sb0 := sb.below b0
  clear sa sb
  unfold ShownOk at hsh
  cases hra : rightB ra ca xs with
  | false =>
    go_enter Try.func5, Try.ntmps5
    go_wp2_with (first | (go_at_call 10; refine (hsh _).mono ?_; rintro e w1 ⟨rfl, b1⟩; obtain ⟨c0, c1, c2, _⟩ := mat_cells (keep b1 x1); obtain ⟨d0, d1, d2, _⟩ := mat_cells (keep b1 x2)) | (go_at_call 11; refine (rright_any _ _ _ xs _ (sa0.below b1)).mono ?_; rintro e w2 ⟨rfl, b2⟩))
    go_ret
    exact ⟨rfl, bt (bt b0 b1) b2⟩
  | true =>
    cases hrb : rightB rb cb ys with
    | false =>
      go_enter Try.func5, Try.ntmps5
      go_wp2_with (first | (go_at_call 10; refine (hsh _).mono ?_; rintro e w1 ⟨rfl, b1⟩; obtain ⟨c0, c1, c2, _⟩ := mat_cells (keep b1 x1); obtain ⟨d0, d1, d2, _⟩ := mat_cells (keep b1 x2)) | (go_at_call_of 11 (Value.slice ao xs.length cap); refine (rright_any _ _ _ xs _ (sa0.below b1)).mono ?_; rintro e w2 ⟨rfl, b2⟩; obtain ⟨e0, e1, e2, _⟩ := mat_cells (keep b2 (keep b1 x2))) | (go_at_call 11; refine (rright_any _ _ _ ys _ (sb0.below (bt b1 b2))).mono ?_; rintro e w3 ⟨rfl, b3⟩))
      go_ret
      exact ⟨rfl, bt (bt (bt b0 b1) b2) b3⟩
    | true =>
      obtain ⟨R, C, ha⟩ := right_of hra
      obtain ⟨R', C', hb⟩ := right_of hrb
      have hxl : xs.length ≤ 100 := Nat.le_trans ha.le (by decide)
      obtain ⟨es, zt, le1, lz1, t1, t2, t3, t4⟩ := turn_facts ha
      have hs1 := sameB_self ra ca xs
      go_enter Try.func5, Try.ntmps5
      go_upto_region 4 with (first | (go_at_call 10; refine (hsh _).mono ?_; rintro e w1 ⟨rfl, b1⟩; obtain ⟨c0, c1, c2, _⟩ := mat_cells (keep b1 x1); obtain ⟨d0, d1, d2, _⟩ := mat_cells (keep b1 x2)) | (go_at_call_of 11 (Value.slice ao xs.length cap); refine (rright_any _ _ _ xs _ (sa0.below b1)).mono ?_; rintro e w2 ⟨rfl, b2⟩; obtain ⟨e0, e1, e2, _⟩ := mat_cells (keep b2 (keep b1 x2))) | (go_at_call 11; refine (rright_any _ _ _ ys _ (sb0.below (bt b1 b2))).mono ?_; rintro e w3 ⟨rfl, b3⟩))
      have B0 := bt (bt b1 b2) b3
      clear hra hrb hsh b1 b2 b3 hV0
      try clear c0 c1 c2 d0 d1 d2 e0 e1 e2
      have hc1 := t1 w3
      obtain ⟨p00, p01, p02, _⟩ := mat_cells (keep B0 x1)
      go_upto_region 5 with (go_at_call 20; refine hc1.mono ?_; rintro e y1 ⟨v1, rfl, s1, g1⟩; obtain ⟨ao1, cap1, hv1⟩ := s1.slice; subst hv1)
      have m1 := heap_new y1 (.cells #[.int .i64 ca, .int .i64 ca, .slice ao1 es.length cap1] 24)
      have u1 := s1.alloc (.cells #[.int .i64 ca, .int .i64 ca, .slice ao1 es.length cap1] 24)
      have k1 := bt g1 (box_below y1 (.cells #[.int .i64 ca, .int .i64 ca, .slice ao1 es.length cap1] 24))
      obtain ⟨V1, hV1⟩ : ∃ V, y1.alloc (.cells #[.int .i64 ca, .int .i64 ca, .slice ao1 es.length cap1] 24) = V := ⟨_, rfl⟩
      rw [hV1] at m1 u1 k1 ⊢
      have B1 := bt B0 k1
      clear hc1 p00 p01 p02 hV1 s1 g1
      have hc2 := t2 V1 _ _ (sa0.below B1) u1
      obtain ⟨p00, p01, p02, _⟩ := mat_cells (keep B1 x1)
      obtain ⟨p10, p11, p12, _⟩ := mat_cells (m1)
      go_upto_region 6 with (go_at_call 16; refine hc2.mono ?_; rintro e y2 ⟨v2, rfl, s2, g2⟩; obtain ⟨ao2, cap2, hv2⟩ := s2.slice; subst hv2)
      have m2 := heap_new y2 (.cells #[.int .i64 ra, .int .i64 ca, .slice ao2 xs.length cap2] 24)
      have u2 := s2.alloc (.cells #[.int .i64 ra, .int .i64 ca, .slice ao2 xs.length cap2] 24)
      have k2 := bt g2 (box_below y2 (.cells #[.int .i64 ra, .int .i64 ca, .slice ao2 xs.length cap2] 24))
      obtain ⟨V2, hV2⟩ : ∃ V, y2.alloc (.cells #[.int .i64 ra, .int .i64 ca, .slice ao2 xs.length cap2] 24) = V := ⟨_, rfl⟩
      rw [hV2] at m2 u2 k2 ⊢
      have B2 := bt B1 k2
      clear hc2 p00 p01 p02 p10 p11 p12 hV2 s2 g2
      have X2 := keep B2 x1
      have S2 := sa0.below B2
      clear m1 u1 k1 k2 t1 t2
      refine tu_region X2 m2 (zs := zt) (xs := xs) ?_ ?_ ?_ ?_ ?_
      · intro w hb
        exact t3 w _ (S2.below hb)
      · intro w sl hb hs
        exact t4 w sl hs
      · intro w sl hb hs
        exact (rsame_any _ _ _ _ _ _ xs xs w hxl hxl hs (S2.below hb)).mono fun e b ⟨h1, h2⟩ => ⟨by rw [h1, hs1], h2⟩
      · intro w hb
        exact (rsame_any _ _ _ _ _ _ xs xs w hxl hxl (u2.below hb) (S2.below hb)).mono fun e b ⟨h1, h2⟩ => ⟨by rw [h1, hs1], h2⟩
      · intro vs y3 b3 hv
        have B3 := bt B2 b3
        unfold tuFr
        rw [hv]
        clear m2 u2 X2 S2 b3 t3 t4 hs1
        obtain ⟨i0, i1, i2, _⟩ := mat_cells (keep B3 x1)
        obtain ⟨j0, j1, j2, _⟩ := mat_cells (keep B3 x2)
        by_cases hcr : ca = rb
        · subst hcr
          obtain ⟨ts, bs, ps, zs, X, hz0, hz64, hp64, hpr, t5, t6, t7, t8, t9⟩ := turn_prod ha hb
          have hs2 := sameB_self cb ra zs
          clear ha hb
          have hc4 := t5 y3 _ _ (sa0.below B3) (sb0.below B3)
          obtain ⟨p00, p01, p02, _⟩ := mat_cells (keep B3 x1)
          obtain ⟨p10, p11, p12, _⟩ := mat_cells (keep B3 x2)
          go_upto_region 11 with (go_at_call 16; refine hc4.mono ?_; rintro e y4 ⟨v4, rfl, s4, g4⟩; obtain ⟨ao4, cap4, hv4⟩ := s4.slice; subst hv4)
          have m4 := heap_new y4 (.cells #[.int .i64 ra, .int .i64 cb, .slice ao4 ps.length cap4] 24)
          have u4 := s4.alloc (.cells #[.int .i64 ra, .int .i64 cb, .slice ao4 ps.length cap4] 24)
          have k4 := bt g4 (box_below y4 (.cells #[.int .i64 ra, .int .i64 cb, .slice ao4 ps.length cap4] 24))
          obtain ⟨V4, hV4⟩ : ∃ V, y4.alloc (.cells #[.int .i64 ra, .int .i64 cb, .slice ao4 ps.length cap4] 24) = V := ⟨_, rfl⟩
          rw [hV4] at m4 u4 k4 ⊢
          have B4 := bt B3 k4
          have U4 := u4
          clear hc4 p00 p01 p02 p10 p11 p12 hV4 s4 g4
          clear i0 i1 i2 j0 j1 j2
          have X4 := keep B4 x1
          have Y4 := keep B4 x2
          have SA4 := sa0.below B4
          have SB4 := sb0.below B4
          refine ts_region hz0 X4 Y4 (ts := ts) (bs := bs) (X := X) ?_ ?_ ?_ ?_
          · intro y hb
            exact t7 y _ (SB4.below hb)
          · intro y hb
            exact t6 y _ (SA4.below hb)
          · intro y s t hb h1 h2
            exact t8 y s t h1 h2
          · intro v72 v73 v74 v75 v76 v77 v78 v79 v80 sl D y5 b5 hD s5
            obtain ⟨so, scap, rfl⟩ := s5.slice
            unfold tsFr
            have M5 := keep b5 m4
            have U5 := U4.below b5
            go_upto_region 12 with fail
            refine tv_region M5 hD (X := X) (zs := zs) ?_ ?_ ?_ ?_
            · intro w hb
              exact t9 w _ (U5.below hb)
            · intro w sl hb hs
              exact (rsame_any _ _ _ _ _ _ zs zs w (by omega) (by omega) hs (s5.below hb)).mono fun e b ⟨h1, h2⟩ => ⟨by rw [h1, hs2], h2⟩
            · intro w hb
              exact (right_any _ _ _ ps w (by omega) (U5.below hb)).mono fun e b ⟨h1, h2⟩ => ⟨by rw [h1, hpr], h2⟩
            · intro vs' y6 b6 hv'
              unfold tvFr
              rw [hv']
              go_wp2
              go_ret
              exact ⟨rfl, bt (bt (bt b0 B4) b5) b6⟩
        · have hc' : (ca == rb) = false := by simpa using hcr
          go_wp2
          go_ret
          exact ⟨rfl, bt b0 B3⟩
end Go.Proofs.Yteohdhmimpajmaa
