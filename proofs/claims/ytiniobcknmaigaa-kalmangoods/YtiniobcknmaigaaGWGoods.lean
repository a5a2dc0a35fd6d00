/-
  The walk of KalmanGoods.
-/
import Derived.Test.YtiniobcknmaigaaGAGd5
import Derived.Test.YtiniobcknmaigaaGAGd7
import Derived.Test.YtiniobcknmaigaaGWEyes
namespace Go.Proofs.Ytiniobcknmaigaa
open Go.RowKit Go.Sort Qm

set_option maxRecDepth 20000 in
set_option maxHeartbeats 1600000 in
theorem kalmanGoods_walk (r c : Int) (v : Value) (ps : List Int) (w : World) (s1 : Sees w v ps) :
    Calls Try.prog 9 #[.agg #[.int .i64 r, .int .i64 c, v]] w fun e w' => e = .returned (.bool true) ∧ Below w.heap.size w w' := by
  obtain ⟨po, pc, rfl⟩ := s1.slice
  obtain ⟨W, hW⟩ : ∃ W, w.alloc (.cells #[.int .i64 r, .int .i64 c, .slice po ps.length pc] 24) = W := ⟨_, rfl⟩
  have x1 := heap_new w (.cells #[.int .i64 r, .int .i64 c, .slice po ps.length pc] 24)
  have bW := box_below w (.cells #[.int .i64 r, .int .i64 c, .slice po ps.length pc] 24)
  rw [hW] at x1 bW
  have t1 := s1.below bW
  have kR := fun v hv => rright_any r c _ ps v (t1.below hv)
  cases hT : rightB r c ps with
  | false =>
    rw [hT] at kR
    clear hT
    go_enter Try.func9, Try.ntmps9
    go_wp2_with (first
      | (have _ := b0; go_at_call 16; go_must (refine (kR _ b0).mono ?_); rintro e wb ⟨rfl, b1⟩)
      | (go_at_call 10; go_must (refine (kshown_any _).mono ?_); rintro e wa ⟨rfl, b0⟩; obtain ⟨a0, a1, a2, _⟩ := mat_cells (keep b0 x1)))
    go_ret
    exact ⟨rfl, bt bW (bt b0 b1)⟩
  | true =>
    rw [hT] at kR
    obtain ⟨R, C, hR⟩ := right_of hT
    obtain ⟨rfl, rfl, n1, n8, m1, m8, hl, hal⟩ := hR
    clear hT
    by_cases hRC : R = C
    · subst hRC
      have kG := fun v u hu => kgood_any R n1 n8 u ps hl hal v hu
      have lg := gd_len R ps
      have kG2 := fun v u hu => kgood_any R n1 n8 u (gd R ps) lg (gd_in hal) v hu
      rw [gd_self lg (evB_gd R ps)] at kG2
      have kN := fun v => none_sees R 1 n8 (by omega) n1 (by omega) v
      have lz : (tab (fun _ => (0 : Int)) (R * 1)).length = R * 1 := tab_len _ _
      have iz : AllIn (tab (fun _ => (0 : Int)) (R * 1)) := fun p => by
        by_cases hp : p < R * 1
        · rw [ge_tab hp]; omega
        · rw [ge_out (by rw [lz]; omega)]; omega
      have hX := trk_mk n1 n8 lz lg iz (gd_in hal) (evB_gd R ps)
      have kX := fun va vb v sa sb => rright5_any R 1 R R va vb (tab (fun _ => (0 : Int)) (R * 1)) (gd R ps) v sa sb
      have kX2 := fun va vb v sa sb => kright_any R 1 R R va vb (tab (fun _ => (0 : Int)) (R * 1)) (gd R ps) (by omega) (by have := mul_le_64 n8 n8; omega) v sa sb
      have kY := fun va vb v sa sb => rright5_any R 1 R R va vb (tab (fun _ => (0 : Int)) (R * 1)) ps v sa sb
      rw [hX] at kX kX2
      have hY : trkB R 1 (tab (fun _ => (0 : Int)) (R * 1)) R R ps = evB R ps := by
        have r1 : rightB R 1 (tab (fun _ => (0 : Int)) (R * 1)) = true := right_mk (R := R) (C := 1) ⟨rfl, rfl, n1, n8, by omega, by omega, lz, iz⟩
        have r2 : rightB R R ps = true := right_mk ⟨rfl, rfl, n1, n8, n1, n8, hl, hal⟩
        unfold trkB
        rw [r1, r2, Int.toNat_natCast]
        simp
      rw [hY] at kY
      have lp : ps.length ≤ 100 := by have := mul_le_64 n8 n8; omega
      have lgl : (gd R ps).length ≤ 100 := by have := mul_le_64 n8 n8; omega
      have kS := fun va vb v sa sb => rsame_any R R R R va vb (gd R ps) (gd R ps) v lgl lgl sa sb
      rw [sameB_self] at kS
      have kS2 := fun va vb v sa sb => rsame_any R R R R va vb (gd R ps) ps v lgl lp sa sb
      have hS2 : evB R ps = true → sameB R R (gd R ps) R R ps = true := fun h => by rw [gd_self hl h]; exact sameB_self _ _ _
      have pg : 0 < (gd R ps).length := by rw [lg]; exact Nat.mul_pos n1 n1
      have pz : 0 < (tab (fun _ => (0 : Int)) (R * 1)).length := by omega
      have pp : 0 < ps.length := by rw [hl]; exact Nat.mul_pos n1 n1
      clear hX hY lz iz lg hal hl lp lgl
      generalize gd R ps = gs at *
      generalize tab (fun _ => (0 : Int)) (R * 1) = zs at *
      go_enter Try.func9, Try.ntmps9
      go_wp2_with (first
        | (have _ := b1; go_at_call 18; go_must (refine (kG _ _ (t1.below (bt b0 b1))).mono ?_); rintro e wc ⟨ve, rfl, se, ne, b2⟩; obtain ⟨go, gc, rfl⟩ := se.slice)
        | (have _ := b0; go_at_call 16; go_must (refine (kR _ b0).mono ?_); rintro e wb ⟨rfl, b1⟩; obtain ⟨d0, d1, d2, _⟩ := mat_cells (keep (bt b0 b1) x1))
        | (go_at_call 10; go_must (refine (kshown_any _).mono ?_); rintro e wa ⟨rfl, b0⟩; obtain ⟨a0, a1, a2, _⟩ := mat_cells (keep b0 x1)))
      have h4 := heap_new wc (.cells #[.int .i64 R, .int .i64 R, .slice go gs.length gc] 24)
      have b4 := bt (bt b0 b1) (bt b2 (box_below wc (.cells #[.int .i64 R, .int .i64 R, .slice go gs.length gc] 24)))
      have sg := se.alloc (.cells #[.int .i64 R, .int .i64 R, .slice go gs.length gc] 24)
      generalize wc.alloc (.cells #[.int .i64 R, .int .i64 R, .slice go gs.length gc] 24) = w0 at h4 b4 sg ⊢
      have hM : ∀ w0 v, Mod (fun _ => False) w0 v → Below w0.heap.size w0 v := fun w0 v hv => hv.below (Nat.le_refl _) (fun _ h => h.elim)
      refine gd5_region (D1 := w.heap.size) (D4 := wc.heap.size) (n := R) (gc := gc) (go := go) (gs := gs) (zs := zs) (fun v hv => (mat_cells (keep (bt b4 (hM _ v hv)) x1)).1) (fun v hv => three_mod (keep (hM _ v hv) h4)) sg (sg.lt pg) (fun v hv => kN v) pz ?_
      intro vs D5 xo5 xc5 go5 gc5 w5 m5 e5 hD5 hb5 u1 u2
      unfold gd5Fr
      rw [e5]
      have b5 := hM _ _ m5
      have tp := t1.below (bt b4 b5)
      go_wp2
      refine gd6_region (D1 := w.heap.size) (n := R) (pc := pc) (po := po) (ps := ps) (zs := zs) (fun v hv => (mat_cells (keep (bt (bt b4 b5) (hM _ v hv)) x1)).1) (fun v hv => three_mod (keep (bt (bt b4 b5) (hM _ v hv)) x1)) tp (tp.lt pp) (fun v hv => kN v) pz ?_
      intro vs6 D6 yo6 yc6 po6 pc6 w6 m6 e6 hD6 hb6 q1 q2
      unfold gd6Fr
      rw [e6]
      have b6 := hM _ _ m6
      have h46 := keep (bt b5 b6) h4
      have h56 := keep b6 hb5
      have x16 := keep (bt (bt b4 b5) b6) x1
      have sg6 := sg.below (bt b5 b6)
      have u1' := u1.below b6
      have u2' := u2.below b6
      have tp6 := tp.below b6
      have bE := bt (bt b4 b5) b6
      clear hb5 h4 kN kG kR m5 m6 u1 u2 tp sg
      cases hev : evB R ps with
      | false =>
        rw [hev] at kY
        go_wp2
        refine gd7f_region (D4 := wc.heap.size) (D5 := D5) (D6 := D6) (n := R) (xc := xc5) (kc := gc5) (gc := gc) (yc := yc6) (mc := pc6) (xo := xo5) (ko := go5) (go := go) (yo := yo6) (mo := po6) (zs := zs) (gs := gs) (ps := ps) (qs := gs) (fun v hv => keep (hM _ v hv) h56) (fun v hv => three_mod (keep (hM _ v hv) h46)) (fun v hv => keep (hM _ v hv) hb6) (fun v hv => kX _ _ v (u1'.below (hM _ v hv)) (u2'.below (hM _ v hv))) (fun v hv => kX2 _ _ v (u1'.below (hM _ v hv)) (u2'.below (hM _ v hv))) (fun v hv => kG2 v _ (sg6.below (hM _ v hv))) pg (fun v hv s hs => kS _ _ v hs (sg6.below (hM _ v hv))) (fun v hv => kY _ _ v (q1.below (hM _ v hv)) (q2.below (hM _ v hv))) ?_
        intro vs7 w7 m7 e2
        unfold gd7fFr
        rw [e2]
        go_wp2
        go_ret
        exact ⟨rfl, bt bW (bt bE (hM _ _ m7))⟩
      | true =>
        rw [hev] at kY
        have hS3 := hS2 hev
        rw [hS3] at kS2
        go_wp2
        refine gd7t_region (D4 := wc.heap.size) (D5 := D5) (D6 := D6) (D1 := w.heap.size) (n := R) (xc := xc5) (kc := gc5) (gc := gc) (yc := yc6) (mc := pc6) (xo := xo5) (ko := go5) (go := go) (yo := yo6) (mo := po6) (pc := pc) (po := po) (zs := zs) (gs := gs) (ps := ps) (qs := gs) (fun v hv => keep (hM _ v hv) h56) (fun v hv => three_mod (keep (hM _ v hv) h46)) (fun v hv => keep (hM _ v hv) hb6) (fun v hv => kX _ _ v (u1'.below (hM _ v hv)) (u2'.below (hM _ v hv))) (fun v hv => kX2 _ _ v (u1'.below (hM _ v hv)) (u2'.below (hM _ v hv))) (fun v hv => kG2 v _ (sg6.below (hM _ v hv))) pg (fun v hv s hs => kS _ _ v hs (sg6.below (hM _ v hv))) (fun v hv => kY _ _ v (q1.below (hM _ v hv)) (q2.below (hM _ v hv))) (fun v hv => three_mod (keep (hM _ v hv) x16)) (fun v hv => kS2 _ _ v (sg6.below (hM _ v hv)) (tp6.below (hM _ v hv))) ?_
        intro vs7 w7 m7 e2
        unfold gd7tFr
        rw [e2]
        go_wp2
        go_ret
        exact ⟨rfl, bt bW (bt bE (hM _ _ m7))⟩
    · have hne : ((R : Int) == (C : Int)) = false := by simp; omega
      clear hl hal
      go_enter Try.func9, Try.ntmps9
      go_wp2_with (first
        | (have _ := b0; go_at_call 16; go_must (refine (kR _ b0).mono ?_); rintro e wb ⟨rfl, b1⟩; obtain ⟨d0, d1, d2, _⟩ := mat_cells (keep (bt b0 b1) x1))
        | (go_at_call 10; go_must (refine (kshown_any _).mono ?_); rintro e wa ⟨rfl, b0⟩; obtain ⟨a0, a1, a2, _⟩ := mat_cells (keep b0 x1)))
      go_ret
      exact ⟨rfl, bt bW (bt b0 b1)⟩
end Go.Proofs.Ytiniobcknmaigaa
