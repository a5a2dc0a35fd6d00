/-
  The walk of KalmanEyes.
-/
import Derived.Test.YtiniobcknmaigaaGAEy5
import Derived.Test.YtiniobcknmaigaaG35
import Derived.Test.YtiniobcknmaigaaG36
import Derived.Test.YtiniobcknmaigaaG08
import Derived.Test.YtiniobcknmaigaaG14
namespace Go.Proofs.Ytiniobcknmaigaa
open Go.RowKit Go.Sort Qm

theorem none_sees (R C : Nat) (hR : R ≤ 8) (hC : C ≤ 8) (h1 : 1 ≤ R) (h2 : 1 ≤ C) (w : World) :
    Calls Try.prog 25 #[.int .i64 R, .int .i64 C] w fun e b => ∃ v, e = .returned (.agg #[.int .i64 R, .int .i64 C, v]) ∧ Sees b v (tab (fun _ => (0 : Int)) (R * C)) ∧ New w.heap.size v ∧ Below w.heap.size w b := by
  refine (none_any R C hR hC h1 h2 w).mono ?_
  rintro e b ⟨g, cap, rfl, ho, hb⟩
  exact ⟨_, rfl, Sees.own ho, New.own ho, hb⟩
set_option maxRecDepth 20000 in
set_option maxHeartbeats 800000 in
theorem kalmanEyes_walk (r1 c1 r2 c2 : Int) (v1 v2 : Value) (xs ps : List Int) (w : World) (s1 : Sees w v1 xs) (s2 : Sees w v2 ps) :
    Calls Try.prog 6 #[.agg #[.int .i64 r1, .int .i64 c1, v1, .int .i64 r2, .int .i64 c2, v2]] w fun e w' => e = .returned (.bool true) ∧ Below w.heap.size w w' := by
  obtain ⟨xo, xc, rfl⟩ := s1.slice
  obtain ⟨po, pc, rfl⟩ := s2.slice
  obtain ⟨W, hW⟩ : ∃ W, w.alloc (.cells #[.int .i64 r1, .int .i64 c1, .slice xo xs.length xc, .int .i64 r2, .int .i64 c2, .slice po ps.length pc] 26) = W := ⟨_, rfl⟩
  have x1 := heap_new w (.cells #[.int .i64 r1, .int .i64 c1, .slice xo xs.length xc, .int .i64 r2, .int .i64 c2, .slice po ps.length pc] 26)
  have bW := box_below w (.cells #[.int .i64 r1, .int .i64 c1, .slice xo xs.length xc, .int .i64 r2, .int .i64 c2, .slice po ps.length pc] 26)
  rw [hW] at x1 bW
  have t1 := s1.below bW
  have t2 := s2.below bW
  have kR := fun v hv => rright5_any r1 c1 r2 c2 _ _ xs ps v (t1.below hv) (t2.below hv)
  cases hT : trkB r1 c1 xs r2 c2 ps with
  | false =>
    rw [hT] at kR
    clear hT
    go_enter Try.func6, Try.ntmps6
    go_wp2_with (first
      | (have _ := b0; go_at_call 13; go_must (refine (kR _ b0).mono ?_); rintro e wb ⟨rfl, b1⟩)
      | (go_at_call 10; go_must (refine (kshown_any _).mono ?_); rintro e wa ⟨rfl, b0⟩; obtain ⟨a0, a1, a2, a3, a4, a5⟩ := six_cells (keep b0 x1)))
    go_ret
    exact ⟨rfl, bt bW (bt b0 b1)⟩
  | true =>
    rw [hT] at kR
    obtain ⟨n, rfl, rfl, rfl, rfl, n1, n8, hx, hp, ix, ip, he⟩ := trk_of hT
    clear hT
    obtain ⟨f1, f2, f3⟩ := eyes_facts n1 hx hp ix ip he
    have lE : (dia (fun _ => 16777216) n).length = n * n := tab_len _ _
    have lN : (tab (fun _ => (0 : Int)) (n * n)).length = n * n := tab_len _ _
    have kP := fun vf vq v sa sb sc sd => kpredict_any n n1 n8 (.slice xo xs.length xc) (.slice po ps.length pc) vf vq xs ps (dia (fun _ => 16777216) n) (tab (fun _ => (0 : Int)) (n * n)) hx hp lE lN v sa sb sc sd
    rw [f1, f2, f3] at kP
    have kN := fun v => none_sees n n n8 n8 n1 n1 v
    have kE := fun v => reye_any n n1 n8 v
    have pn : 0 < n * n := Nat.mul_pos n1 n1
    have px : 0 < xs.length := by omega
    have pp : 0 < ps.length := by omega
    have pz : 0 < (tab (fun _ => (0 : Int)) (n * n)).length := by omega
    have lx : xs.length ≤ 100 := by omega
    have lp : ps.length ≤ 100 := by have := mul_le_64 n8 n8; omega
    have kS := fun va vb v sa sb ha hb => rsamet_any n 1 n n n 1 n n va vb (.slice xo xs.length xc) (.slice po ps.length pc) xs ps xs ps v lx lp lx lp sa sb ha hb
    rw [sameB_self, sameB_self] at kS
    clear f1 f2 f3 hx hp ix ip he lN
    generalize tab (fun _ => (0 : Int)) (n * n) = zs at kP kN pz
    clear lE
    generalize dia (fun _ => 16777216) n = es at kP kE
    go_enter Try.func6, Try.ntmps6
    go_wp2_with (first
      | (have _ := b1; go_at_call 24; go_must (refine (kE _).mono ?_); rintro e wc ⟨ve, rfl, se, ne, b2⟩; obtain ⟨eo, ec, rfl⟩ := se.slice)
      | (have _ := b0; go_at_call 13; go_must (refine (kR _ b0).mono ?_); rintro e wb ⟨rfl, b1⟩; obtain ⟨d0, d1, d2, d3, d4, d5⟩ := six_cells (keep (bt b0 b1) x1))
      | (go_at_call 10; go_must (refine (kshown_any _).mono ?_); rintro e wa ⟨rfl, b0⟩; obtain ⟨a0, a1, a2, a3, a4, a5⟩ := six_cells (keep b0 x1)))
    have h4 := heap_new wc (.cells #[.int .i64 n, .int .i64 n, .slice eo es.length ec] 24)
    have b4 := bt (bt b0 b1) (bt b2 (box_below wc (.cells #[.int .i64 n, .int .i64 n, .slice eo es.length ec] 24)))
    have se' := se.alloc (.cells #[.int .i64 n, .int .i64 n, .slice eo es.length ec] 24)
    generalize wc.alloc (.cells #[.int .i64 n, .int .i64 n, .slice eo es.length ec] 24) = w0 at h4 b4 se' ⊢
    have hM : ∀ v, Mod (fun _ => False) w0 v → Below w0.heap.size w0 v := fun v hv => hv.below (Nat.le_refl _) (fun _ h => h.elim)
    refine ey5_region (D1 := w.heap.size) (D4 := wc.heap.size) (n := n) (xc := xc) (pc := pc) (ec := ec) (xo := xo) (po := po) (eo := eo) (xs := xs) (ps := ps) (es := es) (zs := zs) (fun v hv => keep (bt b4 (hM v hv)) x1) (fun v hv => (six_cells (keep (bt b4 (hM v hv)) x1)).1) (fun v hv => three_mod (keep (hM v hv) h4)) (fun v hv => kN v) pz (fun v hv s hs => kP _ _ v (t1.below (bt b4 (hM v hv))) (t2.below (bt b4 (hM v hv))) (se'.below (hM v hv)) hs) px pp ?_
    intro vs D ao ac bo bc wd md e7 e8 e6 hD hbD u1 u2
    unfold ey5Fr
    rw [e7, e8, e6]
    have bd := bt b4 (hM wd md)
    have k9 := kS _ _ wd u1 u2 (t1.below bd) (t2.below bd)
    obtain ⟨g0, g1, g2, g3, g4, g5⟩ := six_cells hbD
    obtain ⟨i0, i1, i2, i3, i4, i5⟩ := six_cells (keep bd x1)
    clear kP kN kE kR kS md se se' h4
    go_wp2_with (go_at_call 14; go_must (refine k9.mono ?_); rintro e we ⟨rfl, b9⟩)
    go_ret
    exact ⟨rfl, bt bW (bt bd b9)⟩
end Go.Proofs.Ytiniobcknmaigaa
