/-
  The walk of FrameBytes.
-/
import Derived.Test.YtnkghcbjokmooaaDoorFA
namespace Go.Proofs.YtnkghcbjokmooaaDoor.Gr
open Go.RowKit Go.Sort Qm
set_option linter.unusedVariables false

set_option maxRecDepth 20000 in
set_option maxHeartbeats 4000000 in
theorem frameBytes_walk (k : Int) (v : Value) (xs : List Int) (k2 : Int) (v2 : Value) (ys : List Int) (vb' : Value) (bs : List (BitVec 8)) (w : World) (hG : Longs w)
    (sx : SeesI w v xs) (lx : xs.length ≤ 140737488351232) (kb : -9223372036854775808 ≤ k ∧ k ≤ 9223372036854775807) (rx : ∀ x ∈ xs, -9223372036854775808 ≤ x ∧ x ≤ 9223372036854775807)
    (sy : SeesI w v2 ys) (ly : ys.length ≤ 140737488351232) (kb2 : -9223372036854775808 ≤ k2 ∧ k2 ≤ 9223372036854775807) (ry : ∀ x ∈ ys, -9223372036854775808 ≤ x ∧ x ≤ 9223372036854775807)
    (sb : SeesB w vb' bs) (lb : bs.length ≤ 140737488351232) :
    Calls Tryd.prog 3 #[.agg #[.int .i64 k, v], .agg #[.int .i64 k2, v2], vb'] w fun e w' => e = .returned (.bool true) ∧ Below w.heap.size w w' := by
  obtain ⟨ao, acap, rfl⟩ := sx.slice
  obtain ⟨bo, bcap, rfl⟩ := sy.slice
  obtain ⟨co, ccap, rfl⟩ := sb.slice
  have b0 := ball2' w (.cells #[.int .i64 k, .slice ao xs.length acap] 24) (.cells #[.int .i64 k2, .slice bo ys.length bcap] 24)
  have cS := shown8 _ (hG.below b0)
  have hw : wrap64 ((xs.length : Int) + (ys.length : Int)) = (xs.length : Int) + (ys.length : Int) := by unfold wrap64; omega
  have HF : Hid (((w.alloc (.cells #[.int .i64 k, .slice ao xs.length acap] 24)).alloc (.cells #[.int .i64 k2, .slice bo ys.length bcap] 24)).heap[w.heap.size]? = some (.cells #[.int .i64 k, .slice ao xs.length acap] 24 (0, 0))) := heap_old (heap_new w _) _
  have HF2 : Hid (((w.alloc (.cells #[.int .i64 k, .slice ao xs.length acap] 24)).alloc (.cells #[.int .i64 k2, .slice bo ys.length bcap] 24)).heap[w.heap.size + 1]? = some (.cells #[.int .i64 k2, .slice bo ys.length bcap] 24 (0, 0))) := by
    have := heap_new (w.alloc (.cells #[.int .i64 k, .slice ao xs.length acap] 24)) (.cells #[.int .i64 k2, .slice bo ys.length bcap] 24)
    rwa [World.size_alloc] at this
  by_cases h1 : 100 < xs.length + ys.length
  · have d1 : decide ((100 : Int) < (xs.length : Int) + (ys.length : Int)) = true := by simp; omega
    generalize xs.length = n at *
    generalize ys.length = m at *
    clear sx sy sb rx ry hG
    go_enter Tryd.func3, Tryd.ntmps3
    go_wp2_with (go_at_call 10; refine cS.mono ?_; rintro e w1 ⟨rfl, b1⟩; obtain ⟨c0, c1, _, _⟩ := two_cells (keep b1 HF.out); obtain ⟨c2, c3, _, _⟩ := two_cells (keep b1 HF2.out))
    go_ret
    exact ⟨rfl, bt b0 b1⟩
  · have d1 : decide ((100 : Int) < (xs.length : Int) + (ys.length : Int)) = false := by simp; omega
    by_cases h2 : 500 < bs.length
    · have d2 : decide ((500 : Int) < (bs.length : Int)) = true := by simp; omega
      generalize xs.length = n at *
      generalize ys.length = m at *
      generalize bs.length = q at *
      clear sx sy sb rx ry hG
      go_enter Tryd.func3, Tryd.ntmps3
      go_wp2_with (go_at_call 10; refine cS.mono ?_; rintro e w1 ⟨rfl, b1⟩; obtain ⟨c0, c1, _, _⟩ := two_cells (keep b1 HF.out); obtain ⟨c2, c3, _, _⟩ := two_cells (keep b1 HF2.out))
      go_ret
      exact ⟨rfl, bt b0 b1⟩
    · have d2 : decide ((500 : Int) < (bs.length : Int)) = false := by simp; omega
      have cE := fun (u : World) (h : Below w.heap.size w u) => encode_any k _ xs u (sx.below h) (hG.below h)
      have cF := fun (u : World) (h : Below w.heap.size w u) => rencode_any k _ xs u (sx.below h)
      have cD := fun (u : World) (h : Below w.heap.size w u) => decode_any _ bs (by omega) u (sb.below h) (hG.below h)
      have cC := fun (u : World) (h : Below w.heap.size w u) => rdecode_any _ bs (by omega) u (sb.below h)
      have cA := fun (u : World) (va vc : Value) (h1 : SeesB u va (encA k xs)) (h2 : SeesB u vc (encA k xs)) => rsame_any va vc _ _ u (Nat.le_trans (encA_len k xs) (by decide)) (Nat.le_trans (encA_len k xs) (by decide)) h1 h2
      have e1 : decide (encA k xs = encA k xs) = true := by simp
      rw [e1] at cA
      have cB := fun (u : World) (va vc : Value) (h1 : SeesI u va (decN bs)) (h2 : SeesI u vc (decN bs)) => rsame8_any (decK bs) va _ (decK bs) vc _ u (Nat.le_trans (decN_len bs) (by decide)) (Nat.le_trans (decN_len bs) (by decide)) h1 h2
      rw [sameS_self] at cB
      have k1 := fun (u : World) (h : Below w.heap.size w u) d os => long_calm k u (hG.below h) d os
      have k2' := fun (u : World) d os => rlong_calm k u d os
      have k3 := fun (u : World) (h : Below w.heap.size w u) d os => right_calm k ao xs.length acap u (hG.below h) d os
      have k4 := fun (u : World) d os => rright_calm k ao xs.length acap u d os
      have k5 := fun (u : World) (h : Below w.heap.size w u) d os => same_calm k _ xs k2 _ ys u (by omega) (by omega) (sx.below h) (sy.below h) d os
      have k6 := fun (u : World) (h : Below w.heap.size w u) d os => rsame8_calm k _ xs k2 _ ys u (by omega) (by omega) (sx.below h) (sy.below h) d os
      clear e1 sx sy sb rx ry hG h1 h2 lx ly lb
      have HDN : Hid ((decN bs).length ≤ 18) := decN_len bs
      generalize encA k xs = Z at cE cF cA
      generalize encE k xs.length = Er at cE cF
      generalize decN bs = DN at cD cC cB HDN
      generalize decK bs = DK at cD cC cB
      generalize decE bs = DE at cD cC
      generalize longS k = L at k1 k2'
      generalize rightS k xs.length = R at k3 k4
      generalize sameS k xs k2 ys = Sm at k5 k6
      generalize xs.length = n at *
      generalize ys.length = m at *
      generalize bs.length = q at *
      go_enter Tryd.func3, Tryd.ntmps3
      go_wp2_with (first
        | (go_at_call 10; refine cS.mono ?_; rintro e w1 ⟨rfl, b1⟩; obtain ⟨c0, c1, _, _⟩ := two_cells (keep b1 HF.out); obtain ⟨c2, c3, _, _⟩ := two_cells (keep b1 HF2.out); have B1 := bt b0 b1)
        | (go_at_call 11; refine (cE _ B1).mono ?_; rintro e w2 ⟨x2, rfl, s2, b2⟩; have B2 := bt B1 b2; obtain ⟨d0, d1', _, _⟩ := two_cells (keep b2 (keep b1 HF.out)); obtain ⟨xo2, xc2, rfl⟩ := s2.slice)
        | (go_at_call 12; refine (cF _ B2).mono ?_; rintro e w3 ⟨x3, rfl, s3, b3⟩; have B3 := bt B2 b3; obtain ⟨xo3, xc3, rfl⟩ := s3.slice)
        | (go_at_call 13; refine (cD _ B3).mono ?_; rintro e w4 ⟨x4, rfl, s4, b4⟩; obtain ⟨xo4, xc4, rfl⟩ := s4.slice; have B4 := bt (bt B3 b4) (box_below w4 (.cells #[.int .i64 DK, .slice xo4 DN.length xc4] 24)))
        | (go_at_call 14; refine (cC _ B4).mono ?_; rintro e w5 ⟨x5, rfl, s5, b5⟩; obtain ⟨xo5, xc5, rfl⟩ := s5.slice; have B5 := bt (bt B4 b5) (box_below w5 (.cells #[.int .i64 DK, .slice xo5 DN.length xc5] 24)); have b45 := bt (bt (box_below w4 (.cells #[.int .i64 DK, .slice xo4 DN.length xc4] 24)) b5) (box_below w5 (.cells #[.int .i64 DK, .slice xo5 DN.length xc5] 24)))
        | (go_at_call 15; refine (cA _ _ _ (s2.below (bt (bt b3 b4) b45)) (s3.below (bt b4 b45))).mono ?_; rintro e w6 ⟨rfl, b6⟩; have B6 := bt B5 b6; obtain ⟨x0, x1, _, _⟩ := two_cells (keep b6 (heap_old (keep b5 (heap_new w4 (.cells #[.int .i64 DK, .slice xo4 DN.length xc4] 24))) (.cells #[.int .i64 DK, .slice xo5 DN.length xc5] 24))); obtain ⟨y0, y1, _, _⟩ := two_cells (keep b6 (heap_new w5 (.cells #[.int .i64 DK, .slice xo5 DN.length xc5] 24))))
        | (go_at_call 16; refine (cB _ _ _ (s4.below (bt b45 b6)) (s5.below (bt (box_below w5 _) b6))).mono ?_; rintro e w7 ⟨rfl, b7⟩; have B7 := bt B6 b7))
      have bb := bt (bt (bt (bt (bt b1 b2) b3) b4) b45) (bt b6 b7)
      obtain ⟨p0, p1, _, _⟩ := two_cells (keep bb HF.out)
      obtain ⟨p2, p3, _, _⟩ := two_cells (keep bb HF2.out)
      have m0 := cell_regrown p0
      have m1 := cell_regrown p1
      have m2 := cell_regrown p2
      have m3 := cell_regrown p3
      clear p0 p1 p2 p3 c0 c1 c2 c3 d0 d1' x0 x1 y0 y1
      refine wp_region_quiet_below (by kernel_rfl) (by kernel_rfl) ?_
      repeat (quiet_step (first
        | (go_at_call 17; exact k1 _ B7 _ _)
        | (go_at_call 18; exact k2' _ _ _)
        | (go_at_call 19; exact k3 _ B7 _ _)
        | (go_at_call 20; exact k4 _ _ _)
        | (go_at_call 21; exact k5 _ B7 _ _)
        | (go_at_call 16; exact k6 _ B7 _ _)))
      refine wpQuiet_nil ?_
      intro _ hw'
      obtain ⟨⟨dq, osq⟩, hw''⟩ := hw'
      subst hw''
      go_wp2
      go_ret
      exact ⟨rfl, bt B7 (below_regrown _ dq osq)⟩
end Go.Proofs.YtnkghcbjokmooaaDoor.Gr
