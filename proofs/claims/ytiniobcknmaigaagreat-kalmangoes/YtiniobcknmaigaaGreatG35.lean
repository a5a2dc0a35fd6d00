/-
  Texts joined, in the order in which they stand on one another: KUpd KShM KShown.
-/
import Derived.Test.YtiniobcknmaigaaGreatG31
import Derived.Test.YtiniobcknmaigaaGreatG33
import Derived.Test.YtiniobcknmaigaaGreatG34
/-
  The contracts of the code's Update, and of Predict where the sizes do not fit.
-/
namespace Go.Proofs.YtiniobcknmaigaaGreat
open Go.RowKit Go.Sort Qm

set_option maxRecDepth 20000 in
set_option maxHeartbeats 1600000 in
theorem kupdate_no (n : Nat) (n1 : 1 ≤ n) (hn : n ≤ 8) (vx vp vh : Value) (xs ps hs : List Int) (hx : xs.length = n * 1) (hp : ps.length = n * n) (hh : hs.length = 1 * n) (z r gate : Int) (hr : 0 < r) (w : World) (sx : Sees w vx xs) (sp : Sees w vp ps) (sh : Sees w vh hs)
    (hno : (decide (mul (inY n xs hs z) (inY n xs hs z) ≤ mul gate (inS n ps hs r)) && decide (0 < inS n ps hs r)) = false) :
    Calls Tryz.prog 9 #[.agg #[.int .i64 n, .int .i64 1, vx, .int .i64 n, .int .i64 n, vp], .agg #[.int .i64 1, .int .i64 n, vh], .int .i64 z, .int .i64 r, .int .i64 gate] w fun e b =>
      ∃ va vb, e = .returned (.tuple #[.agg #[.int .i64 n, .int .i64 1, va, .int .i64 n, .int .i64 n, vb], .bool false, .bool (inF n xs ps hs z r || mulB (inY n xs hs z) (inY n xs hs z) || mulB gate (inS n ps hs r)), .int .i64 0]) ∧ Sees b va xs ∧ Sees b vb ps ∧ New w.heap.size va ∧ New w.heap.size vb ∧ Below w.heap.size w b := by
  have kI := fun v sx sp sh => kinnov_any n n1 hn vx vp vh xs ps hs hx hp hh z r hr v sx sp sh
  have px : 0 < xs.length := by omega
  have pp : 0 < ps.length := by rw [hp]; exact Nat.mul_pos n1 n1
  have ph : 0 < hs.length := by omega
  have lx : xs.length ≤ 100 := by omega
  have lp : ps.length ≤ 100 := by have := mul_le_64 hn hn; omega
  clear hx hp hh
  obtain ⟨xo, xcap, rfl⟩ := sx.slice
  obtain ⟨po, pcap, rfl⟩ := sp.slice
  obtain ⟨ho, hcap, rfl⟩ := sh.slice
  obtain ⟨W, hW⟩ : ∃ W, ((w.alloc (.cells #[.int .i64 n, .int .i64 1, .slice xo xs.length xcap, .int .i64 n, .int .i64 n, .slice po ps.length pcap] 26)).alloc (.cells #[.int .i64 1, .int .i64 n, .slice ho hs.length hcap] 24)).alloc (.cells #[.int .i64 0, .int .i64 0, .slice none 0 0, .int .i64 0, .int .i64 0, .slice none 0 0] 26) = W := ⟨_, rfl⟩
  have bW := ball3 w (.cells #[.int .i64 n, .int .i64 1, .slice xo xs.length xcap, .int .i64 n, .int .i64 n, .slice po ps.length pcap] 26) (.cells #[.int .i64 1, .int .i64 n, .slice ho hs.length hcap] 24) (.cells #[.int .i64 0, .int .i64 0, .slice none 0 0, .int .i64 0, .int .i64 0, .slice none 0 0] 26)
  obtain ⟨x1, x2, x3⟩ := allocs3 w (.cells #[.int .i64 n, .int .i64 1, .slice xo xs.length xcap, .int .i64 n, .int .i64 n, .slice po ps.length pcap] 26) (.cells #[.int .i64 1, .int .i64 n, .slice ho hs.length hcap] 24) (.cells #[.int .i64 0, .int .i64 0, .slice none 0 0, .int .i64 0, .int .i64 0, .slice none 0 0] 26)
  rw [hW] at bW x1 x2 x3
  have hW3 : w.heap.size + 3 = W.heap.size := by rw [← hW]; simp
  have k1 := kI W (sx.below bW) (sp.below bW) (sh.below bW)
  generalize inF n xs ps hs z r = F0 at k1 ⊢
  generalize inY n xs hs z = Y at k1 hno ⊢
  generalize inS n ps hs r = Sg at k1 hno ⊢
  have kP := fun N v hN => passes_any N F0 Y Sg gate v hN
  rw [hno] at kP
  generalize (F0 || mulB Y Y || mulB gate Sg) = F1 at kP ⊢
  have kC := fun v sa sb => copied_any n 1 n n (.slice xo xs.length xcap) (.slice po ps.length pcap) xs ps lx lp px pp v sa sb
  obtain ⟨t0, t1, t2, t3, t4, t5⟩ := six_cells x1
  obtain ⟨q0, q1, q2, _⟩ := mat_cells x2
  have PX : Hid (0 < xs.length ∧ 0 < ps.length) := ⟨px, pp⟩
  clear hno lx lp px pp ph kI hn n1
  go_enter Tryz.func9, Tryz.ntmps9
  go_wp2_with (first
    | (have _ := b1; go_at_call 28; go_must (refine (kP _ _ (heap_new wa (.cells #[.bool F0, .int .i64 0] 54))).mono ?_); rintro e wb ⟨rfl, hNb, hgb⟩)
    | (go_at_call 11; go_must (refine k1.mono ?_); rintro e wa ⟨rfl, b1⟩))
  have mA : Mod (fun b => b = wa.heap.size) W wb := (Mod.of (bt b1 (box_below wa (.cells #[.bool F0, .int .i64 0] 54)))).trans (Mod.ofGb hgb)
  have zA := b1.size
  have zB := mA.size
  have y1 := mA.old x1 (by omega)
  have y3 := mA.old x3 (by omega)
  have oX : Old wb.heap.size (w.heap.size + 1 + 1) (.slice xo xs.length xcap) := old_of sx PX.out.1 (by omega) (by omega)
  have oP : Old wb.heap.size (w.heap.size + 1 + 1) (.slice po ps.length pcap) := old_of sp PX.out.2 (by omega) (by omega)
  have sX := (sx.below bW).mod (old_of sx PX.out.1 (by omega) (by omega)) mA
  have sP := (sp.below bW).mod (old_of sp PX.out.2 (by omega) (by omega)) mA
  have hNl := lt_of_block hNb
  have bE : Below w.heap.size w wb := bW.trans (mA.below (by omega) (fun k hk => by omega))
  clear hgb mA kP k1 x1 x2 x3 hW
  generalize hNe : wa.heap.size = Nn at *
  refine ku6_region (Nn := Nn) (D5 := w.heap.size) (D10 := w.heap.size + 1 + 1) (n := n) (xo := xo) (xcap := xcap) (po := po) (pcap := pcap) (xs := xs) (ps := ps) (m := F1) w.heap.size y3 bE.size (fun v hv => hv.old y1 (by omega)) (fun v hv => (two_cells (hv.old hNb (by omega))).1) (fun v hv => kC v (sX.mod oX hv) (sP.mod oP hv)) PX.out.1 PX.out.2 ?_
  intro vs ao ac bo bc wc mc e11 e12 e13 hc s1 s2 nw1 nw2
  unfold ku6Fr
  rw [e11, e12, e13]
  obtain ⟨d0, d1, d2, d3, d4, d5⟩ := six_cells hc
  have bF : Below w.heap.size w wc := bE.trans (mc.below (by have := bE.size; omega) (fun k hk => by omega))
  go_wp2
  refine bodyPost_ret (v := .tuple #[.agg #[.int .i64 n, .int .i64 1, .slice ao xs.length ac, .int .i64 n, .int .i64 n, .slice bo ps.length bc], .bool false, .bool F1, .int .i64 0]) (by simp [results, Tryz.results9, go_sem, d0, d1, d2, d3, d4, d5]) rfl ?_
  exact ⟨_, _, rfl, s1, s2, nw1, nw2, bF⟩

set_option maxRecDepth 20000 in
set_option maxHeartbeats 1600000 in
theorem kupdate_any (n : Nat) (n1 : 1 ≤ n) (hn : n ≤ 8) (vx vp vh : Value) (xs ps hs : List Int) (hx : xs.length = n * 1) (hp : ps.length = n * n) (hh : hs.length = 1 * n) (z r gate : Int) (hr : 0 < r) (w : World) (sx : Sees w vx xs) (sp : Sees w vp ps) (sh : Sees w vh hs)
    (hyes : (decide (mul (inY n xs hs z) (inY n xs hs z) ≤ mul gate (inS n ps hs r)) && decide (0 < inS n ps hs r)) = true) :
    Calls Tryz.prog 9 #[.agg #[.int .i64 n, .int .i64 1, vx, .int .i64 n, .int .i64 n, vp], .agg #[.int .i64 1, .int .i64 n, vh], .int .i64 z, .int .i64 r, .int .i64 gate] w fun e b =>
      ∃ va vb, e = .returned (.tuple #[.agg #[.int .i64 n, .int .i64 1, va, .int .i64 n, .int .i64 n, vb], .bool true, .bool (coF n xs ps hs (inY n xs hs z) (inS n ps hs r) r (inF n xs ps hs z r || mulB (inY n xs hs z) (inY n xs hs z) || mulB gate (inS n ps hs r))), .int .i64 0]) ∧
        Sees b va (upX xs (upK n ps hs (inS n ps hs r)) (inY n xs hs z)) ∧ Sees b vb (gd n (upPP n ps hs (upK n ps hs (inS n ps hs r)) r)) ∧ New w.heap.size va ∧ New w.heap.size vb ∧ Below w.heap.size w b := by
  have kI := fun v sx sp sh => kinnov_any n n1 hn vx vp vh xs ps hs hx hp hh z r hr v sx sp sh
  have px : 0 < xs.length := by omega
  have pp : 0 < ps.length := by rw [hp]; exact Nat.mul_pos n1 n1
  have ph : 0 < hs.length := by omega
  have lx : xs.length ≤ 100 := by omega
  have lp : ps.length ≤ 100 := by have := mul_le_64 hn hn; omega
  have kC := fun y s N m v sx sp sh ox op oh hN => corrected_any n n1 hn vx vp vh xs ps hs hx hp hh y s r N m v sx sp sh ox op oh hN
  have lX : ∀ k y, 0 < (upX xs k y).length := fun k y => by unfold upX; rw [pai_len]; exact px
  have lG : ∀ k, 0 < (gd n k).length := fun k => by rw [gd_len]; exact Nat.mul_pos n1 n1
  clear hx hp hh
  obtain ⟨xo, xcap, rfl⟩ := sx.slice
  obtain ⟨po, pcap, rfl⟩ := sp.slice
  obtain ⟨ho, hcap, rfl⟩ := sh.slice
  obtain ⟨W, hW⟩ : ∃ W, ((w.alloc (.cells #[.int .i64 n, .int .i64 1, .slice xo xs.length xcap, .int .i64 n, .int .i64 n, .slice po ps.length pcap] 26)).alloc (.cells #[.int .i64 1, .int .i64 n, .slice ho hs.length hcap] 24)).alloc (.cells #[.int .i64 0, .int .i64 0, .slice none 0 0, .int .i64 0, .int .i64 0, .slice none 0 0] 26) = W := ⟨_, rfl⟩
  have bW := ball3 w (.cells #[.int .i64 n, .int .i64 1, .slice xo xs.length xcap, .int .i64 n, .int .i64 n, .slice po ps.length pcap] 26) (.cells #[.int .i64 1, .int .i64 n, .slice ho hs.length hcap] 24) (.cells #[.int .i64 0, .int .i64 0, .slice none 0 0, .int .i64 0, .int .i64 0, .slice none 0 0] 26)
  obtain ⟨x1, x2, x3⟩ := allocs3 w (.cells #[.int .i64 n, .int .i64 1, .slice xo xs.length xcap, .int .i64 n, .int .i64 n, .slice po ps.length pcap] 26) (.cells #[.int .i64 1, .int .i64 n, .slice ho hs.length hcap] 24) (.cells #[.int .i64 0, .int .i64 0, .slice none 0 0, .int .i64 0, .int .i64 0, .slice none 0 0] 26)
  rw [hW] at bW x1 x2 x3
  have hW3 : w.heap.size + 3 = W.heap.size := by rw [← hW]; simp
  have k1 := kI W (sx.below bW) (sp.below bW) (sh.below bW)
  generalize inF n xs ps hs z r = F0 at k1 ⊢
  generalize inY n xs hs z = Y at k1 hyes ⊢
  generalize inS n ps hs r = Sg at k1 hyes ⊢
  have kP := fun N v hN => passes_any N F0 Y Sg gate v hN
  rw [hyes] at kP
  generalize (F0 || mulB Y Y || mulB gate Sg) = F1 at kP ⊢
  have kC1 := fun N v sx sp sh ox op oh hN => kC Y Sg N F1 v sx sp sh ox op oh hN
  have lX1 := lX (upK n ps hs Sg) Y
  have lG1 := lG (upPP n ps hs (upK n ps hs Sg) r)
  generalize coF n xs ps hs Y Sg r F1 = F2 at kC1 ⊢
  generalize gd n (upPP n ps hs (upK n ps hs Sg) r) = Gd at kC1 lG1 ⊢
  generalize upX xs (upK n ps hs Sg) Y = Xn at kC1 lX1 ⊢
  obtain ⟨t0, t1, t2, t3, t4, t5⟩ := six_cells x1
  obtain ⟨q0, q1, q2, _⟩ := mat_cells x2
  have PX : Hid (0 < xs.length ∧ 0 < ps.length ∧ 0 < hs.length ∧ 0 < Xn.length ∧ 0 < Gd.length) := ⟨px, pp, ph, lX1, lG1⟩
  clear hyes lx lp px pp ph kI hn n1 kC lX lG lX1 lG1
  go_enter Tryz.func9, Tryz.ntmps9
  go_wp2_with (first
    | (have _ := hgb; go_at_call 30; go_must (refine (kC1 wa.heap.size wb sXb sPb sHb oXb oPb oHb hNb).mono ?_); rintro e wc ⟨va, vb, rfl, s1, s2, nv1, nv2, hNc, hgc⟩; obtain ⟨ao, ac, rfl⟩ := s1.slice; obtain ⟨bo, bc, rfl⟩ := s2.slice; obtain ⟨nc0, nc1, _⟩ := two_cells (heap_old hNc (.cells #[.int .i64 n, .int .i64 1, .slice ao Xn.length ac, .int .i64 n, .int .i64 n, .slice bo Gd.length bc] 26)))
    | (have _ := b1; go_at_call 28; go_must (refine (kP _ _ (heap_new wa (.cells #[.bool F0, .int .i64 0] 54))).mono ?_); rintro e wb ⟨rfl, hNb, hgb⟩; have mA : Mod (fun b => b = wa.heap.size) W wb := (Mod.of (bt b1 (box_below wa (.cells #[.bool F0, .int .i64 0] 54)))).trans (Mod.ofGb hgb); have zA := b1.size; have zB := mA.size; have y1 := mA.old x1 (by omega); have y2 := mA.old x2 (by omega); obtain ⟨tt0, tt1, tt2, tt3, tt4, tt5⟩ := six_cells y1; obtain ⟨qq0, qq1, qq2, _⟩ := mat_cells y2; have oXb : Old wb.heap.size wa.heap.size (.slice xo xs.length xcap) := old_of sx PX.out.1 (by omega) (by omega); have oPb : Old wb.heap.size wa.heap.size (.slice po ps.length pcap) := old_of sp PX.out.2.1 (by omega) (by omega); have oHb : Old wb.heap.size wa.heap.size (.slice ho hs.length hcap) := old_of sh PX.out.2.2.1 (by omega) (by omega); have sXb := (sx.below bW).mod (old_of sx PX.out.1 (by omega) (by omega)) mA; have sPb := (sp.below bW).mod (old_of sp PX.out.2.1 (by omega) (by omega)) mA; have sHb := (sh.below bW).mod (old_of sh PX.out.2.2.1 (by omega) (by omega)) mA)
    | (go_at_call 11; go_must (refine k1.mono ?_); rintro e wa ⟨rfl, b1⟩))
  have mC : Mod (fun b => b = wa.heap.size) wb (wc.alloc (.cells #[.int .i64 n, .int .i64 1, .slice ao Xn.length ac, .int .i64 n, .int .i64 n, .slice bo Gd.length bc] 26)) := (Mod.ofGb hgc).trans (Mod.of (box_below wc _))
  have zC := hgc.size
  have y3 := mC.old (mA.old x3 (by omega)) (by omega)
  have h19 := heap_new wc (.cells #[.int .i64 n, .int .i64 1, .slice ao Xn.length ac, .int .i64 n, .int .i64 n, .slice bo Gd.length bc] 26)
  have hNd := heap_old hNc (.cells #[.int .i64 n, .int .i64 1, .slice ao Xn.length ac, .int .i64 n, .int .i64 n, .slice bo Gd.length bc] 26)
  have s1' := s1.alloc (.cells #[.int .i64 n, .int .i64 1, .slice ao Xn.length ac, .int .i64 n, .int .i64 n, .slice bo Gd.length bc] 26)
  have s2' := s2.alloc (.cells #[.int .i64 n, .int .i64 1, .slice ao Xn.length ac, .int .i64 n, .int .i64 n, .slice bo Gd.length bc] 26)
  have hl1 := s1'.lt PX.out.2.2.2.1
  have hl2 := s2'.lt PX.out.2.2.2.2
  have ne1 : ∀ q, (Value.slice ao Xn.length ac).ownBlock = some q → q ≠ w.heap.size + 1 + 1 := fun q hq e => by
    have := nv1 q hq; omega
  have ne2 : ∀ q, (Value.slice bo Gd.length bc).ownBlock = some q → q ≠ w.heap.size + 1 + 1 := fun q hq e => by
    have := nv2 q hq; omega
  have bE : Below w.heap.size w (wc.alloc (.cells #[.int .i64 n, .int .i64 1, .slice ao Xn.length ac, .int .i64 n, .int .i64 n, .slice bo Gd.length bc] 26)) := bW.trans ((mA.trans mC).below (by omega) (fun k hk => by omega))
  have hsz : wc.heap.size + 1 = (wc.alloc (.cells #[.int .i64 n, .int .i64 1, .slice ao Xn.length ac, .int .i64 n, .int .i64 n, .slice bo Gd.length bc] 26)).heap.size := by simp
  generalize wc.alloc (.cells #[.int .i64 n, .int .i64 1, .slice ao Xn.length ac, .int .i64 n, .int .i64 n, .slice bo Gd.length bc] 26) = wd at y3 h19 hNd s1' s2' hl1 hl2 bE hsz ⊢
  refine ku10_region (Nn := wa.heap.size) (D10 := w.heap.size + 1 + 1) (D19 := wc.heap.size) (n := n) (xo := ao) (xcap := ac) (po := bo) (pcap := bc) (xs := Xn) (ps := Gd) (m := F2) w.heap.size y3 (fun q hq => by have := nv1 q hq; omega) (fun q hq => by have := nv2 q hq; omega) (fun v hv => hv.old h19 (by omega)) (fun v hv => (two_cells (hv.old hNd (by omega))).1) s1' (fun q hq => ⟨hl1 q hq, ne1 q hq⟩) s2' (fun q hq => ⟨hl2 q hq, ne2 q hq⟩) ?_
  intro vs ao2 ac2 bo2 bc2 we me e11 e12 e13 hc u1 u2 nw1 nw2
  unfold ku10Fr
  rw [e11, e12, e13]
  obtain ⟨d0, d1, d2, d3, d4, d5⟩ := six_cells hc
  have bF : Below w.heap.size w we := bE.trans (me.below (by have := bE.size; omega) (fun k hk => by omega))
  go_wp2
  refine bodyPost_ret (v := .tuple #[.agg #[.int .i64 n, .int .i64 1, .slice ao2 Xn.length ac2, .int .i64 n, .int .i64 n, .slice bo2 Gd.length bc2], .bool true, .bool F2, .int .i64 0]) (by simp [results, Tryz.results9, go_sem, d0, d1, d2, d3, d4, d5]) rfl ?_
  exact ⟨_, _, rfl, u1, u2, nw1, nw2, bF⟩
end Go.Proofs.YtiniobcknmaigaaGreat

/-
  The chapter's example, in plain numbers, and by the contracts of New and Update.
-/
namespace Go.Proofs.YtiniobcknmaigaaGreat
open Go.RowKit Go.Sort Qm

theorem ks_D : dia (ge [16777216]) 1 = [16777216] := by decide
theorem ks_Y : inY 1 [0] [16777216] 33554432 = 33554432 := by decide
theorem ks_S : inS 1 [16777216] [16777216] 16777216 = 33554432 := by decide
theorem ks_I : inF 1 [0] [16777216] [16777216] 33554432 16777216 = false := by decide
theorem ks_yes : (decide (mul 33554432 33554432 ≤ mul 1677721600 33554432) && decide ((0 : Int) < 33554432)) = true := by decide
theorem ks_m : mulB 33554432 33554432 = false := by decide
theorem ks_n : mulB 1677721600 33554432 = false := by decide
theorem ks_K : upK 1 [16777216] [16777216] 33554432 = [8388608] := by decide
theorem ks_X : upX [0] [8388608] 33554432 = [16777216] := by decide
set_option maxRecDepth 20000 in
theorem ks_P : upPP 1 [16777216] [16777216] [8388608] 16777216 = [8388608] := by decide
theorem ks_G : gd 1 [8388608] = [8388608] := by decide
set_option maxRecDepth 20000 in
theorem ks_E : upE 1 [0] [16777216] [16777216] [8388608] 33554432 16777216 = false := by decide
theorem ks_C : upC 1 [16777216] [16777216] = false := by decide
theorem ks_B : eaB (fun q => divB q 33554432) (upK0 1 [16777216] [16777216]) = false := by decide
theorem ks_F : coF 1 [0] [16777216] [16777216] 33554432 33554432 16777216 false = false := by
  unfold coF
  rw [ks_C, ks_B, ks_K, ks_E]; rfl
theorem sees_one {w : World} {b : Nat} {x : Int} (h : w.heap[b]? = some (.cells #[.int .i64 x] 27 (0, 0))) : Sees w (.slice (some ⟨b, 0, none⟩) 1 1) [x] := by
  refine ⟨_, 1, rfl, fun k hk => ⟨_, rfl, lt_of_block h, ?_⟩⟩
  have e : k = 0 := by have : k < 1 := hk; omega
  subst e
  simp [World.cell?, h, Addr.add, ge]
theorem in_one {x : Int} (h1 : -70368744177664 ≤ x) (h2 : x ≤ 70368744177663) : AllIn [x] := fun p => by
  rcases p with _ | p
  · exact ⟨h1, h2⟩
  · constructor <;> simp [ge]
theorem kshow_new (vx vv : Value) (w : World) (sx : Sees w vx [0]) (sv : Sees w vv [16777216]) :
    Calls Tryz.prog 14 #[vx, vv] w fun e b => ∃ va vb, e = .returned (.tuple #[.agg #[.int .i64 1, .int .i64 1, va, .int .i64 1, .int .i64 1, vb], .int .i64 0]) ∧ Sees b va [0] ∧ Sees b vb [16777216] ∧ Below w.heap.size w b := by
  have hv : ∀ i, i < [16777216].length → (0 : Int) ≤ ge [16777216] i := fun i hi => by
    have e : i = 0 := by have : i < 1 := hi; omega
    subst e
    decide
  have h := knew_ok vx vv [0] [16777216] (by decide) (by decide) (by decide) (in_one (by decide) (by decide)) (in_one (by decide) (by decide)) hv w sx sv
  refine h.mono ?_
  rintro e b ⟨va, vb, rfl, h1, h2, h3⟩
  exact ⟨va, vb, rfl, h1, ks_D ▸ h2, h3⟩
theorem kshow_up (vx vp vh : Value) (w : World) (sx : Sees w vx [0]) (sp : Sees w vp [16777216]) (sh : Sees w vh [16777216]) :
    Calls Tryz.prog 9 #[.agg #[.int .i64 1, .int .i64 1, vx, .int .i64 1, .int .i64 1, vp], .agg #[.int .i64 1, .int .i64 1, vh], .int .i64 33554432, .int .i64 16777216, .int .i64 1677721600] w fun e b =>
      ∃ va vb, e = .returned (.tuple #[.agg #[.int .i64 1, .int .i64 1, va, .int .i64 1, .int .i64 1, vb], .bool true, .bool false, .int .i64 0]) ∧ Sees b va [16777216] ∧ Sees b vb [8388608] ∧ Below w.heap.size w b := by
  have h := kupdate_any 1 (by decide) (by decide) vx vp vh [0] [16777216] [16777216] rfl rfl rfl 33554432 16777216 1677721600 (by decide) w sx sp sh (by rw [ks_Y, ks_S]; exact ks_yes)
  rw [ks_I, ks_Y, ks_S, ks_m, ks_n, ks_K, ks_X, ks_P, ks_G] at h
  refine h.mono ?_
  rintro e b ⟨va, vb, rfl, h1, h2, _, _, h3⟩
  exact ⟨va, vb, by rw [show (false || false || false) = false from rfl, ks_F]; rfl, h1, h2, h3⟩
end Go.Proofs.YtiniobcknmaigaaGreat

/-
  The contract of 'shown', the chapter's example at the head of each statement: it returns true.
-/
namespace Go.Proofs.YtiniobcknmaigaaGreat
open Go.RowKit Go.Sort Qm

set_option maxRecDepth 20000 in
set_option maxHeartbeats 400000 in
theorem kshown_any (w : World) : Calls Tryz.prog 4 #[] w fun e w' => e = .returned (.bool true) ∧ Below w.heap.size w w' := by
  obtain ⟨x1, x2⟩ := allocs2 w (.cells #[.int .i64 0] 27) (.cells #[.int .i64 16777216] 27)
  have bW := ball2 w (.cells #[.int .i64 0] 27) (.cells #[.int .i64 16777216] 27)
  obtain ⟨W, hW⟩ : ∃ W, (w.alloc (.cells #[.int .i64 0] 27)).alloc (.cells #[.int .i64 16777216] 27) = W := ⟨_, rfl⟩
  rw [hW] at x1 x2 bW
  have kN := kshow_new _ _ W (sees_one x1) (sees_one x2)
  have hW2 : w.heap.size + 2 = W.heap.size := by rw [← hW]; simp
  go_enter Tryz.func4, Tryz.ntmps4
  go_wp2_with (first
    | (have _ := b1; go_at_call 9; go_must (refine kU.mono ?_); rintro e wb ⟨va, vb, rfl, s1, s2, b2⟩; obtain ⟨a1, p1, rfl, l1, v1⟩ := s1.first rfl; obtain ⟨a2, p2, rfl, l2, v2⟩ := s2.first rfl; have v1' := old_cell' (v := .int .i64 16777216) v1 l1 (.cells #[.int .i64 1, .int .i64 1, .slice (some a1) 1 p1, .int .i64 1, .int .i64 1, .slice (some a2) 1 p2] 26); have v2' := old_cell' (v := .int .i64 8388608) v2 l2 (.cells #[.int .i64 1, .int .i64 1, .slice (some a1) 1 p1, .int .i64 1, .int .i64 1, .slice (some a2) 1 p2] 26); clear v1 v2 s1 s2)
    | (go_at_call 14; go_must (refine kN.mono ?_); rintro e wa ⟨va, vb, rfl, sa, sb, b1⟩; obtain ⟨oa, pa, rfl, _, _⟩ := sa.first rfl; obtain ⟨ob', pb, rfl, _, _⟩ := sb.first rfl; have y2 := sees_one (allocs3 wa (.cells #[.int .i64 1, .int .i64 1, .slice (some oa) 1 pa, .int .i64 1, .int .i64 1, .slice (some ob') 1 pb] 26) (.cells #[.int .i64 16777216] 27) (.cells #[.int .i64 1, .int .i64 1, .slice (some ⟨wa.heap.size + 1, 0, none⟩) 1 1] 24)).2.1; have y3 := ball3 wa (.cells #[.int .i64 1, .int .i64 1, .slice (some oa) 1 pa, .int .i64 1, .int .i64 1, .slice (some ob') 1 pb] 26) (.cells #[.int .i64 16777216] 27) (.cells #[.int .i64 1, .int .i64 1, .slice (some ⟨wa.heap.size + 1, 0, none⟩) 1 1] 24); have kU := kshow_up _ _ _ _ (sa.below y3) (sb.below y3) y2; clear sa sb y2))
  go_ret
  exact ⟨rfl, bt bW (bt b1 (bt y3 (bt b2 (box_below wb _))))⟩
end Go.Proofs.YtiniobcknmaigaaGreat
