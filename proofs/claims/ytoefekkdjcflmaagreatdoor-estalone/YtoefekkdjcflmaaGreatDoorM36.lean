/- Parts of the proof. -/
import Derived.Test.YtoefekkdjcflmaaGreatDoorM29
import Derived.Test.YtoefekkdjcflmaaGreatDoorM30
import Derived.Test.YtoefekkdjcflmaaGreatDoorM34
import Derived.Test.YtoefekkdjcflmaaGreatDoorM35
namespace Go.Proofs.YtoefekkdjcflmaaGreatDoor
open Go.RowKit Go.Sort Qm
set_option maxRecDepth 20000 in
set_option maxHeartbeats 1600000 in
theorem kupdate_no (n : Nat) (n1 : 1 ≤ n) (hn : n ≤ 8) (vx vp vh : Value) (xs ps hs : List Int) (hx : xs.length = n * 1) (hp : ps.length = n * n) (hh : hs.length = 1 * n) (z r gate : Int) (hr : 0 < r) (w : World) (sx : Sees w vx xs) (sp : Sees w vp ps) (sh : Sees w vh hs)
    (hno : (decide (mul (inY n xs hs z) (inY n xs hs z) ≤ mul gate (inS n ps hs r)) && decide (0 < inS n ps hs r)) = false) :
    Calls Tryz.prog 119 #[.agg #[.int .i64 n, .int .i64 1, vx, .int .i64 n, .int .i64 n, vp], .agg #[.int .i64 1, .int .i64 n, vh], .int .i64 z, .int .i64 r, .int .i64 gate] w fun e b =>
      ∃ va vb, e = .returned (.tuple #[.agg #[.int .i64 n, .int .i64 1, va, .int .i64 n, .int .i64 n, vb], .bool false, .bool (inF n xs ps hs z r || mulB (inY n xs hs z) (inY n xs hs z) || mulB gate (inS n ps hs r)), .int .i64 0]) ∧ Sees b va xs ∧ Sees b vb ps ∧ New w.heap.size va ∧ New w.heap.size vb ∧ Below w.heap.size w b := by
  have kI := fun v sx sp sh => kinnov_any n n1 hn vx vp vh xs ps hs hx hp hh z r hr v sx sp sh
  have px : 0 < xs.length := by omega
  have pp : 0 < ps.length := by rw [hp]; exact Nat.mul_pos n1 n1
  have ph : 0 < hs.length := by omega
  have lx : xs.length ≤ 100 := by omega
  have lp : ps.length ≤ 100 := by have := mul_le_64 hn hn; omega
  clear hx hp hh
  obtain ⟨xo, xcap, rfl⟩ := sx.slice
  obtain ⟨po, pcap, rfl⟩ := sp.slice
  obtain ⟨ho, hcap, rfl⟩ := sh.slice
  obtain ⟨W, hW⟩ : ∃ W, ((w.alloc (.cells #[.int .i64 n, .int .i64 1, .slice xo xs.length xcap, .int .i64 n, .int .i64 n, .slice po ps.length pcap] 31)).alloc (.cells #[.int .i64 1, .int .i64 n, .slice ho hs.length hcap] 29)).alloc (.cells #[.int .i64 0, .int .i64 0, .slice none 0 0, .int .i64 0, .int .i64 0, .slice none 0 0] 31) = W := ⟨_, rfl⟩
  have bW := ball3 w (.cells #[.int .i64 n, .int .i64 1, .slice xo xs.length xcap, .int .i64 n, .int .i64 n, .slice po ps.length pcap] 31) (.cells #[.int .i64 1, .int .i64 n, .slice ho hs.length hcap] 29) (.cells #[.int .i64 0, .int .i64 0, .slice none 0 0, .int .i64 0, .int .i64 0, .slice none 0 0] 31)
  obtain ⟨x1, x2, x3⟩ := allocs3 w (.cells #[.int .i64 n, .int .i64 1, .slice xo xs.length xcap, .int .i64 n, .int .i64 n, .slice po ps.length pcap] 31) (.cells #[.int .i64 1, .int .i64 n, .slice ho hs.length hcap] 29) (.cells #[.int .i64 0, .int .i64 0, .slice none 0 0, .int .i64 0, .int .i64 0, .slice none 0 0] 31)
  rw [hW] at bW x1 x2 x3
  have hW3 : w.heap.size + 3 = W.heap.size := by rw [← hW]; simp
  have k1 := kI W (sx.below bW) (sp.below bW) (sh.below bW)
  generalize inF n xs ps hs z r = F0 at k1 ⊢
  generalize inY n xs hs z = Y at k1 hno ⊢
  generalize inS n ps hs r = Sg at k1 hno ⊢
  have kP := fun N v hN => passes_any N F0 Y Sg gate v hN
  rw [hno] at kP
  generalize (F0 || mulB Y Y || mulB gate Sg) = F1 at kP ⊢
  have kC := fun v sa sb => copied_any n 1 n n (.slice xo xs.length xcap) (.slice po ps.length pcap) xs ps lx lp px pp v sa sb
  obtain ⟨t0, t1, t2, t3, t4, t5⟩ := six_cells x1
  obtain ⟨q0, q1, q2, _⟩ := mat_cells x2
  have PX : Hid (0 < xs.length ∧ 0 < ps.length) := ⟨px, pp⟩
  clear hno lx lp px pp ph kI hn n1
  go_enter Tryz.func119, Tryz.ntmps119
  go_wp2_with (first
    | (have _ := b1; go_at_call 169; go_must (refine (kP _ _ (heap_new wa (.cells #[.bool F0, .int .i64 0] 141))).mono ?_); rintro e wb ⟨rfl, hNb, hgb⟩)
    | (go_at_call 168; go_must (refine k1.mono ?_); rintro e wa ⟨rfl, b1⟩))
  have mA : Mod (fun b => b = wa.heap.size) W wb := (Mod.of (bt b1 (box_below wa (.cells #[.bool F0, .int .i64 0] 141)))).trans (Mod.ofGb hgb)
  have zA := b1.size
  have zB := mA.size
  have y1 := mA.old x1 (by omega)
  have y3 := mA.old x3 (by omega)
  have oX : Old wb.heap.size (w.heap.size + 1 + 1) (.slice xo xs.length xcap) := old_of sx PX.out.1 (by omega) (by omega)
  have oP : Old wb.heap.size (w.heap.size + 1 + 1) (.slice po ps.length pcap) := old_of sp PX.out.2 (by omega) (by omega)
  have sX := (sx.below bW).mod (old_of sx PX.out.1 (by omega) (by omega)) mA
  have sP := (sp.below bW).mod (old_of sp PX.out.2 (by omega) (by omega)) mA
  have hNl := lt_of_block hNb
  have bE : Below w.heap.size w wb := bW.trans (mA.below (by omega) (fun k hk => by omega))
  clear hgb mA kP k1 x1 x2 x3 hW
  generalize hNe : wa.heap.size = Nn at *
  refine ku6_region (Nn := Nn) (D5 := w.heap.size) (D10 := w.heap.size + 1 + 1) (n := n) (xo := xo) (xcap := xcap) (po := po) (pcap := pcap) (xs := xs) (ps := ps) (m := F1) w.heap.size y3 bE.size (fun v hv => hv.old y1 (by omega)) (fun v hv => (two_cells (hv.old hNb (by omega))).1) (fun v hv => kC v (sX.mod oX hv) (sP.mod oP hv)) PX.out.1 PX.out.2 ?_
  intro vs ao ac bo bc wc mc e11 e12 e13 hc s1 s2 nw1 nw2
  unfold ku6Fr
  rw [e11, e12, e13]
  obtain ⟨d0, d1, d2, d3, d4, d5⟩ := six_cells hc
  have bF : Below w.heap.size w wc := bE.trans (mc.below (by have := bE.size; omega) (fun k hk => by omega))
  go_wp2
  refine bodyPost_ret (v := .tuple #[.agg #[.int .i64 n, .int .i64 1, .slice ao xs.length ac, .int .i64 n, .int .i64 n, .slice bo ps.length bc], .bool false, .bool F1, .int .i64 0]) (by simp [results, Tryz.results119, go_sem, d0, d1, d2, d3, d4, d5]) rfl ?_
  exact ⟨_, _, rfl, s1, s2, nw1, nw2, bF⟩
set_option maxRecDepth 20000 in
set_option maxHeartbeats 1600000 in
theorem kupdate_any (n : Nat) (n1 : 1 ≤ n) (hn : n ≤ 8) (vx vp vh : Value) (xs ps hs : List Int) (hx : xs.length = n * 1) (hp : ps.length = n * n) (hh : hs.length = 1 * n) (z r gate : Int) (hr : 0 < r) (w : World) (sx : Sees w vx xs) (sp : Sees w vp ps) (sh : Sees w vh hs)
    (hyes : (decide (mul (inY n xs hs z) (inY n xs hs z) ≤ mul gate (inS n ps hs r)) && decide (0 < inS n ps hs r)) = true) :
    Calls Tryz.prog 119 #[.agg #[.int .i64 n, .int .i64 1, vx, .int .i64 n, .int .i64 n, vp], .agg #[.int .i64 1, .int .i64 n, vh], .int .i64 z, .int .i64 r, .int .i64 gate] w fun e b =>
      ∃ va vb, e = .returned (.tuple #[.agg #[.int .i64 n, .int .i64 1, va, .int .i64 n, .int .i64 n, vb], .bool true, .bool (coF n xs ps hs (inY n xs hs z) (inS n ps hs r) r (inF n xs ps hs z r || mulB (inY n xs hs z) (inY n xs hs z) || mulB gate (inS n ps hs r))), .int .i64 0]) ∧
        Sees b va (upX xs (upK n ps hs (inS n ps hs r)) (inY n xs hs z)) ∧ Sees b vb (gd n (upPP n ps hs (upK n ps hs (inS n ps hs r)) r)) ∧ New w.heap.size va ∧ New w.heap.size vb ∧ Below w.heap.size w b := by
  have kI := fun v sx sp sh => kinnov_any n n1 hn vx vp vh xs ps hs hx hp hh z r hr v sx sp sh
  have px : 0 < xs.length := by omega
  have pp : 0 < ps.length := by rw [hp]; exact Nat.mul_pos n1 n1
  have ph : 0 < hs.length := by omega
  have lx : xs.length ≤ 100 := by omega
  have lp : ps.length ≤ 100 := by have := mul_le_64 hn hn; omega
  have kC := fun y s N m v sx sp sh ox op oh hN => corrected_any n n1 hn vx vp vh xs ps hs hx hp hh y s r N m v sx sp sh ox op oh hN
  have lX : ∀ k y, 0 < (upX xs k y).length := fun k y => by unfold upX; rw [pai_len]; exact px
  have lG : ∀ k, 0 < (gd n k).length := fun k => by rw [gd_len]; exact Nat.mul_pos n1 n1
  clear hx hp hh
  obtain ⟨xo, xcap, rfl⟩ := sx.slice
  obtain ⟨po, pcap, rfl⟩ := sp.slice
  obtain ⟨ho, hcap, rfl⟩ := sh.slice
  obtain ⟨W, hW⟩ : ∃ W, ((w.alloc (.cells #[.int .i64 n, .int .i64 1, .slice xo xs.length xcap, .int .i64 n, .int .i64 n, .slice po ps.length pcap] 31)).alloc (.cells #[.int .i64 1, .int .i64 n, .slice ho hs.length hcap] 29)).alloc (.cells #[.int .i64 0, .int .i64 0, .slice none 0 0, .int .i64 0, .int .i64 0, .slice none 0 0] 31) = W := ⟨_, rfl⟩
  have bW := ball3 w (.cells #[.int .i64 n, .int .i64 1, .slice xo xs.length xcap, .int .i64 n, .int .i64 n, .slice po ps.length pcap] 31) (.cells #[.int .i64 1, .int .i64 n, .slice ho hs.length hcap] 29) (.cells #[.int .i64 0, .int .i64 0, .slice none 0 0, .int .i64 0, .int .i64 0, .slice none 0 0] 31)
  obtain ⟨x1, x2, x3⟩ := allocs3 w (.cells #[.int .i64 n, .int .i64 1, .slice xo xs.length xcap, .int .i64 n, .int .i64 n, .slice po ps.length pcap] 31) (.cells #[.int .i64 1, .int .i64 n, .slice ho hs.length hcap] 29) (.cells #[.int .i64 0, .int .i64 0, .slice none 0 0, .int .i64 0, .int .i64 0, .slice none 0 0] 31)
  rw [hW] at bW x1 x2 x3
  have hW3 : w.heap.size + 3 = W.heap.size := by rw [← hW]; simp
  have k1 := kI W (sx.below bW) (sp.below bW) (sh.below bW)
  generalize inF n xs ps hs z r = F0 at k1 ⊢
  generalize inY n xs hs z = Y at k1 hyes ⊢
  generalize inS n ps hs r = Sg at k1 hyes ⊢
  have kP := fun N v hN => passes_any N F0 Y Sg gate v hN
  rw [hyes] at kP
  generalize (F0 || mulB Y Y || mulB gate Sg) = F1 at kP ⊢
  have kC1 := fun N v sx sp sh ox op oh hN => kC Y Sg N F1 v sx sp sh ox op oh hN
  have lX1 := lX (upK n ps hs Sg) Y
  have lG1 := lG (upPP n ps hs (upK n ps hs Sg) r)
  generalize coF n xs ps hs Y Sg r F1 = F2 at kC1 ⊢
  generalize gd n (upPP n ps hs (upK n ps hs Sg) r) = Gd at kC1 lG1 ⊢
  generalize upX xs (upK n ps hs Sg) Y = Xn at kC1 lX1 ⊢
  obtain ⟨t0, t1, t2, t3, t4, t5⟩ := six_cells x1
  obtain ⟨q0, q1, q2, _⟩ := mat_cells x2
  have PX : Hid (0 < xs.length ∧ 0 < ps.length ∧ 0 < hs.length ∧ 0 < Xn.length ∧ 0 < Gd.length) := ⟨px, pp, ph, lX1, lG1⟩
  clear hyes lx lp px pp ph kI hn n1 kC lX lG lX1 lG1
  go_enter Tryz.func119, Tryz.ntmps119
  go_wp2_with (first
    | (have _ := hgb; go_at_call 171; go_must (refine (kC1 wa.heap.size wb sXb sPb sHb oXb oPb oHb hNb).mono ?_); rintro e wc ⟨va, vb, rfl, s1, s2, nv1, nv2, hNc, hgc⟩; obtain ⟨ao, ac, rfl⟩ := s1.slice; obtain ⟨bo, bc, rfl⟩ := s2.slice; obtain ⟨nc0, nc1, _⟩ := two_cells (heap_old hNc (.cells #[.int .i64 n, .int .i64 1, .slice ao Xn.length ac, .int .i64 n, .int .i64 n, .slice bo Gd.length bc] 31)))
    | (have _ := b1; go_at_call 169; go_must (refine (kP _ _ (heap_new wa (.cells #[.bool F0, .int .i64 0] 141))).mono ?_); rintro e wb ⟨rfl, hNb, hgb⟩; have mA : Mod (fun b => b = wa.heap.size) W wb := (Mod.of (bt b1 (box_below wa (.cells #[.bool F0, .int .i64 0] 141)))).trans (Mod.ofGb hgb); have zA := b1.size; have zB := mA.size; have y1 := mA.old x1 (by omega); have y2 := mA.old x2 (by omega); obtain ⟨tt0, tt1, tt2, tt3, tt4, tt5⟩ := six_cells y1; obtain ⟨qq0, qq1, qq2, _⟩ := mat_cells y2; have oXb : Old wb.heap.size wa.heap.size (.slice xo xs.length xcap) := old_of sx PX.out.1 (by omega) (by omega); have oPb : Old wb.heap.size wa.heap.size (.slice po ps.length pcap) := old_of sp PX.out.2.1 (by omega) (by omega); have oHb : Old wb.heap.size wa.heap.size (.slice ho hs.length hcap) := old_of sh PX.out.2.2.1 (by omega) (by omega); have sXb := (sx.below bW).mod (old_of sx PX.out.1 (by omega) (by omega)) mA; have sPb := (sp.below bW).mod (old_of sp PX.out.2.1 (by omega) (by omega)) mA; have sHb := (sh.below bW).mod (old_of sh PX.out.2.2.1 (by omega) (by omega)) mA)
    | (go_at_call 168; go_must (refine k1.mono ?_); rintro e wa ⟨rfl, b1⟩))
  have mC : Mod (fun b => b = wa.heap.size) wb (wc.alloc (.cells #[.int .i64 n, .int .i64 1, .slice ao Xn.length ac, .int .i64 n, .int .i64 n, .slice bo Gd.length bc] 31)) := (Mod.ofGb hgc).trans (Mod.of (box_below wc _))
  have zC := hgc.size
  have y3 := mC.old (mA.old x3 (by omega)) (by omega)
  have h19 := heap_new wc (.cells #[.int .i64 n, .int .i64 1, .slice ao Xn.length ac, .int .i64 n, .int .i64 n, .slice bo Gd.length bc] 31)
  have hNd := heap_old hNc (.cells #[.int .i64 n, .int .i64 1, .slice ao Xn.length ac, .int .i64 n, .int .i64 n, .slice bo Gd.length bc] 31)
  have s1' := s1.alloc (.cells #[.int .i64 n, .int .i64 1, .slice ao Xn.length ac, .int .i64 n, .int .i64 n, .slice bo Gd.length bc] 31)
  have s2' := s2.alloc (.cells #[.int .i64 n, .int .i64 1, .slice ao Xn.length ac, .int .i64 n, .int .i64 n, .slice bo Gd.length bc] 31)
  have hl1 := s1'.lt PX.out.2.2.2.1
  have hl2 := s2'.lt PX.out.2.2.2.2
  have ne1 : ∀ q, (Value.slice ao Xn.length ac).ownBlock = some q → q ≠ w.heap.size + 1 + 1 := fun q hq e => by
    have := nv1 q hq; omega
  have ne2 : ∀ q, (Value.slice bo Gd.length bc).ownBlock = some q → q ≠ w.heap.size + 1 + 1 := fun q hq e => by
    have := nv2 q hq; omega
  have bE : Below w.heap.size w (wc.alloc (.cells #[.int .i64 n, .int .i64 1, .slice ao Xn.length ac, .int .i64 n, .int .i64 n, .slice bo Gd.length bc] 31)) := bW.trans ((mA.trans mC).below (by omega) (fun k hk => by omega))
  have hsz : wc.heap.size + 1 = (wc.alloc (.cells #[.int .i64 n, .int .i64 1, .slice ao Xn.length ac, .int .i64 n, .int .i64 n, .slice bo Gd.length bc] 31)).heap.size := by simp
  generalize wc.alloc (.cells #[.int .i64 n, .int .i64 1, .slice ao Xn.length ac, .int .i64 n, .int .i64 n, .slice bo Gd.length bc] 31) = wd at y3 h19 hNd s1' s2' hl1 hl2 bE hsz ⊢
  refine ku10_region (Nn := wa.heap.size) (D10 := w.heap.size + 1 + 1) (D19 := wc.heap.size) (n := n) (xo := ao) (xcap := ac) (po := bo) (pcap := bc) (xs := Xn) (ps := Gd) (m := F2) w.heap.size y3 (fun q hq => by have := nv1 q hq; omega) (fun q hq => by have := nv2 q hq; omega) (fun v hv => hv.old h19 (by omega)) (fun v hv => (two_cells (hv.old hNd (by omega))).1) s1' (fun q hq => ⟨hl1 q hq, ne1 q hq⟩) s2' (fun q hq => ⟨hl2 q hq, ne2 q hq⟩) ?_
  intro vs ao2 ac2 bo2 bc2 we me e11 e12 e13 hc u1 u2 nw1 nw2
  unfold ku10Fr
  rw [e11, e12, e13]
  obtain ⟨d0, d1, d2, d3, d4, d5⟩ := six_cells hc
  have bF : Below w.heap.size w we := bE.trans (me.below (by have := bE.size; omega) (fun k hk => by omega))
  go_wp2
  refine bodyPost_ret (v := .tuple #[.agg #[.int .i64 n, .int .i64 1, .slice ao2 Xn.length ac2, .int .i64 n, .int .i64 n, .slice bo2 Gd.length bc2], .bool true, .bool F2, .int .i64 0]) (by simp [results, Tryz.results119, go_sem, d0, d1, d2, d3, d4, d5]) rfl ?_
  exact ⟨_, _, rfl, u1, u2, nw1, nw2, bF⟩
end Go.Proofs.YtoefekkdjcflmaaGreatDoor
namespace Go.Proofs.YtoefekkdjcflmaaGreatDoor.Et
open Go.RowKit Go.Sort Go.Proofs.YtoefekkdjcflmaaGreatDoor.Qm
def hL : List Int := [16777216, 0, 0]
def uB (xs ps : List Int) (z r g : Int) : Bool := inF 3 xs ps hL z r || mulB (inY 3 xs hL z) (inY 3 xs hL z) || mulB g (inS 3 ps hL r)
def uT (xs ps : List Int) (z r g : Int) : Bool := decide (mul (inY 3 xs hL z) (inY 3 xs hL z) ≤ mul g (inS 3 ps hL r)) && decide (0 < inS 3 ps hL r)
def uX (xs ps : List Int) (z r g : Int) : List Int := if uT xs ps z r g then upX xs (upK 3 ps hL (inS 3 ps hL r)) (inY 3 xs hL z) else xs
def uP (xs ps : List Int) (z r g : Int) : List Int := if uT xs ps z r g then gd 3 (upPP 3 ps hL (upK 3 ps hL (inS 3 ps hL r)) r) else ps
def uF (xs ps : List Int) (z r g : Int) : Bool := if uT xs ps z r g then coF 3 xs ps hL (inY 3 xs hL z) (inS 3 ps hL r) r (uB xs ps z r g) else uB xs ps z r g
theorem uX_len {xs ps : List Int} (hx : xs.length = 3) (z r g : Int) : (uX xs ps z r g).length = 3 := by
  unfold uX
  split
  · unfold upX; rw [pai_len]; exact hx
  · exact hx
theorem uP_len {xs ps : List Int} (hp : ps.length = 9) (z r g : Int) : (uP xs ps z r g).length = 9 := by
  unfold uP
  split
  · exact gd_len 3 _
  · exact hp
theorem kupd3 (vx vp vh : Value) (xs ps : List Int) (hx : xs.length = 3) (hp : ps.length = 9) (z r g : Int) (hr : 0 < r) (w : World) (sx : Sees w vx xs) (sp : Sees w vp ps) (sh : Sees w vh hL) :
    Calls Tryz.prog 119 #[.agg #[.int .i64 3, .int .i64 1, vx, .int .i64 3, .int .i64 3, vp], .agg #[.int .i64 1, .int .i64 3, vh], .int .i64 z, .int .i64 r, .int .i64 g] w fun e b =>
      ∃ va vb, e = .returned (.tuple #[.agg #[.int .i64 3, .int .i64 1, va, .int .i64 3, .int .i64 3, vb], .bool (uT xs ps z r g), .bool (uF xs ps z r g), .int .i64 0]) ∧ Sees b va (uX xs ps z r g) ∧ Sees b vb (uP xs ps z r g) ∧ New w.heap.size va ∧ New w.heap.size vb ∧ Below w.heap.size w b := by
  cases hb : uT xs ps z r g with
  | false =>
    have e1 : uX xs ps z r g = xs := by unfold uX; rw [hb]; rfl
    have e2 : uP xs ps z r g = ps := by unfold uP; rw [hb]; rfl
    have e3 : uF xs ps z r g = uB xs ps z r g := by unfold uF; rw [hb]; rfl
    rw [e1, e2, e3]
    exact kupdate_no 3 (by decide) (by decide) vx vp vh xs ps hL hx hp rfl z r g hr w sx sp sh hb
  | true =>
    have e1 : uX xs ps z r g = upX xs (upK 3 ps hL (inS 3 ps hL r)) (inY 3 xs hL z) := by unfold uX; rw [hb]; rfl
    have e2 : uP xs ps z r g = gd 3 (upPP 3 ps hL (upK 3 ps hL (inS 3 ps hL r)) r) := by unfold uP; rw [hb]; rfl
    have e3 : uF xs ps z r g = coF 3 xs ps hL (inY 3 xs hL z) (inS 3 ps hL r) r (uB xs ps z r g) := by unfold uF; rw [hb]; rfl
    rw [e1, e2, e3]
    exact kupdate_any 3 (by decide) (by decide) vx vp vh xs ps hL hx hp rfl z r g hr w sx sp sh hb
def updS (s : Sg) (i k : Nat) (z r : Int) : Sg :=
  { s with X := at' s.X i (uX (s.X i) (s.P i) z r (s.c 5)), P := at' s.P i (uP (s.X i) (s.P i) z r (s.c 5)), off := at' s.off k (onE (s.off k) (!uT (s.X i) (s.P i) z r (s.c 5))), sat := s.sat || uF (s.X i) (s.P i) z r (s.c 5) }
def Ju (W : Nat) (s s' : Sg) (b : Bool) (v : World) : Prop := match b with
  | false => St v W s
  | true => St v W s'
def Jo (B W : Nat) (s s' : Sg) (b : Bool) (v : World) : Prop := match b with
  | false => StB B v W s
  | true => StB B v W s'
set_option maxRecDepth 20000 in
set_option maxHeartbeats 8000000 in
theorem update_any (W i k : Nat) (z r : Int) (s : Sg) (w : World) (h : St w W s) (hi : i < 3) (hk : k < 4) (hr : 0 < r) (o0 : 0 ≤ s.off k) (o1 : s.off k ≤ 1000) :
    Calls Tryz.prog 69 #[.pointer (some ⟨W, 0, none⟩), .int .i64 (i : Nat), .int .i64 (k : Nat), .int .i64 z, .int .i64 r] w fun e w' => e = .returned (.tuple #[]) ∧ St w' W (updS s i k z r) ∧ Mod (fun b => b = W) w w' := by
  have hlW := h.lt
  have g1 := (allocs2 w (.cells #[.int .i64 16777216, .int .i64 0, .int .i64 0] 22) (.cells #[.int .i64 1, .int .i64 3, .slice (some ⟨w.heap.size, 0, none⟩) 3 3] 29)).1
  have g2 := (allocs2 w (.cells #[.int .i64 16777216, .int .i64 0, .int .i64 0] 22) (.cells #[.int .i64 1, .int .i64 3, .slice (some ⟨w.heap.size, 0, none⟩) 3 3] 29)).2
  have bW := ball2 w (.cells #[.int .i64 16777216, .int .i64 0, .int .i64 0] 22) (.cells #[.int .i64 1, .int .i64 3, .slice (some ⟨w.heap.size, 0, none⟩) 3 3] 29)
  have sh := sees_row (xs := hL) g1 (by simp [hL])
  have hz0 : w.heap.size + 2 ≤ ((w.alloc (.cells #[.int .i64 16777216, .int .i64 0, .int .i64 0] 22)).alloc (.cells #[.int .i64 1, .int .i64 3, .slice (some ⟨w.heap.size, 0, none⟩) 3 3] 29)).heap.size := by simp
  go_enter Tryz.func69, Tryz.ntmps69
  go_wp2
  generalize (w.alloc (.cells #[.int .i64 16777216, .int .i64 0, .int .i64 0] 22)).alloc (.cells #[.int .i64 1, .int .i64 3, .slice (some ⟨w.heap.size, 0, none⟩) 3 3] 29) = w0 at g1 g2 bW sh hz0 ⊢
  obtain ⟨f, hf⟩ := h.below bW
  have A := hf.ax i hi
  obtain ⟨xo, xc, ex⟩ := A.x.slice
  obtain ⟨po, pc, ep⟩ := A.p.slice
  rw [A.xl] at ex
  rw [A.pl] at ep
  have hxl := A.xl
  have hpl := A.pl
  have ax : Sees w0 (.slice xo 3 xc) (s.X i) := by have h9 := A.x; rw [ex] at h9; exact h9
  have ap : Sees w0 (.slice po 9 pc) (s.P i) := by have h9 := A.p; rw [ep] at h9; exact h9
  have B1 : ∀ v, Mod (fun _ => False) w0 v → Below w0.heap.size w0 v := fun v hv => hv.below (Nat.le_refl _) (fun _ h => h.elim)
  refine up1_region (W := W) (D10 := w.heap.size + 1) (i := i) (xo := xo) (xn := 3) (xc := xc) (po := po) (pn := 9) (pc := pc) (ho := some ⟨w.heap.size, 0, none⟩) (hn := 3) (hc := 3) (z := z) (r := r) (g := s.c 5) (X := uX (s.X i) (s.P i) z r (s.c 5)) (P := uP (s.X i) (s.P i) z r (s.c 5)) (tk := uT (s.X i) (s.P i) z r (s.c 5)) (od := uF (s.X i) (s.P i) z r (s.c 5))
    hi (fun v hv => by
      have q := (hf.below (B1 v hv)).wk
      exact ⟨q.cell (by omega) A.r, q.cell (by omega) A.c, q.cell (by omega) ex, q.cell (by omega) A.r', q.cell (by omega) A.c', q.cell (by omega) ep⟩)
    (fun v hv => by have q := mat_cells (keep (B1 v hv) g2); exact ⟨q.1, q.2.1, q.2.2.1⟩) (fun v hv => (hf.below (B1 v hv)).wk.cell (by decide) (hf.c 5 (by decide)))
    (fun v hv => kupd3 _ _ _ (s.X i) (s.P i) hxl hpl z r (s.c 5) hr v (ax.below (B1 v hv)) (ap.below (B1 v hv)) (sh.below (B1 v hv))) (by rw [uX_len hxl]; decide) (by rw [uP_len hpl]; decide) ?_
  intro vs D11 ao ac bo bc w1 m1 eD hD hbD sX sP nX nP etk eod
  have b1 := B1 _ m1
  have h1 : St w1 W s := ⟨f, hf.below b1⟩
  rw [uX_len hxl] at hbD sX nX
  rw [uP_len hpl] at hbD sP nP
  unfold up1Fr
  rw [eD, etk, eod]
  clear eD etk eod m1 hf A B1 ax ap sh g1 g2 ex ep
  have hz1 := b1.size
  have hDl := lt_of_block hbD
  have hlX := sX.lt (by rw [uX_len hxl]; decide)
  have hlP := sP.lt (by rw [uP_len hpl]; decide)
  have nXW : ∀ q, (Value.slice ao 3 ac).ownBlock = some q → q ≠ W := fun q hq => by have := nX q hq; omega
  have nPW : ∀ q, (Value.slice bo 9 bc).ownBlock = some q → q ≠ W := fun q hq => by have := nP q hq; omega
  go_wp2_with (go_at_call 61; go_must (refine (keep_any W (uF (s.X i) (s.P i) z r (s.c 5)) s _ h1).mono ?_); rintro e w2 ⟨rfl, h2, m2⟩)
  have k2 := (m2.block D11 hDl (by omega)).trans hbD
  have sX2 := sX.agree m2.size (fun q hq => m2.block q (hlX q hq) (nXW q hq))
  have sP2 := sP.agree m2.size (fun q hq => m2.block q (hlP q hq) (nPW q hq))
  have hlX2 := sX2.lt (by rw [uX_len hxl]; decide)
  have hlP2 := sP2.lt (by rw [uP_len hpl]; decide)
  have hz2 := m2.size
  refine up3_region (W := W) (D11 := D11) (i := i) (xo := ao) (xn := 3) (xc := ac) (po := bo) (pn := 9) (pc := bc)
    (J := Ju W { s with sat := s.sat || uF (s.X i) (s.P i) z r (s.c 5) } { s with sat := s.sat || uF (s.X i) (s.P i) z r (s.c 5), X := at' s.X i (uX (s.X i) (s.P i) z r (s.c 5)), P := at' s.P i (uP (s.X i) (s.P i) z r (s.c 5)) })
    (fun q hq => by rw [hq]; omega) (h2.below (Below.refl _ _).drew) hi (fun v hv => six_cells ((hv.block _ (lt_of_block k2) (by omega)).trans k2))
    (fun v hv hm => by
      obtain ⟨f', hf'⟩ : St v W _ := hv
      refine ⟨⟨_, _, _, _, _, _, hf'.wk.cell (by omega) rfl, hf'.wk.cell (by omega) rfl, hf'.wk.cell (by omega) rfl, hf'.wk.cell (by omega) rfl, hf'.wk.cell (by omega) rfl, hf'.wk.cell (by omega) rfl⟩, fun j => hf'.wk.frozen j, ?_⟩
      exact ⟨_, hf'.setAx i hi _ _ _ _ (sX2.agree hm.size fun q hq => hm.block q (hlX2 q hq) (nXW q hq)) (sP2.agree hm.size fun q hq => hm.block q (hlP2 q hq) (nPW q hq)) (uX_len hxl z r (s.c 5)) (uP_len hpl z r (s.c 5)) (fun q hq => .inr (by have := nX q hq; omega)) (fun q hq => .inr (by have := nP q hq; omega))⟩) ?_
  intro vs3 w3 m3 hJ3
  have h3 : St w3 W { s with sat := s.sat || uF (s.X i) (s.P i) z r (s.c 5), X := at' s.X i (uX (s.X i) (s.P i) z r (s.c 5)), P := at' s.P i (uP (s.X i) (s.P i) z r (s.c 5)) } := hJ3
  unfold up3Fr
  go_wp2
  have hl3 := h3.lt
  refine up4_region (W := W) (k := k) (n := s.off k) (m := onE (s.off k) (!uT (s.X i) (s.P i) z r (s.c 5))) (tk := uT (s.X i) (s.P i) z r (s.c 5))
    (J := Jo w3.heap.size W { s with sat := s.sat || uF (s.X i) (s.P i) z r (s.c 5), X := at' s.X i (uX (s.X i) (s.P i) z r (s.c 5)), P := at' s.P i (uP (s.X i) (s.P i) z r (s.c 5)) } (updS s i k z r))
    (fun q hq => by rw [hq]; exact hl3) (h3.toB.below (Below.refl _ _).drew) hk
    (fun b v hv => by
      cases b
      · obtain ⟨f', hf', _⟩ : StB _ v W _ := hv
        exact hf'.wk.cell (by omega) (hf'.off k hk)
      · obtain ⟨f', hf', _⟩ : StB _ v W _ := hv
        have q := hf'.off k hk
        have e : (updS s i k z r).off k = onE (s.off k) (!uT (s.X i) (s.P i) z r (s.c 5)) := by unfold updS at'; simp
        rw [e] at q
        exact hf'.wk.cell (by omega) q)
    (fun b v v' hv hm => by
      cases b
      · exact StB.newer hv hl3 hm
      · exact StB.newer hv hl3 hm)
    (fun v => (onEnd_any _ _ v o0 o1).mono (by rintro e b ⟨rfl, rfl⟩; exact ⟨rfl, Below.refl _ _⟩))
    (fun v hv => by
      obtain ⟨f', hf', hl'⟩ : StB _ v W _ := hv
      exact ⟨fun j => hf'.wk.frozen j, ⟨_, hf'.setOff k hk _, hl'.up (by omega) _⟩⟩) ?_
  intro vs4 w4 m4 hJ4
  have h4 : StB _ w4 W (updS s i k z r) := hJ4
  unfold up4Fr
  go_wp2
  refine bodyPost_end (v := .tuple #[]) (by simp [results, Tryz.results69, go_sem]) rfl ?_
  exact ⟨rfl, h4.st, ((((Mod.of bW).trans (Mod.of b1)).trans m2).trans m3).trans m4⟩
end Go.Proofs.YtoefekkdjcflmaaGreatDoor.Et

