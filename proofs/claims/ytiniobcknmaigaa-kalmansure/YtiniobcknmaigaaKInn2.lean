/-
  The contract of the code's Innov, of what has the right sizes.
-/
import Derived.Test.YtiniobcknmaigaaKInn
namespace Go.Proofs.Ytiniobcknmaigaa
open Go.RowKit Go.Sort Qm

theorem Qm.eaL_len (t : Int → Int) (ys : List Int) : (eaL t ys).length = ys.length := tab_len _ _
theorem Qm.eaL_one (t : Int → Int) {ys : List Int} (h : ys.length = 1) : ge (eaL t ys) 0 = t (ge ys 0) := ge_tab (by omega)
theorem Qm.eaB_one (o : Int → Bool) {ys : List Int} (h : ys.length = 1) : eaB o ys = o (ge ys 0) := by unfold eaB; rw [h]; simp [anyB]
theorem old_of {w0 w : World} {N : Nat} {v : Value} {xs : List Int} (h : Sees w v xs) (h0 : 0 < xs.length) (hN : w.heap.size ≤ N) (hw : w.heap.size ≤ w0.heap.size) : Old w0.heap.size N v := fun k hk => by
  have := h.lt h0 k hk
  exact ⟨by omega, by omega⟩
theorem six_mod {w : World} {b : Nat} {x y z u v t : Value} {T : TypeId} (h : w.heap[b]? = some (.cells #[x, y, z, u, v, t] T (0, 0))) :
    (w.cell? ⟨b, 0, none⟩ = some x ∧ w.cell? ⟨b, 1, none⟩ = some y ∧ w.cell? ⟨b, 2, none⟩ = some z) ∧ w.cell? ⟨b, 3, none⟩ = some u ∧ w.cell? ⟨b, 4, none⟩ = some v ∧ w.cell? ⟨b, 5, none⟩ = some t := by
  simp [World.cell?, h]
theorem three_mod {w : World} {b : Nat} {x y z : Value} {T : TypeId} (h : w.heap[b]? = some (.cells #[x, y, z] T (0, 0))) :
    w.cell? ⟨b, 0, none⟩ = some x ∧ w.cell? ⟨b, 1, none⟩ = some y ∧ w.cell? ⟨b, 2, none⟩ = some z := by
  simp [World.cell?, h]

set_option maxRecDepth 20000 in
set_option maxHeartbeats 3200000 in
theorem kinnov_any (n : Nat) (n1 : 1 ≤ n) (hn : n ≤ 8) (vx vp vh : Value) (xs ps hs : List Int) (hx : xs.length = n * 1) (hp : ps.length = n * n) (hh : hs.length = 1 * n) (z r : Int) (hr : 0 < r) (w : World) (sx : Sees w vx xs) (sp : Sees w vp ps) (sh : Sees w vh hs) :
    Calls Try.prog 23 #[.agg #[.int .i64 n, .int .i64 1, vx, .int .i64 n, .int .i64 n, vp], .agg #[.int .i64 1, .int .i64 n, vh], .int .i64 z, .int .i64 r] w fun e b =>
      e = .returned (.tuple #[.int .i64 (inY n xs hs z), .int .i64 (inS n ps hs r), .bool (inF n xs ps hs z r), .int .i64 0]) ∧ Below w.heap.size w b := by
  obtain ⟨xo, xcap, rfl⟩ := sx.slice
  obtain ⟨po, pcap, rfl⟩ := sp.slice
  obtain ⟨ho, hcap, rfl⟩ := sh.slice
  obtain ⟨W, hW⟩ : ∃ W, (((w.alloc (.cells #[.int .i64 n, .int .i64 1, .slice xo xs.length xcap, .int .i64 n, .int .i64 n, .slice po ps.length pcap] 26)).alloc (.cells #[.int .i64 1, .int .i64 n, .slice ho hs.length hcap] 24)).alloc (.cells #[.int .i64 z] 41)).alloc (.cells #[.int .i64 r] 41) = W := ⟨_, rfl⟩
  have bW := ball4 w (.cells #[.int .i64 n, .int .i64 1, .slice xo xs.length xcap, .int .i64 n, .int .i64 n, .slice po ps.length pcap] 26) (.cells #[.int .i64 1, .int .i64 n, .slice ho hs.length hcap] 24) (.cells #[.int .i64 z] 41) (.cells #[.int .i64 r] 41)
  obtain ⟨x1, x2, x3, x4⟩ := allocs4 w (.cells #[.int .i64 n, .int .i64 1, .slice xo xs.length xcap, .int .i64 n, .int .i64 n, .slice po ps.length pcap] 26) (.cells #[.int .i64 1, .int .i64 n, .slice ho hs.length hcap] 24) (.cells #[.int .i64 z] 41) (.cells #[.int .i64 r] 41)
  rw [hW] at bW x1 x2 x3 x4
  have k1 := hasSize_any 1 n 1 n ho hs.length hcap W
  rw [show decide ((1 : Int) = 1 ∧ (n : Int) = n) = true from by simp] at k1
  have px : 0 < xs.length := by omega
  have pp : 0 < ps.length := by rw [hp]; exact Nat.mul_pos n1 n1
  have ph : 0 < hs.length := by omega
  -- the steps
  have l1 := prd_len 1 n 1 hs xs
  have m1 := prd_len 1 n n hs ps
  have m2 := prd_len 1 n 1 (prd 1 n n hs ps) (trn 1 n hs)
  have lt := trn_len 1 n hs
  have A0 := fun B N => left_step (B := B) (Nn := N) 1 n 1 (by omega) (by omega) n1 hn (by omega) (by omega) hs xs hh hx
  have A1 := fun B N Z hZB hZN => each_step (B := B) (Nn := N) 1 1 49 enters_in1 (sub z) (subB z) z Z hZB hZN (fun n a h => in1_any z n Z a h) (prd 1 n 1 hs xs) (by omega)
  have B0 := fun B N => left_step (B := B) (Nn := N) 1 n n (by omega) (by omega) n1 hn n1 hn hs ps hh hp
  have B1 := fun B N => rght_step (B := B) (Nn := N) 1 n 1 (by omega) (by omega) n1 hn (by omega) (by omega) (trn 1 n hs) (prd 1 n n hs ps) lt (by omega)
  have B2 := fun B N Z hZB hZN => each_step (B := B) (Nn := N) 1 1 51 enters_in2 (fun q => add q r) (fun q => addB q r) r Z hZB hZN (fun n a h => in2_any r n Z a h) (prd 1 n 1 (prd 1 n n hs ps) (trn 1 n hs)) (by omega)
  have kT := fun w hs' => trans_any 1 n (by omega) (by omega) n1 hn (.slice ho hs.length hcap) hs hh w hs'
  have eY : inY n xs hs z = ge (eaL (sub z) (prd 1 n 1 hs xs)) 0 := (eaL_one (sub z) (by omega)).symm
  have eS : inS n ps hs r = ge (eaL (fun q => add q r) (prd 1 n 1 (prd 1 n n hs ps) (trn 1 n hs))) 0 := (eaL_one (fun q => add q r) (ys := prd 1 n 1 (prd 1 n n hs ps) (trn 1 n hs)) (by omega)).symm
  have eF : inF n xs ps hs z r = (false || anyB (fun i => [prdB 1 n 1 hs xs, eaB (subB z) (prd 1 n 1 hs xs)].getD i false) 2 || anyB (fun i => [prdB 1 n n hs ps, prdB 1 n 1 (prd 1 n n hs ps) (trn 1 n hs), eaB (fun q => addB q r) (prd 1 n 1 (prd 1 n n hs ps) (trn 1 n hs))].getD i false) 3) := by
    rw [eaB_one _ (by omega), eaB_one _ (by omega)]
    simp [inF, midB, midL, anyB, Bool.or_assoc]
  have l2 : (eaL (sub z) (prd 1 n 1 hs xs)).length = 1 := by rw [eaL_len]; omega
  have m3 : (eaL (fun q => add q r) (prd 1 n 1 (prd 1 n n hs ps) (trn 1 n hs))).length = 1 := by rw [eaL_len]; omega
  rw [eY, eS, eF]
  clear eY eS eF
  generalize eaL (sub z) (prd 1 n 1 hs xs) = X2 at A1 l2 ⊢
  generalize eaB (subB z) (prd 1 n 1 hs xs) = b1 at A1 ⊢
  generalize prd 1 n 1 hs xs = X1 at A0 A1 l1 ⊢
  generalize prdB 1 n 1 hs xs = b0 at A0 ⊢
  generalize eaL (fun q => add q r) (prd 1 n 1 (prd 1 n n hs ps) (trn 1 n hs)) = Y3 at B2 m3 ⊢
  generalize eaB (fun q => addB q r) (prd 1 n 1 (prd 1 n n hs ps) (trn 1 n hs)) = c2 at B2 ⊢
  generalize prd 1 n 1 (prd 1 n n hs ps) (trn 1 n hs) = Y2 at B1 B2 m2 ⊢
  generalize prdB 1 n 1 (prd 1 n n hs ps) (trn 1 n hs) = c1 at B1 ⊢
  generalize prd 1 n n hs ps = Y1 at B0 B1 m1 ⊢
  generalize prdB 1 n n hs ps = c0 at B0 ⊢
  generalize trn 1 n hs = ts at B1 kT lt
  obtain ⟨F1, hF1⟩ : ∃ F, (false || anyB (fun i => [b0, b1].getD i false) 2) = F := ⟨_, rfl⟩
  obtain ⟨F2, hF2⟩ : ∃ F, (F1 || anyB (fun i => [c0, c1, c2].getD i false) 3) = F := ⟨_, rfl⟩
  have HF1 : Hid ((false || anyB (fun i => [b0, b1].getD i false) 2) = F1) := hF1
  have HF2 : Hid ((F1 || anyB (fun i => [c0, c1, c2].getD i false) 3) = F2) := hF2
  rw [hF1, hF2]
  obtain ⟨y0, hy0⟩ : ∃ y, ge X2 0 = y := ⟨_, rfl⟩
  obtain ⟨s0, hs0⟩ : ∃ y, ge Y3 0 = y := ⟨_, rfl⟩
  have HY : Hid (ge X2 0 = y0) := hy0
  have HS : Hid (ge Y3 0 = s0) := hs0
  rw [hy0, hs0]
  have P1 : Hid (0 < xs.length ∧ 0 < X1.length ∧ 0 < X2.length) := ⟨px, by omega, by omega⟩
  have P2 : Hid (0 < ps.length ∧ 0 < Y1.length ∧ 0 < Y2.length ∧ 0 < Y3.length) := ⟨pp, by omega, by omega, by omega⟩
  have P3 : Hid (0 < hs.length ∧ 0 < ts.length) := ⟨ph, by rw [lt]; omega⟩
  have P4 : Hid (X2.length = 1 ∧ Y3.length = 1) := ⟨l2, m3⟩
  have hW4 : w.heap.size + 4 = W.heap.size := by rw [← hW]; simp
  clear hx hp hh l1 m1 m2 lt l2 m3 hy0 hs0 hF1 hF2 px pp ph
  obtain ⟨q0, q1, q2, _⟩ := mat_cells x2
  obtain ⟨t0, t1, t2, t3, t4, t5⟩ := six_cells x1
  have hr' : decide (r ≤ 0) = false := by simpa using hr
  go_enter Try.func23, Try.ntmps23
  go_wp2_with (go_at_call 31; refine k1.mono ?_; rintro e wx ⟨rfl, bx⟩; have c4 := cell_of_one (keep bx x4))
  have y0' := heap_new wx (.cells #[.bool false, .int .i64 0] 77)
  have bw0 := bt bx (box_below wx (.cells #[.bool false, .int .i64 0] 77))
  have hWx := bx.size
  have hsz0 : wx.heap.size + 1 = (wx.alloc (.cells #[.bool false, .int .i64 0] 77)).heap.size := by simp
  generalize wx.alloc (.cells #[.bool false, .int .i64 0] 77) = w0 at y0' bw0 hsz0 ⊢
  have z1 := keep bw0 x1
  have z2 := keep bw0 x2
  have z3 := keep bw0 x3
  have z4 := keep bw0 x4
  refine ki6_region (N := wx.heap.size) (D4 := w.heap.size) (D5 := w.heap.size + 1) (D6 := w.heap.size + 1 + 1) (n := n) (xo := xo) (xcap := xcap) (ho := ho) (hcap := hcap) (hs := hs) xs X1 X2 b0 b1 y0' ?_ (fun v hv => (six_mod (hv.old z1 (by omega))).1) (fun v hv => three_mod (hv.old z2 (by omega))) ((sx.below bW).below bw0) (old_of (sx) P1.out.1 (by omega) (by omega)) ((sh.below bW).below bw0) (old_of sh P3.out.1 (by omega) (by omega))
    (fun v A va S => A0 _ _ A va S v) (fun v A S hv => A1 _ _ _ (by omega) (by omega) A S v (cell_of_one (hv.old z3 (by omega))) hv.size) ?_
  · intro i hi
    rcases (by omega : i = 0 ∨ i = 1 ∨ i = 2) with rfl | rfl | rfl
    · exact P1.out.1
    · exact P1.out.2.1
    · exact P1.out.2.2
  intro vs D ao cap wa ma e13 hD hbD sD nD hNa
  rw [HF1.out] at hNa
  unfold ki6Fr
  rw [e13]
  have hsa := ma.size
  go_wp2
  refine ki7_region (N := wx.heap.size) (D4 := w.heap.size) (D5 := w.heap.size + 1) (D7 := w.heap.size + 1 + 1 + 1) (n := n) (po := po) (pcap := pcap) (ho := ho) (hcap := hcap) (hs := hs) (ts := ts) ps Y1 Y2 Y3 c0 c1 c2 hNa ?_ (fun v hv => (six_mod (hv.old (ma.old z1 (by omega)) (by omega))).2) (fun v hv => three_mod (hv.old (ma.old z2 (by omega)) (by omega))) (((sp.below bW).below bw0).mod (old_of sp P2.out.1 (by omega) (by omega)) ma) (old_of sp P2.out.1 (by omega) (by omega)) (((sh.below bW).below bw0).mod (old_of sh P3.out.1 (by omega) (by omega)) ma) (old_of sh P3.out.1 (by omega) (by omega))
    (fun v hv => kT v ((((sh.below bW).below bw0).mod (old_of sh P3.out.1 (by omega) (by omega)) ma).mod (old_of sh P3.out.1 (by omega) (by omega)) hv)) P3.out.2
    (fun v A va S => B0 _ _ A va S v) (fun v A va S => B1 _ _ A va S v) (fun v A S hv => B2 _ _ _ (by omega) (by omega) A S v (cell_of_one (hv.old (ma.old z4 (by omega)) (by omega))) hv.size) ?_
  · intro i hi
    rcases (by omega : i = 0 ∨ i = 1 ∨ i = 2 ∨ i = 3) with rfl | rfl | rfl | rfl
    · exact P2.out.1
    · exact P2.out.2.1
    · exact P2.out.2.2.1
    · exact P2.out.2.2.2
  intro vs' D' ao' cap' wb mb e14 hD' hbD' sD' nD' hNb
  rw [HF2.out] at hNb
  unfold ki7Fr
  rw [e14]
  have hsb := mb.size
  obtain ⟨g0, g1, g2, _⟩ := mat_cells (mb.old hbD (by omega))
  obtain ⟨a1, cp1, eq1, _, v1⟩ := (sD.mod (fun k hk => ⟨sD.lt P1.out.2.2 k hk, by have := nD k hk; omega⟩) mb).first P4.out.1
  obtain ⟨j0, j1, j2, _⟩ := mat_cells hbD'
  obtain ⟨a2, cp2, eq2, _, v2⟩ := sD'.first P4.out.2
  obtain ⟨f0, f1, _⟩ := two_cells hNb
  rw [eq1] at g2
  rw [eq2] at j2
  rw [HY.out] at v1
  rw [HS.out] at v2
  have bE : Below w.heap.size w wb := bt bW (bw0.trans ((ma.trans mb).below (by omega) (fun k hk => by omega)))
  clear hNa hNb ma mb sD sD' eq1 eq2 hbD hbD' z1 z2 z3 z4 y0' k1 A0 A1 B0 B1 B2 kT x1 x2 x3 x4 bx bw0
  go_wp2
  go_quiet (fail)
  go_wp2
  refine bodyPost_ret (v := .tuple #[.int .i64 y0, .int .i64 s0, .bool F2, .int .i64 0]) (by simp [results, Try.results23, go_sem]) rfl ?_
  exact ⟨rfl, below_drewN bE _⟩
end Go.Proofs.Ytiniobcknmaigaa
