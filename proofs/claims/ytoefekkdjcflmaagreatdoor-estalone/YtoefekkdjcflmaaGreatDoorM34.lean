/- Parts of the proof. -/
import Derived.Test.YtoefekkdjcflmaaGreatDoorM25
import Derived.Test.YtoefekkdjcflmaaGreatDoorM31
import Derived.Test.YtoefekkdjcflmaaGreatDoorM32
import Derived.Test.YtoefekkdjcflmaaGreatDoorM33
namespace Go.Proofs.YtoefekkdjcflmaaGreatDoor
open Go.RowKit Go.Sort Qm
namespace Qm
def coF (n : Nat) (xs ps hs : List Int) (y s r : Int) (m : Bool) : Bool := m || upC n ps hs || eaB (fun q => divB q s) (upK0 n ps hs) || upE n xs ps hs (upK n ps hs s) y r
theorem upK_ea (n : Nat) (ps hs : List Int) (s : Int) : upK n ps hs s = eaL (fun q => div q s) (upK0 n ps hs) := by
  unfold upK eaL upK0
  rw [prd_len, Nat.mul_one]
end Qm
theorem mem_old {w0 w : World} {N : Nat} {v : Value} {xs : List Int} {B : Nat} (h : Sees w v xs) (h0 : 0 < xs.length) (hB : ∀ k, v.ownBlock = some k → B ≤ k) (hN : N < B) (hw : w.heap.size ≤ w0.heap.size) : Old w0.heap.size N v := fun k hk => by
  have := h.lt h0 k hk
  have := hB k hk
  exact ⟨by omega, by omega⟩
set_option maxRecDepth 20000 in
set_option maxHeartbeats 6400000 in
theorem corrected_any (n : Nat) (n1 : 1 ≤ n) (hn : n ≤ 8) (vx vp vh : Value) (xs ps hs : List Int) (hx : xs.length = n * 1) (hp : ps.length = n * n) (hh : hs.length = 1 * n) (y s r : Int) (N : Nat) (m0 : Bool) (w : World) (sx : Sees w vx xs) (sp : Sees w vp ps) (sh : Sees w vh hs)
    (ox : Old w.heap.size N vx) (op : Old w.heap.size N vp) (oh : Old w.heap.size N vh) (hN : w.heap[N]? = some (.cells #[.bool m0, .int .i64 0] 141 (0, 0))) :
    Calls Tryz.prog 171 #[.func (.func 112) #[.pointer (some ⟨N, 0, none⟩)] #[], .agg #[.int .i64 n, .int .i64 1, vx, .int .i64 n, .int .i64 n, vp], .agg #[.int .i64 1, .int .i64 n, vh], .int .i64 y, .int .i64 s, .int .i64 r] w fun e b =>
      ∃ va vb, e = .returned (.agg #[.int .i64 n, .int .i64 1, va, .int .i64 n, .int .i64 n, vb]) ∧ Sees b va (upX xs (upK n ps hs s) y) ∧ Sees b vb (gd n (upPP n ps hs (upK n ps hs s) r)) ∧ New w.heap.size va ∧ New w.heap.size vb ∧
        b.heap[N]? = some (.cells #[.bool (coF n xs ps hs y s r m0), .int .i64 0] 141 (0, 0)) ∧ w.grownBy b (some N) := by
  obtain ⟨xo, xcap, rfl⟩ := sx.slice
  obtain ⟨po, pcap, rfl⟩ := sp.slice
  obtain ⟨ho, hcap, rfl⟩ := sh.slice
  obtain ⟨W, hW⟩ : ∃ W, (((w.alloc (.cells #[.int .i64 n, .int .i64 1, .slice xo xs.length xcap, .int .i64 n, .int .i64 n, .slice po ps.length pcap] 31)).alloc (.cells #[.int .i64 1, .int .i64 n, .slice ho hs.length hcap] 29)).alloc (.cells #[.int .i64 s] 22)).alloc (.cells #[.int .i64 0, .int .i64 0, .slice none 0 0, .int .i64 0, .int .i64 0, .slice none 0 0] 31) = W := ⟨_, rfl⟩
  have bW := ball4 w (.cells #[.int .i64 n, .int .i64 1, .slice xo xs.length xcap, .int .i64 n, .int .i64 n, .slice po ps.length pcap] 31) (.cells #[.int .i64 1, .int .i64 n, .slice ho hs.length hcap] 29) (.cells #[.int .i64 s] 22) (.cells #[.int .i64 0, .int .i64 0, .slice none 0 0, .int .i64 0, .int .i64 0, .slice none 0 0] 31)
  obtain ⟨x1, x2, x3, x4⟩ := allocs4 w (.cells #[.int .i64 n, .int .i64 1, .slice xo xs.length xcap, .int .i64 n, .int .i64 n, .slice po ps.length pcap] 31) (.cells #[.int .i64 1, .int .i64 n, .slice ho hs.length hcap] 29) (.cells #[.int .i64 s] 22) (.cells #[.int .i64 0, .int .i64 0, .slice none 0 0, .int .i64 0, .int .i64 0, .slice none 0 0] 31)
  rw [hW] at bW x1 x2 x3 x4
  have hNw := lt_of_block hN
  have px : 0 < xs.length := by omega
  have pn : 0 < n * n := Nat.mul_pos n1 n1
  have ph : 0 < hs.length := by omega
  -- the steps
  have lth := trn_len 1 n hs
  have lk0 := prd_len n n 1 ps (trn 1 n hs)
  have eK := upK_ea n ps hs s
  have lk : (upK n ps hs s).length = n * 1 := by rw [eK, eaL_len]; exact lk0
  have A0 := fun B N => rght_step (B := B) (Nn := N) n n 1 n1 hn n1 hn (by omega) (by omega) (trn 1 n hs) ps lth hp
  have A1 := fun B N Z hZB hZN => each_step (B := B) (Nn := N) n 1 188 enters_co1 (fun q => div q s) (fun q => divB q s) s Z hZB hZN (fun q a h => co1_any s q Z a h) (upK0 n ps hs) (by unfold upK0; omega)
  rw [← eK] at A1
  have kTh := fun w hs' => trans_any 1 n (by omega) (by omega) n1 hn (.slice ho hs.length hcap) hs hh w hs'
  have C1 : coF n xs ps hs y s r m0 = (m0 || anyB (fun i => [upC n ps hs, eaB (fun q => divB q s) (upK0 n ps hs)].getD i false) 2 || upE n xs ps hs (upK n ps hs s) y r) := by simp [coF, anyB, Bool.or_assoc]
  rw [C1]
  clear C1
  change ∀ B N A va S w, _ → _ → _ → _ → StepV B N n n ps n 1 (upK0 n ps hs) (upC n ps hs) _ S w at A0
  have lk0' : (upK0 n ps hs).length = n * 1 := lk0
  clear eK lk0
  generalize upK n ps hs s = k at A1 lk ⊢
  generalize eaB (fun q => divB q s) (upK0 n ps hs) = a1 at A1 ⊢
  generalize upK0 n ps hs = k0 at A0 A1 lk0'
  generalize upC n ps hs = a0 at A0 ⊢
  have lsy : (scl k y).length = n * 1 := by unfold scl; rw [tab_len]; exact lk
  have lsr : (scl k r).length = n * 1 := by unfold scl; rw [tab_len]; exact lk
  have B0 := fun B N => scal_step (B := B) (Nn := N) n 1 n1 hn (by omega) (by omega) y k lk
  have B1 := fun B N => plus_step (B := B) (Nn := N) n 1 n1 hn (by omega) (by omega) xs (scl k y) hx lsy
  have le : (dia (fun _ => 16777216) n).length = n * n := tab_len _ _
  have lkh := prd_len n 1 n k hs
  have D0 := fun B N => rght_step (B := B) (Nn := N) n 1 n n1 hn (by omega) (by omega) n1 hn hs k hh lk
  have D1 := fun B N => less_step (B := B) (Nn := N) n n n1 hn n1 hn (dia (fun _ => 16777216) n) (prd n 1 n k hs) le lkh
  have lik : (upIK n hs k).length = n * n := by unfold upIK; rw [pai_len]; exact le
  have ltk := trn_len n 1 k
  have E0 := fun B N => scal_step (B := B) (Nn := N) n 1 n1 hn (by omega) (by omega) r k lk
  have E1 := fun B N => rght_step (B := B) (Nn := N) n 1 n n1 hn (by omega) (by omega) n1 hn (trn n 1 k) (scl k r) ltk lsr
  have lz : (upP2 n k r).length = n * n := prd_len n 1 n _ _
  have kTk := fun v w hs' => trans_any n 1 n1 hn (by omega) (by omega) v k lk w hs'
  have lti := trn_len n n (upIK n hs k)
  have g1 := prd_len n n n (upIK n hs k) ps
  have g2 := prd_len n n n (prd n n n (upIK n hs k) ps) (trn n n (upIK n hs k))
  have G0 := fun B N => left_step (B := B) (Nn := N) n n n n1 hn n1 hn n1 hn (upIK n hs k) ps lik hp
  have G1 := fun B N => rght_step (B := B) (Nn := N) n n n n1 hn n1 hn n1 hn (trn n n (upIK n hs k)) (prd n n n (upIK n hs k) ps) lti g1
  have G2 := fun B N => plus_step (B := B) (Nn := N) n n n1 hn n1 hn (upP2 n k r) (prd n n n (prd n n n (upIK n hs k) ps) (trn n n (upIK n hs k))) lz g2
  have kTi := fun v w hs' => trans_any n n n1 hn n1 hn v (upIK n hs k) lik w hs'
  have g3 : (pai add (upP2 n k r) (prd n n n (prd n n n (upIK n hs k) ps) (trn n n (upIK n hs k)))).length = n * n := by rw [pai_len]; exact lz
  have kG := fun w v hs' => kgood_any n n1 hn v (pai add (upP2 n k r) (prd n n n (prd n n n (upIK n hs k) ps) (trn n n (upIK n hs k)))) g3 (pai_add_in _ _) w hs'
  have kE := fun w => eye_any n n1 hn w
  have eP : upPP n ps hs k r = pai add (upP2 n k r) (prd n n n (prd n n n (upIK n hs k) ps) (trn n n (upIK n hs k))) := by unfold upPP upP1 midL; exact pai_add_comm _ _ (by rw [g2, lz])
  have eE : upE n xs ps hs k y r = (anyB (fun i => [sclB k y, paiB addB xs (scl k y)].getD i false) 2 || false || anyB (fun i => [prdB n 1 n k hs, paiB subB (dia (fun _ => 16777216) n) (prd n 1 n k hs)].getD i false) 2 || anyB (fun i => [sclB k r, prdB n 1 n (scl k r) (trn n 1 k)].getD i false) 2 || anyB (fun i => [prdB n n n (upIK n hs k) ps, prdB n n n (prd n n n (upIK n hs k) ps) (trn n n (upIK n hs k)), paiB addB (upP2 n k r) (prd n n n (prd n n n (upIK n hs k) ps) (trn n n (upIK n hs k)))].getD i false) 3) := by
    unfold upE upKH upP1 midB midL
    rw [paiB_add_comm _ (upP2 n k r) (by rw [g2, lz])]
    generalize sclB k y = z1
    generalize paiB addB xs (scl k y) = z2
    generalize prdB n 1 n k hs = z3
    generalize paiB subB (dia (fun _ => 16777216) n) (prd n 1 n k hs) = z4
    generalize sclB k r = z5
    generalize prdB n 1 n (scl k r) (trn n 1 k) = z6
    generalize prdB n n n (upIK n hs k) ps = z7
    generalize prdB n n n (prd n n n (upIK n hs k) ps) (trn n n (upIK n hs k)) = z8
    generalize paiB addB (upP2 n k r) (prd n n n (prd n n n (upIK n hs k) ps) (trn n n (upIK n hs k))) = z9
    simp only [anyB, List.getD_cons_zero, List.getD_cons_succ, Bool.false_or, Bool.or_false]
    cases z1 <;> cases z2 <;> cases z3 <;> cases z4 <;> cases z5 <;> cases z6 <;> cases z7 <;> cases z8 <;> cases z9 <;> rfl
  have lG : 0 < (gd n (pai add (upP2 n k r) (prd n n n (prd n n n (upIK n hs k) ps) (trn n n (upIK n hs k))))).length := by rw [gd_len]; exact pn
  have lX : 0 < (upX xs k y).length := by unfold upX; rw [pai_len]; exact px
  rw [eP, eE]
  clear eP eE
  change ∀ B N A va S w, _ → _ → _ → _ → StepV B N n 1 (scl k y) n 1 (upX xs k y) _ _ S w at B1
  change ∀ B N A va S w, _ → _ → _ → _ → StepV B N n n (prd n 1 n k hs) n n (upIK n hs k) _ _ S w at D1
  change ∀ B N A va S w, _ → _ → _ → _ → StepV B N n 1 (scl k r) n n (upP2 n k r) _ _ S w at E1
  generalize gd n (pai add (upP2 n k r) (prd n n n (prd n n n (upIK n hs k) ps) (trn n n (upIK n hs k)))) = Gd at kG lG ⊢
  generalize pai add (upP2 n k r) (prd n n n (prd n n n (upIK n hs k) ps) (trn n n (upIK n hs k))) = Y3 at G2 g3 kG ⊢
  generalize paiB addB (upP2 n k r) (prd n n n (prd n n n (upIK n hs k) ps) (trn n n (upIK n hs k))) = g2b at G2 ⊢
  generalize prd n n n (prd n n n (upIK n hs k) ps) (trn n n (upIK n hs k)) = Y2 at G1 G2 g2
  generalize prdB n n n (prd n n n (upIK n hs k) ps) (trn n n (upIK n hs k)) = g1b at G1 ⊢
  generalize prd n n n (upIK n hs k) ps = Y1 at G0 G1 g1
  generalize prdB n n n (upIK n hs k) ps = g0b at G0 ⊢
  generalize trn n n (upIK n hs k) = tsi at G1 kTi lti
  generalize upP2 n k r = Zn at E1 G2 lz
  generalize prdB n 1 n (scl k r) (trn n 1 k) = e1b at E1 ⊢
  generalize scl k r = Sr at E0 E1 lsr
  generalize sclB k r = e0b at E0 ⊢
  generalize trn n 1 k = tsk at E1 kTk ltk
  generalize upIK n hs k = Ik at D1 G0 kTi lik
  generalize paiB subB (dia (fun _ => 16777216) n) (prd n 1 n k hs) = d1b at D1 ⊢
  generalize prd n 1 n k hs = Kh at D0 D1 lkh
  generalize prdB n 1 n k hs = d0b at D0 ⊢
  generalize dia (fun _ => 16777216) n = es at D1 le kE
  generalize upX xs k y = Xn at B1 lX ⊢
  generalize paiB addB xs (scl k y) = b1b at B1 ⊢
  generalize scl k y = Sy at B0 B1 lsy
  generalize sclB k y = b0b at B0 ⊢
  generalize trn 1 n hs = tsh at A0 kTh lth
  obtain ⟨F1, hF1⟩ : ∃ F, (m0 || anyB (fun i => [a0, a1].getD i false) 2) = F := ⟨_, rfl⟩
  obtain ⟨F2, hF2⟩ : ∃ F, (F1 || anyB (fun i => [b0b, b1b].getD i false) 2) = F := ⟨_, rfl⟩
  obtain ⟨F5, hF5⟩ : ∃ F, (F2 || false || anyB (fun i => [d0b, d1b].getD i false) 2) = F := ⟨_, rfl⟩
  obtain ⟨F6, hF6⟩ : ∃ F, (F5 || anyB (fun i => [e0b, e1b].getD i false) 2) = F := ⟨_, rfl⟩
  obtain ⟨F7, hF7⟩ : ∃ F, (F6 || anyB (fun i => [g0b, g1b, g2b].getD i false) 3) = F := ⟨_, rfl⟩
  have eFin : (m0 || anyB (fun i => [a0, a1].getD i false) 2 || (anyB (fun i => [b0b, b1b].getD i false) 2 || false || anyB (fun i => [d0b, d1b].getD i false) 2 || anyB (fun i => [e0b, e1b].getD i false) 2 || anyB (fun i => [g0b, g1b, g2b].getD i false) 3)) = F7 := by
    rw [← hF7, ← hF6, ← hF5, ← hF2, ← hF1]
    simp only [Bool.or_assoc]
  rw [eFin]
  have HF1 : Hid (_ = F1) := hF1
  have HF2 : Hid (_ = F2) := hF2
  have HF5 : Hid (_ = F5) := hF5
  have HF6 : Hid (_ = F6) := hF6
  have HF7 : Hid (_ = F7) := hF7
  have P1 : Hid (0 < ps.length ∧ 0 < k0.length ∧ 0 < k.length) := ⟨by omega, by omega, by omega⟩
  have P2 : Hid (0 < k.length ∧ 0 < Sy.length ∧ 0 < Xn.length) := ⟨by omega, by omega, lX⟩
  have P5 : Hid (0 < k.length ∧ 0 < Kh.length ∧ 0 < Ik.length) := ⟨by omega, by omega, by omega⟩
  have P6 : Hid (0 < k.length ∧ 0 < Sr.length ∧ 0 < Zn.length) := ⟨by omega, by omega, by omega⟩
  have P7 : Hid (0 < ps.length ∧ 0 < Y1.length ∧ 0 < Y2.length ∧ 0 < Y3.length) := ⟨by omega, by omega, by omega, by omega⟩
  have PX : Hid (0 < xs.length ∧ 0 < hs.length ∧ 0 < tsh.length ∧ 0 < tsk.length ∧ 0 < tsi.length ∧ 0 < es.length ∧ 0 < Gd.length) := ⟨px, ph, by omega, by omega, by omega, by omega, lG⟩
  have hW4 : w.heap.size + 4 = W.heap.size := by rw [← hW]; simp
  have hNW := keep bW hN
  have HE := enters_keep
  clear hx hp hh lth lk lk0' lsy lsr le lkh lik ltk lz lti g1 g2 g3 lG lX px pn ph hF1 hF2 hF5 hF6 hF7 eFin hN
  have oxW : Old W.heap.size N (.slice xo xs.length xcap) := fun q hq => ⟨Nat.lt_of_lt_of_le (ox q hq).1 bW.size, (ox q hq).2⟩
  have opW : Old W.heap.size N (.slice po ps.length pcap) := fun q hq => ⟨Nat.lt_of_lt_of_le (op q hq).1 bW.size, (op q hq).2⟩
  have ohW : Old W.heap.size N (.slice ho hs.length hcap) := fun q hq => ⟨Nat.lt_of_lt_of_le (oh q hq).1 bW.size, (oh q hq).2⟩
  have sxW := sx.below bW
  have spW := sp.below bW
  have shW := sh.below bW
  go_enter Tryz.func171, Tryz.ntmps171
  go_wp2
  refine kc1_region (N := N) (D7 := w.heap.size) (D8 := w.heap.size + 1) (D10 := w.heap.size + 1 + 1) (n := n) (po := po) (pcap := pcap) (ho := ho) (hcap := hcap) (hs := hs) (ts := tsh) ps k0 k a0 a1 hNW ?_ (fun v hv => (six_mod (hv.old x1 (by omega))).2) (fun v hv => three_mod (hv.old x2 (by omega))) spW opW (fun v hv => kTh v (shW.mod ohW hv)) PX.out.2.2.1 (fun v A va S => A0 _ _ A va S v) (fun v A S hv => A1 _ _ _ (by omega) (by omega) A S v (cell_of_one (hv.old x3 (by omega))) hv.size) ?_
  · intro i hi
    rcases (by omega : i = 0 ∨ i = 1 ∨ i = 2) with rfl | rfl | rfl
    · exact P1.out.1
    · exact P1.out.2.1
    · exact P1.out.2.2
  intro vs1 D13 ko kcap w1 m1 e13 hD13 hb13 s13 nw13 hN1
  rw [HF1.out] at hN1
  unfold kc1Fr
  rw [e13]
  have z1 := m1.size
  have x1a := m1.old x1 (by omega)
  have x2a := m1.old x2 (by omega)
  have x4a := m1.old x4 (by omega)
  have ok1 := mem_old (w0 := w1) s13 P1.out.2.2 nw13 (by omega : N < W.heap.size) (Nat.le_refl _)
  have ox1 : Old w1.heap.size N (.slice xo xs.length xcap) := fun q hq => ⟨Nat.lt_of_lt_of_le (oxW q hq).1 z1, (oxW q hq).2⟩
  have op1 : Old w1.heap.size N (.slice po ps.length pcap) := fun q hq => ⟨Nat.lt_of_lt_of_le (opW q hq).1 z1, (opW q hq).2⟩
  have oh1 : Old w1.heap.size N (.slice ho hs.length hcap) := fun q hq => ⟨Nat.lt_of_lt_of_le (ohW q hq).1 z1, (ohW q hq).2⟩
  have sx1 := sxW.mod oxW m1
  have sp1 := spW.mod opW m1
  have sh1 := shW.mod ohW m1
  have bE1 : w.grownBy w1 (some N) := ((Mod.of bW).trans m1).gb
  clear sx sp sh ox op oh sxW spW shW oxW opW ohW x1 x2 x3 x4 hNW m1 A0 A1 kTh hW bW
  go_wp2
  refine kc2_region (N := N) (D7 := w.heap.size) (D13 := D13) (n := n) (y := y) (xo := xo) (xcap := xcap) (ko := ko) (kcap := kcap) (xs := xs) k Sy Xn b0b b1b hN1 ?_ (fun v hv => (six_mod (hv.old x1a (by omega))).1) (fun v hv => three_mod (hv.old hb13 (by omega))) sx1 ox1 s13 ok1 (fun v A S => B0 _ _ A S v) (fun v A va S => B1 _ _ A va S v) ?_
  · intro i hi
    rcases (by omega : i = 0 ∨ i = 1 ∨ i = 2) with rfl | rfl | rfl
    · exact P2.out.1
    · exact P2.out.2.1
    · exact P2.out.2.2
  intro vs2 D14 xo' xcap' w2 m2 e14 hD14 hb14 s14 nw14 hN2
  rw [HF2.out] at hN2
  unfold kc2Fr
  rw [e14]
  have z2 := m2.size
  have x1b := m2.old x1a (by omega)
  have x2b := m2.old x2a (by omega)
  have x4b := m2.old x4a (by omega)
  have h13b := m2.old hb13 (by omega)
  have s13b := s13.mod ok1 m2
  have sp2 := sp1.mod op1 m2
  have sh2 := sh1.mod oh1 m2
  have ok2 : Old w2.heap.size N (.slice ko k.length kcap) := fun q hq => ⟨Nat.lt_of_lt_of_le (ok1 q hq).1 z2, (ok1 q hq).2⟩
  have op2 : Old w2.heap.size N (.slice po ps.length pcap) := fun q hq => ⟨Nat.lt_of_lt_of_le (op1 q hq).1 z2, (op1 q hq).2⟩
  have oh2 : Old w2.heap.size N (.slice ho hs.length hcap) := fun q hq => ⟨Nat.lt_of_lt_of_le (oh1 q hq).1 z2, (oh1 q hq).2⟩
  have oX2 := mem_old (w0 := w2) s14 P2.out.2.2 nw14 (by omega : N < w1.heap.size) (Nat.le_refl _)
  have bE2 : w.grownBy w2 (some N) := ((Mod.ofGb bE1).trans m2).gb
  obtain ⟨i0, i1, i2, i3, i4, i5⟩ := six_cells x1b
  clear sx1 ox1 sp1 op1 sh1 oh1 s13 ok1 hb13 hN1 m2 B0 B1 x1a x2a x4a bE1
  go_wp2_with (first
    | (have _ := bE; go_at_call 112; go_must (refine (keep_any N F2 false _ (heap_old (keep bE hN2) _)).mono ?_); rintro e w3 ⟨rfl, hN3, hg3⟩)
    | (go_at_call 190; go_must (refine (kE _).mono ?_); rintro e wE ⟨vE, rfl, sE, nE, bE⟩; obtain ⟨eo, ecap, rfl⟩ := sE.slice))
  have b3 : Mod (fun b => b = N) w2 w3 := (Mod.of (bt bE (box_below wE _))).trans (Mod.ofGb hg3)
  have z3 := b3.size
  have zE := bE.size
  have h15 : w3.heap[wE.heap.size]? = some (.cells #[.int .i64 n, .int .i64 n, .slice eo es.length ecap] 29 (0, 0)) := (hg3.block _ (by simp) (by intro e; injection e; omega)).trans (heap_new _ _)
  have hle := sE.lt PX.out.2.2.2.2.2.1
  have s15 : Sees w3 (.slice eo es.length ecap) es := (sE.alloc _).agree hg3.size fun q hq => hg3.block q (by have := hle q hq; simp; omega) (fun e => by injection e with e; have := nE q hq; omega)
  have oE3 : Old w3.heap.size N (.slice eo es.length ecap) := mem_old (w0 := w3) s15 PX.out.2.2.2.2.2.1 nE (by omega : N < w2.heap.size) (Nat.le_refl _)
  have x1c := b3.old x1b (by omega)
  have x2c := b3.old x2b (by omega)
  have x4c := b3.old x4b (by omega)
  have h13c := b3.old h13b (by omega)
  have h14c := b3.old hb14 (by omega)
  have s13c := s13b.mod ok2 b3
  have s14c := s14.mod oX2 b3
  have sp3 := sp2.mod op2 b3
  have sh3 := sh2.mod oh2 b3
  have ok3 : Old w3.heap.size N (.slice ko k.length kcap) := fun q hq => ⟨Nat.lt_of_lt_of_le (ok2 q hq).1 z3, (ok2 q hq).2⟩
  have op3 : Old w3.heap.size N (.slice po ps.length pcap) := fun q hq => ⟨Nat.lt_of_lt_of_le (op2 q hq).1 z3, (op2 q hq).2⟩
  have oh3 : Old w3.heap.size N (.slice ho hs.length hcap) := fun q hq => ⟨Nat.lt_of_lt_of_le (oh2 q hq).1 z3, (oh2 q hq).2⟩
  have oX3 : Old w3.heap.size N (.slice xo' Xn.length xcap') := fun q hq => ⟨Nat.lt_of_lt_of_le (oX2 q hq).1 z3, (oX2 q hq).2⟩
  have bE3 : w.grownBy w3 (some N) := ((Mod.ofGb bE2).trans b3).gb
  generalize wE.heap.size = D15 at h15 zE ⊢
  clear sp2 op2 sh2 oh2 s13b ok2 h13b hb14 s14 oX2 hN2 hg3 b3 sE nE bE hle kE x1b x2b x4b bE2 i0 i1 i2 i3 i4 i5
  go_wp2
  refine kc5_region (N := N) (D8 := w.heap.size + 1) (D13 := D13) (D15 := D15) (n := n) (ho := ho) (hcap := hcap) (ko := ko) (kcap := kcap) (eo := eo) (ecap := ecap) (hs := hs) (es := es) k Kh Ik d0b d1b hN3 ?_ (fun v hv => three_mod (hv.old x2c (by omega))) (fun v hv => three_mod (hv.old h13c (by omega))) (fun v hv => three_mod (hv.old h15 (by omega))) sh3 oh3 s13c ok3 s15 oE3 (fun v A va S => D0 _ _ A va S v) (fun v A va S => D1 _ _ A va S v) ?_
  · intro i hi
    rcases (by omega : i = 0 ∨ i = 1 ∨ i = 2) with rfl | rfl | rfl
    · exact P5.out.1
    · exact P5.out.2.1
    · exact P5.out.2.2
  intro vs5 D17 io icap w5 m5 e17 hD17 hb17 s17 nw17 hN5
  rw [HF5.out] at hN5
  unfold kc5Fr
  rw [e17]
  have z5 := m5.size
  have x1d := m5.old x1c (by omega)
  have x4d := m5.old x4c (by omega)
  have h13d := m5.old h13c (by omega)
  have h14d := m5.old h14c (by omega)
  have s13d := s13c.mod ok3 m5
  have s14d := s14c.mod oX3 m5
  have sp5 := sp3.mod op3 m5
  have ok5 : Old w5.heap.size N (.slice ko k.length kcap) := fun q hq => ⟨Nat.lt_of_lt_of_le (ok3 q hq).1 z5, (ok3 q hq).2⟩
  have op5 : Old w5.heap.size N (.slice po ps.length pcap) := fun q hq => ⟨Nat.lt_of_lt_of_le (op3 q hq).1 z5, (op3 q hq).2⟩
  have oX5 : Old w5.heap.size N (.slice xo' Xn.length xcap') := fun q hq => ⟨Nat.lt_of_lt_of_le (oX3 q hq).1 z5, (oX3 q hq).2⟩
  have oI5 := mem_old (w0 := w5) s17 P5.out.2.2 nw17 (by omega : N < w3.heap.size) (Nat.le_refl _)
  have bE5 : w.grownBy w5 (some N) := ((Mod.ofGb bE3).trans m5).gb
  clear sp3 op3 sh3 oh3 s13c ok3 s14c oX3 hN3 m5 D0 D1 x1c x2c x4c h13c h14c h15 s15 oE3 bE3
  go_wp2
  refine kc6_region (N := N) (D13 := D13) (n := n) (r := r) (ko := ko) (kcap := kcap) (ts := tsk) k Sr Zn e0b e1b hN5 ?_ (fun v hv => three_mod (hv.old h13d (by omega))) s13d ok5 (fun v hv => kTk _ v (s13d.mod ok5 hv)) PX.out.2.2.2.1 (fun v A S => E0 _ _ A S v) (fun v A va S => E1 _ _ A va S v) ?_
  · intro i hi
    rcases (by omega : i = 0 ∨ i = 1 ∨ i = 2) with rfl | rfl | rfl
    · exact P6.out.1
    · exact P6.out.2.1
    · exact P6.out.2.2
  intro vs6 D18 zo zcap w6 m6 e18 hD18 hb18 s18 nw18 hN6
  rw [HF6.out] at hN6
  unfold kc6Fr
  rw [e18]
  have z6 := m6.size
  have x1e := m6.old x1d (by omega)
  have x4e := m6.old x4d (by omega)
  have h14e := m6.old h14d (by omega)
  have h17e := m6.old hb17 (by omega)
  have s14e := s14d.mod oX5 m6
  have s17e := s17.mod oI5 m6
  have sp6 := sp5.mod op5 m6
  have op6 : Old w6.heap.size N (.slice po ps.length pcap) := fun q hq => ⟨Nat.lt_of_lt_of_le (op5 q hq).1 z6, (op5 q hq).2⟩
  have oX6 : Old w6.heap.size N (.slice xo' Xn.length xcap') := fun q hq => ⟨Nat.lt_of_lt_of_le (oX5 q hq).1 z6, (oX5 q hq).2⟩
  have oI6 : Old w6.heap.size N (.slice io Ik.length icap) := fun q hq => ⟨Nat.lt_of_lt_of_le (oI5 q hq).1 z6, (oI5 q hq).2⟩
  have oZ6 := mem_old (w0 := w6) s18 P6.out.2.2 nw18 (by omega : N < w5.heap.size) (Nat.le_refl _)
  have bE6 : w.grownBy w6 (some N) := ((Mod.ofGb bE5).trans m6).gb
  clear sp5 op5 s13d ok5 s14d oX5 s17 oI5 hb17 hN5 m6 E0 E1 kTk x1d x4d h13d h14d bE5
  go_wp2
  refine kc7_region (N := N) (D7 := w.heap.size) (D17 := D17) (D18 := D18) (n := n) (po := po) (pcap := pcap) (io := io) (icap := icap) (zo := zo) (zcap := zcap) («is» := Ik) (zs := Zn) (ts := tsi) ps Y1 Y2 Y3 g0b g1b g2b hN6 ?_ (fun v hv => (six_mod (hv.old x1e (by omega))).2) (fun v hv => three_mod (hv.old h17e (by omega))) (fun v hv => three_mod (hv.old hb18 (by omega))) sp6 op6 s17e oI6 s18 oZ6 (fun v hv => kTi _ v (s17e.mod oI6 hv)) PX.out.2.2.2.2.1 (fun v A va S => G0 _ _ A va S v) (fun v A va S => G1 _ _ A va S v) (fun v A va S => G2 _ _ A va S v) ?_
  · intro i hi
    rcases (by omega : i = 0 ∨ i = 1 ∨ i = 2 ∨ i = 3) with rfl | rfl | rfl | rfl
    · exact P7.out.1
    · exact P7.out.2.1
    · exact P7.out.2.2.1
    · exact P7.out.2.2.2
  intro vs7 D19 qo qcap w7 m7 e19 hD19 hb19 s19 nw19 hN7
  rw [HF7.out] at hN7
  unfold kc7Fr
  rw [e19]
  have z7 := m7.size
  have x4f := m7.old x4e (by omega)
  have h14f := m7.old h14e (by omega)
  have s14f := s14e.mod oX6 m7
  have bE7 : w.grownBy w7 (some N) := ((Mod.ofGb bE6).trans m7).gb
  have hl14 := s14f.lt P2.out.2.2
  have hl19 := s19.lt P7.out.2.2.2
  have h14l := lt_of_block h14f
  have h19l := lt_of_block hb19
  clear sp6 op6 s14e oX6 s17e oI6 s18 oZ6 hb18 hN6 m7 G0 G1 G2 kTi x1e x4e h14e h17e bE6
  go_wp2
  refine kc8_region (D12 := w.heap.size + 1 + 1 + 1) (D14 := D14) (D19 := D19) (n := n) (xo := xo') (xcap := xcap') (po := qo) (pcap := qcap) (xs := Xn) (qs := Y3) (zs := Gd) w.heap.size x4f bE7.size (fun q hq => by have := nw14 q hq; omega) (fun v hv => three_mod (hv.old h14f (by omega))) (fun v hv => three_mod (hv.old hb19 (by omega))) s14f (fun q hq => ⟨hl14 q hq, by have := nw14 q hq; omega⟩) (fun v hv => kG v _ (s19.mod (fun q hq => ⟨hl19 q hq, by have := nw19 q hq; omega⟩) hv)) PX.out.2.2.2.2.2.2 ?_
  intro vs8 ao8 ac8 bo8 bc8 w8 m8 h12 s1 s2 nw1 nw2
  unfold kc8Fr
  obtain ⟨d0, d1, d2, d3, d4, d5⟩ := six_cells h12
  have hN8 := m8.old hN7 (by omega)
  have bF : w.grownBy w8 (some N) := ⟨m8.os.trans bE7.os, m8.tape.trans bE7.tape, m8.output.trans bE7.output, Nat.le_trans bE7.size m8.size, fun q hq hq' => (m8.block q (Nat.lt_of_lt_of_le hq bE7.size) (by omega)).trans (bE7.block q hq hq')⟩
  go_wp2
  refine bodyPost_ret (v := .agg #[.int .i64 n, .int .i64 1, .slice ao8 Xn.length ac8, .int .i64 n, .int .i64 n, .slice bo8 Gd.length bc8]) (by simp [results, Tryz.results171, go_sem, d0, d1, d2, d3, d4, d5]) rfl ?_
  exact ⟨_, _, rfl, s1, s2, nw1, nw2, hN8, bF⟩
end Go.Proofs.YtoefekkdjcflmaaGreatDoor

