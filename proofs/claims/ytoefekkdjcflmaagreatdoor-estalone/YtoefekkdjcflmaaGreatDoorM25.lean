/- Parts of the proof. -/
import Derived.Test.YtoefekkdjcflmaaGreatDoorM23
import Derived.Test.YtoefekkdjcflmaaGreatDoorM24
namespace Go.Proofs.YtoefekkdjcflmaaGreatDoor
open Go.RowKit Go.Sort Qm
theorem Qm.pai_add_comm (xs ys : List Int) (h : xs.length = ys.length) : pai add xs ys = pai add ys xs := by
  unfold pai
  rw [h]
  exact tab_congr fun k _ => by unfold add; rw [Int.add_comm]
theorem Qm.paiB_add_comm (xs ys : List Int) (h : xs.length = ys.length) : paiB addB xs ys = paiB addB ys xs := by
  unfold paiB
  rw [h]
  exact anyB_congr fun k _ => by unfold addB ob2; rw [Int.add_comm, Bool.or_comm (ob (ge xs k))]
set_option maxRecDepth 20000 in
set_option maxHeartbeats 3200000 in
theorem kpredict_any (n : Nat) (n1 : 1 ≤ n) (hn : n ≤ 8) (vx vp vf vq : Value) (xs ps fs qs : List Int) (hx : xs.length = n * 1) (hp : ps.length = n * n) (hf : fs.length = n * n) (hq : qs.length = n * n) (w : World) (sx : Sees w vx xs) (sp : Sees w vp ps) (sf : Sees w vf fs) (sq : Sees w vq qs) :
    Calls Tryz.prog 67 #[.agg #[.int .i64 n, .int .i64 1, vx, .int .i64 n, .int .i64 n, vp], .agg #[.int .i64 n, .int .i64 n, vf], .agg #[.int .i64 n, .int .i64 n, vq]] w fun e b =>
      ∃ va vb, e = .returned (.tuple #[.agg #[.int .i64 n, .int .i64 1, va, .int .i64 n, .int .i64 n, vb], .bool (prF n xs ps fs qs), .int .i64 0]) ∧ Sees b va (prX n xs fs) ∧ Sees b vb (prP n ps fs qs) ∧ New w.heap.size va ∧ New w.heap.size vb ∧ Below w.heap.size w b := by
  obtain ⟨xo, xcap, rfl⟩ := sx.slice
  obtain ⟨po, pcap, rfl⟩ := sp.slice
  obtain ⟨fo, fcap, rfl⟩ := sf.slice
  obtain ⟨qo, qcap, rfl⟩ := sq.slice
  obtain ⟨W, hW⟩ : ∃ W, (((w.alloc (.cells #[.int .i64 n, .int .i64 1, .slice xo xs.length xcap, .int .i64 n, .int .i64 n, .slice po ps.length pcap] 31)).alloc (.cells #[.int .i64 n, .int .i64 n, .slice fo fs.length fcap] 29)).alloc (.cells #[.int .i64 n, .int .i64 n, .slice qo qs.length qcap] 29)).alloc (.cells #[.int .i64 0, .int .i64 0, .slice none 0 0, .int .i64 0, .int .i64 0, .slice none 0 0] 31) = W := ⟨_, rfl⟩
  have bW := ball4 w (.cells #[.int .i64 n, .int .i64 1, .slice xo xs.length xcap, .int .i64 n, .int .i64 n, .slice po ps.length pcap] 31) (.cells #[.int .i64 n, .int .i64 n, .slice fo fs.length fcap] 29) (.cells #[.int .i64 n, .int .i64 n, .slice qo qs.length qcap] 29) (.cells #[.int .i64 0, .int .i64 0, .slice none 0 0, .int .i64 0, .int .i64 0, .slice none 0 0] 31)
  obtain ⟨x1, x2, x3, x4⟩ := allocs4 w (.cells #[.int .i64 n, .int .i64 1, .slice xo xs.length xcap, .int .i64 n, .int .i64 n, .slice po ps.length pcap] 31) (.cells #[.int .i64 n, .int .i64 n, .slice fo fs.length fcap] 29) (.cells #[.int .i64 n, .int .i64 n, .slice qo qs.length qcap] 29) (.cells #[.int .i64 0, .int .i64 0, .slice none 0 0, .int .i64 0, .int .i64 0, .slice none 0 0] 31)
  rw [hW] at bW x1 x2 x3 x4
  have k1 := fun v => hasSize_any n n n n fo fs.length fcap v
  have k2 := fun v => hasSize_any n n n n qo qs.length qcap v
  rw [show decide ((n : Int) = n ∧ (n : Int) = n) = true from by simp] at k1 k2
  have px : 0 < xs.length := by omega
  have pn : 0 < n * n := Nat.mul_pos n1 n1
  -- the steps
  have l1 := prd_len n n 1 fs xs
  have m1 := prd_len n n n fs ps
  have m2 := prd_len n n n (prd n n n fs ps) (trn n n fs)
  have lt := trn_len n n fs
  have m3 : (pai add qs (prd n n n (prd n n n fs ps) (trn n n fs))).length = n * n := by rw [pai_len]; exact hq
  have A0 := fun B N => left_step (B := B) (Nn := N) n n 1 n1 hn n1 hn (by omega) (by omega) fs xs hf hx
  have B0 := fun B N => left_step (B := B) (Nn := N) n n n n1 hn n1 hn n1 hn fs ps hf hp
  have B1 := fun B N => rght_step (B := B) (Nn := N) n n n n1 hn n1 hn n1 hn (trn n n fs) (prd n n n fs ps) lt m1
  have B2 := fun B N => plus_step (B := B) (Nn := N) n n n1 hn n1 hn qs (prd n n n (prd n n n fs ps) (trn n n fs)) hq m2
  have kT := fun w hs' => trans_any n n n1 hn n1 hn (.slice fo fs.length fcap) fs hf w hs'
  have kG := fun w v hs' => kgood_any n n1 hn v (pai add qs (prd n n n (prd n n n fs ps) (trn n n fs))) m3 (pai_add_in _ _) w hs'
  have eP : prP n ps fs qs = gd n (pai add qs (prd n n n (prd n n n fs ps) (trn n n fs))) := by unfold prP prS midL; rw [pai_add_comm _ _ (by rw [m2, hq])]
  have eF : prF n xs ps fs qs = (false || anyB (fun i => [prdB n n 1 fs xs].getD i false) 1 || anyB (fun i => [prdB n n n fs ps, prdB n n n (prd n n n fs ps) (trn n n fs), paiB addB qs (prd n n n (prd n n n fs ps) (trn n n fs))].getD i false) 3) := by
    unfold prF midB midL
    rw [paiB_add_comm _ _ (by rw [m2, hq])]
    simp [anyB, Bool.or_assoc]
  have lG : 0 < (gd n (pai add qs (prd n n n (prd n n n fs ps) (trn n n fs)))).length := by rw [gd_len]; exact pn
  rw [eP, eF]
  unfold prX
  clear eP eF
  generalize gd n (pai add qs (prd n n n (prd n n n fs ps) (trn n n fs))) = G at kG lG ⊢
  generalize pai add qs (prd n n n (prd n n n fs ps) (trn n n fs)) = Y3 at B2 m3 kG ⊢
  generalize paiB addB qs (prd n n n (prd n n n fs ps) (trn n n fs)) = c2 at B2 ⊢
  generalize prd n n n (prd n n n fs ps) (trn n n fs) = Y2 at B1 B2 m2 ⊢
  generalize prdB n n n (prd n n n fs ps) (trn n n fs) = c1 at B1 ⊢
  generalize prd n n n fs ps = Y1 at B0 B1 m1 ⊢
  generalize prdB n n n fs ps = c0 at B0 ⊢
  generalize prd n n 1 fs xs = X1 at A0 l1 ⊢
  generalize prdB n n 1 fs xs = b0 at A0 ⊢
  generalize trn n n fs = ts at B1 kT lt
  obtain ⟨F1, hF1⟩ : ∃ F, (false || anyB (fun i => [b0].getD i false) 1) = F := ⟨_, rfl⟩
  obtain ⟨F2, hF2⟩ : ∃ F, (F1 || anyB (fun i => [c0, c1, c2].getD i false) 3) = F := ⟨_, rfl⟩
  have HF1 : Hid ((false || anyB (fun i => [b0].getD i false) 1) = F1) := hF1
  have HF2 : Hid ((F1 || anyB (fun i => [c0, c1, c2].getD i false) 3) = F2) := hF2
  rw [hF1, hF2]
  have P1 : Hid (0 < xs.length ∧ 0 < X1.length) := ⟨px, by omega⟩
  have P2 : Hid (0 < ps.length ∧ 0 < Y1.length ∧ 0 < Y2.length ∧ 0 < Y3.length) := ⟨by omega, by omega, by omega, by omega⟩
  have P3 : Hid (0 < fs.length ∧ 0 < ts.length ∧ 0 < qs.length ∧ 0 < G.length) := ⟨by omega, by omega, by omega, lG⟩
  have hW4 : w.heap.size + 4 = W.heap.size := by rw [← hW]; simp
  clear hx hp hf hq l1 m1 m2 m3 lt hF1 hF2 px pn lG
  obtain ⟨q0, q1, q2, _⟩ := mat_cells x2
  obtain ⟨r0, r1, r2, _⟩ := mat_cells x3
  obtain ⟨t0, t1, t2, t3, t4, t5⟩ := six_cells x1
  go_enter Tryz.func67, Tryz.ntmps67
  go_wp2_with (first
    | (have _ := bx; go_at_call 110; refine (k2 _).mono ?_; rintro e wy ⟨rfl, by_⟩)
    | (go_at_call 110; refine (k1 _).mono ?_; rintro e wx ⟨rfl, bx⟩; obtain ⟨r0, r1, r2, _⟩ := mat_cells (keep bx x3); obtain ⟨t0, t1, t2, t3, t4, t5⟩ := six_cells (keep bx x1)))
  have y0' := heap_new wy (.cells #[.bool false, .int .i64 0] 141)
  have bxy := bt bx by_
  have bw0 := bt bxy (box_below wy (.cells #[.bool false, .int .i64 0] 141))
  have hWx := bxy.size
  have hsz0 : wy.heap.size + 1 = (wy.alloc (.cells #[.bool false, .int .i64 0] 141)).heap.size := by simp
  generalize wy.alloc (.cells #[.bool false, .int .i64 0] 141) = w0 at y0' bw0 hsz0 ⊢
  have z1 := keep bw0 x1
  have z2 := keep bw0 x2
  have z3 := keep bw0 x3
  have z4 := keep bw0 x4
  refine kp4_region (N := wy.heap.size) (D3 := w.heap.size) (D4 := w.heap.size + 1) (n := n) (xo := xo) (xcap := xcap) (fo := fo) (fcap := fcap) (fs := fs) xs X1 b0 y0' ?_ (fun v hv => (six_mod (hv.old z1 (by omega))).1) (fun v hv => three_mod (hv.old z2 (by omega))) ((sx.below bW).below bw0) (old_of sx P1.out.1 (by omega) (by omega)) ((sf.below bW).below bw0) (old_of sf P3.out.1 (by omega) (by omega))
    (fun v A va S => A0 _ _ A va S v) ?_
  · intro i hi
    rcases (by omega : i = 0 ∨ i = 1) with rfl | rfl
    · exact P1.out.1
    · exact P1.out.2
  intro vs D ao cap wa ma e10 hD hbD sD nD hNa
  rw [HF1.out] at hNa
  unfold kp4Fr
  rw [e10]
  have hsa := ma.size
  go_wp2
  refine kp5_region (N := wy.heap.size) (D3 := w.heap.size) (D4 := w.heap.size + 1) (D5 := w.heap.size + 1 + 1) (n := n) (po := po) (pcap := pcap) (fo := fo) (fcap := fcap) (qo := qo) (qcap := qcap) (fs := fs) (qs := qs) (ts := ts) ps Y1 Y2 Y3 c0 c1 c2 hNa ?_ (fun v hv => (six_mod (hv.old (ma.old z1 (by omega)) (by omega))).2) (fun v hv => three_mod (hv.old (ma.old z2 (by omega)) (by omega))) (fun v hv => three_mod (hv.old (ma.old z3 (by omega)) (by omega)))
    (((sp.below bW).below bw0).mod (old_of sp P2.out.1 (by omega) (by omega)) ma) (old_of sp P2.out.1 (by omega) (by omega)) (((sf.below bW).below bw0).mod (old_of sf P3.out.1 (by omega) (by omega)) ma) (old_of sf P3.out.1 (by omega) (by omega)) (((sq.below bW).below bw0).mod (old_of sq P3.out.2.2.1 (by omega) (by omega)) ma) (old_of sq P3.out.2.2.1 (by omega) (by omega))
    (fun v hv => kT v ((((sf.below bW).below bw0).mod (old_of sf P3.out.1 (by omega) (by omega)) ma).mod (old_of sf P3.out.1 (by omega) (by omega)) hv)) P3.out.2.1
    (fun v A va S => B0 _ _ A va S v) (fun v A va S => B1 _ _ A va S v) (fun v A va S => B2 _ _ A va S v) ?_
  · intro i hi
    rcases (by omega : i = 0 ∨ i = 1 ∨ i = 2 ∨ i = 3) with rfl | rfl | rfl | rfl
    · exact P2.out.1
    · exact P2.out.2.1
    · exact P2.out.2.2.1
    · exact P2.out.2.2.2
  intro vs' D' ao' cap' wb mb e11 hD' hbD' sD' nD' hNb
  rw [HF2.out] at hNb
  unfold kp5Fr
  rw [e11]
  have hsb := mb.size
  obtain ⟨f0, f1, _⟩ := two_cells hNb
  have g10 := mb.old hbD (by omega)
  have sX := sD.mod (fun k hk => ⟨sD.lt P1.out.2 k hk, by have := nD k hk; omega⟩) mb
  have h6 := mb.old (ma.old z4 (by omega)) (by omega)
  have bE : Below w.heap.size w wb := bt bW (bw0.trans ((ma.trans mb).below (by omega) (fun k hk => by omega)))
  have hlX := sX.lt P1.out.2
  have hlP := sD'.lt P2.out.2.2.2
  have hDl := lt_of_block g10
  have hDl' := lt_of_block hbD'
  have hNl := lt_of_block hNb
  clear ma mb sD hNa z1 z2 z3 z4 y0' k1 k2 A0 B0 B1 B2 kT hbD
  go_wp2
  refine kp8_region (Nn := wy.heap.size) (D6 := w.heap.size + 1 + 1 + 1) (D10 := D) (D11 := D') (n := n) (xo := ao) (xcap := cap) (po := ao') (pcap := cap') (xs := X1) (qs := Y3) (zs := G) (m := F2) w.heap.size h6 bE.size (fun k hk => by have := nD k hk; omega) (fun v hv => three_mod (hv.old g10 (by omega))) (fun v hv => three_mod (hv.old hbD' (by omega))) sX (fun k hk => ⟨hlX k hk, by have := nD k hk; omega⟩) (fun v hv => (two_cells (hv.old hNb (by omega))).1) (fun v hv => kG v _ (sD'.mod (fun k hk => ⟨hlP k hk, by have := nD' k hk; omega⟩) hv)) P3.out.2.2.2 ?_
  intro vs2 ao2 ac2 bo2 bc2 wc mc e7 e8 h6' s1 s2 nw1 nw2
  unfold kp8Fr
  rw [e7, e8]
  obtain ⟨d0, d1, d2, d3, d4, d5⟩ := six_cells h6'
  have bF : Below w.heap.size w wc := bE.trans (mc.below (by have := bE.size; omega) (fun k hk => by omega))
  go_wp2
  refine bodyPost_ret (v := .tuple #[.agg #[.int .i64 n, .int .i64 1, .slice ao2 X1.length ac2, .int .i64 n, .int .i64 n, .slice bo2 G.length bc2], .bool F2, .int .i64 0]) (by simp [results, Tryz.results67, go_sem, d0, d1, d2, d3, d4, d5]) rfl ?_
  exact ⟨_, _, rfl, s1, s2, nw1, nw2, bF⟩
theorem Qm.evB_code {n : Nat} {ps : List Int} (hp : ps.length = n * n) : (sameB n n ps n n (trn n n ps) && !lowB (tab (fun i => ge ps (i * n + i)) n) n) = evB n ps := by
  have hl : (trn n n ps).length = n * n := trn_len n n ps
  unfold evB
  by_cases h : ∀ i, i < n → symP n ps i
  · rw [decide_eq_true h]
    have h1 : sameB n n ps n n (trn n n ps) = true := by
      unfold sameB
      rw [eqB_all (by rw [hl, hp]) ?_]
      · simp
      · intro p hpl
        rw [hp] at hpl
        have hn0 : 0 < n := by
          rcases Nat.eq_zero_or_pos n with h0 | h0
          · subst h0; omega
          · exact h0
        have h2 : p / n < n := (Nat.div_lt_iff_lt_mul hn0).2 hpl
        have h3 : p % n < n := Nat.mod_lt _ hn0
        have e : p / n * n + p % n = p := by rw [Nat.mul_comm]; exact Nat.div_add_mod p n
        rw [← e, trn_at ps h2 h3]
        rcases Nat.lt_trichotomy (p % n) (p / n) with h4 | h4 | h4
        · exact (h _ h2).2 _ h4
        · rw [h4]
        · exact ((h _ h3).2 _ h4).symm
    have h2 : lowB (tab (fun i => ge ps (i * n + i)) n) n = false := anyB_none fun k hk => by
      rw [ge_tab hk]
      have := (h k hk).1
      simp; omega
    rw [h1, h2]; rfl
  · rw [decide_eq_false h]
    cases h1 : sameB n n ps n n (trn n n ps) with
    | false => rfl
    | true =>
      cases h2 : lowB (tab (fun i => ge ps (i * n + i)) n) n with
      | true => rfl
      | false =>
        exfalso
        apply h
        intro i hi
        have he : ps = trn n n ps := by
          unfold sameB eqB at h1
          simpa using h1
        refine ⟨?_, fun k hk => ?_⟩
        · rcases Int.lt_or_le (ge ps (i * n + i)) 0 with h3 | h3
          · have : lowB (tab (fun i => ge ps (i * n + i)) n) n = true := anyB_hit hi (by rw [ge_tab hi]; simpa using h3)
            rw [this] at h2; cases h2
          · exact h3
        · have := trn_at (r := n) (c := n) ps hi (Nat.lt_trans hk hi)
          rw [← he] at this
          exact this
set_option maxRecDepth 20000 in
set_option maxHeartbeats 1600000 in
theorem kright_any (r1 c1 r2 c2 : Int) (va vb : Value) (xs ps : List Int) (hx : xs.length ≤ 100) (hp : ps.length ≤ 100) (w : World) (sa : Sees w va xs) (sb : Sees w vb ps) :
    Calls Tryz.prog 86 #[.agg #[.int .i64 r1, .int .i64 c1, va, .int .i64 r2, .int .i64 c2, vb]] w fun e b => e = .returned (.bool (trkB r1 c1 xs r2 c2 ps)) ∧ Below w.heap.size w b := by
  obtain ⟨ao, ac, rfl⟩ := sa.slice
  obtain ⟨bo, bc, rfl⟩ := sb.slice
  obtain ⟨W, hW⟩ : ∃ W, w.alloc (.cells #[.int .i64 r1, .int .i64 c1, .slice ao xs.length ac, .int .i64 r2, .int .i64 c2, .slice bo ps.length bc] 31) = W := ⟨_, rfl⟩
  have x1 := heap_new w (.cells #[.int .i64 r1, .int .i64 c1, .slice ao xs.length ac, .int .i64 r2, .int .i64 c2, .slice bo ps.length bc] 31)
  have bW := box_below w (.cells #[.int .i64 r1, .int .i64 c1, .slice ao xs.length ac, .int .i64 r2, .int .i64 c2, .slice bo ps.length bc] 31)
  rw [hW] at x1 bW
  have k1 := right_any r1 c1 _ xs W hx (sa.below bW)
  have k2 := fun v hv => right_any r2 c2 _ ps v hp ((sb.below bW).below hv)
  have k3 := fun v => hasSize_any r2 c2 r1 r1 bo ps.length bc v
  obtain ⟨c0, c1', c2', c3, c4, c5⟩ := six_cells x1
  unfold trkB
  cases hA : rightB r1 c1 xs with
  | false =>
    rw [hA] at k1
    clear hA
    go_enter Tryz.func86, Tryz.ntmps86
    go_wp2_with (first
      | (go_at_call 141; go_must (refine k1.mono ?_); rintro e wa ⟨rfl, b1⟩; obtain ⟨d0, d1, d2, d3, d4, d5⟩ := six_cells (keep b1 x1)))
    go_ret
    exact ⟨rfl, bt bW b1⟩
  | true =>
    cases hB : rightB r2 c2 ps with
    | false =>
      rw [hA] at k1
      rw [hB] at k2
      clear hA hB
      go_enter Tryz.func86, Tryz.ntmps86
      go_wp2_with (first
        | (have _ := b1; go_at_call 141; go_must (refine (k2 _ b1).mono ?_); rintro e wb ⟨rfl, b2⟩; obtain ⟨e0, e1, e2, e3, e4, e5⟩ := six_cells (keep (bt b1 b2) x1))
        | (go_at_call 141; go_must (refine k1.mono ?_); rintro e wa ⟨rfl, b1⟩; obtain ⟨d0, d1, d2, d3, d4, d5⟩ := six_cells (keep b1 x1)))
      go_ret
      exact ⟨rfl, bt bW (bt b1 b2)⟩
    | true =>
      by_cases h1 : c1 = 1
      · subst h1
        by_cases h2 : r2 = r1 ∧ c2 = r1
        · obtain ⟨R, C, hR⟩ := right_of hB
          obtain ⟨rfl, rfl, p1, p8, q1, q8, hl, hal⟩ := hR
          obtain ⟨h2a, h2b⟩ := h2
          have h2c : C = R := by omega
          subst h2c
          subst h2a
          rw [hA] at k1
          rw [hB] at k2
          rw [decide_eq_true (show (C : Int) = C ∧ (C : Int) = C from ⟨rfl, rfl⟩)] at k3
          simp only [decide_true, Bool.true_and, Int.toNat_natCast]
          rw [← evB_code hl]
          have kT := fun v hv => trans_any C C p1 p8 p1 p8 (.slice bo ps.length bc) ps hl v ((sb.below bW).below hv)
          have zt : 0 < (trn C C ps).length := by rw [trn_len]; exact Nat.mul_pos p1 p1
          have lt : (trn C C ps).length ≤ 100 := by rw [trn_len]; have := mul_le_64 p8 p8; omega
          have kS := fun v hv u hu => same_any C C C C (.slice bo ps.length bc) u ps (trn C C ps) v hp lt ((sb.below bW).below hv) hu
          have kD := fun v hv => kdiag_any C p1 p8 (.slice bo ps.length bc) ps hl v ((sb.below bW).below hv)
          have zd : 0 < (tab (fun i => ge ps (i * C + i)) C).length := by rw [tab_len]; exact p1
          have kC := fun v u hu => lowContains_any u (tab (fun i => ge ps (i * C + i)) C) v (by rw [tab_len]; omega) hu
          rw [tab_len] at kC
          generalize lowB (tab (fun i => ge ps (i * C + i)) C) C = Lw at kC ⊢
          generalize tab (fun i => ge ps (i * C + i)) C = ds at kD zd kC
          generalize sameB C C ps C C (trn C C ps) = A at kS ⊢
          generalize trn C C ps = ts at kT zt kS
          clear hA hB hl hal lt
          cases A
          · go_enter Tryz.func86, Tryz.ntmps86
            go_wp2_with (first
              | (have _ := b2; go_at_call 110; go_must (refine (k3 _).mono ?_); rintro e wc ⟨rfl, b3⟩)
              | (have _ := b1; go_at_call 141; go_must (refine (k2 _ b1).mono ?_); rintro e wb ⟨rfl, b2⟩; obtain ⟨e0, e1, e2, e3, e4, e5⟩ := six_cells (keep (bt b1 b2) x1))
              | (go_at_call 141; go_must (refine k1.mono ?_); rintro e wa ⟨rfl, b1⟩; obtain ⟨d0, d1, d2, d3, d4, d5⟩ := six_cells (keep b1 x1)))
            have bb := bt (bt b1 b2) b3
            refine krf_region (D := w.heap.size) (n := C) (po := bo) (pc := bc) (ps := ps) (ts := ts) (fun v hv => (six_mod (keep (bt bb (hv.below (Nat.le_refl _) (fun _ h => h.elim))) x1)).2) (fun v hv => kT v (bt bb (hv.below (Nat.le_refl _) (fun _ h => h.elim)))) zt (fun v hv u hu => kS v (bt bb (hv.below (Nat.le_refl _) (fun _ h => h.elim))) u hu) ?_
            intro vs wd hd e2
            unfold krfFr
            rw [e2]
            go_wp2
            go_ret
            exact ⟨by simp, bt bW (bt bb (hd.below (Nat.le_refl _) (fun _ h => h.elim)))⟩
          · go_enter Tryz.func86, Tryz.ntmps86
            go_wp2_with (first
              | (have _ := b2; go_at_call 110; go_must (refine (k3 _).mono ?_); rintro e wc ⟨rfl, b3⟩)
              | (have _ := b1; go_at_call 141; go_must (refine (k2 _ b1).mono ?_); rintro e wb ⟨rfl, b2⟩; obtain ⟨e0, e1, e2, e3, e4, e5⟩ := six_cells (keep (bt b1 b2) x1))
              | (go_at_call 141; go_must (refine k1.mono ?_); rintro e wa ⟨rfl, b1⟩; obtain ⟨d0, d1, d2, d3, d4, d5⟩ := six_cells (keep b1 x1)))
            have bb := bt (bt b1 b2) b3
            refine krt_region (D := w.heap.size) (n := C) (po := bo) (pc := bc) (ps := ps) (ts := ts) (ds := ds) (Lw := Lw) (fun v hv => (six_mod (keep (bt bb (hv.below (Nat.le_refl _) (fun _ h => h.elim))) x1)).2) (fun v hv => kT v (bt bb (hv.below (Nat.le_refl _) (fun _ h => h.elim)))) zt (fun v hv u hu => kS v (bt bb (hv.below (Nat.le_refl _) (fun _ h => h.elim))) u hu) (fun v hv => kD v (bt bb (hv.below (Nat.le_refl _) (fun _ h => h.elim)))) zd kC ?_
            intro vs wd hd e2
            unfold krtFr
            rw [e2]
            go_wp2
            go_ret
            exact ⟨by simp, bt bW (bt bb (hd.below (Nat.le_refl _) (fun _ h => h.elim)))⟩
        · have hf : (decide (r2 = r1) && (decide (c2 = r1) && evB r1.toNat ps)) = false := by
            by_cases h3 : r2 = r1
            · have h4 : ¬ c2 = r1 := fun h => h2 ⟨h3, h⟩
              simp [h4]
            · simp [h3]
          rw [hf]
          rw [hA] at k1
          rw [hB] at k2
          rw [decide_eq_false h2] at k3
          clear hA hB hf h2
          go_enter Tryz.func86, Tryz.ntmps86
          go_wp2_with (first
            | (have _ := b2; go_at_call 110; go_must (refine (k3 _).mono ?_); rintro e wc ⟨rfl, b3⟩)
            | (have _ := b1; go_at_call 141; go_must (refine (k2 _ b1).mono ?_); rintro e wb ⟨rfl, b2⟩; obtain ⟨e0, e1, e2, e3, e4, e5⟩ := six_cells (keep (bt b1 b2) x1))
            | (go_at_call 141; go_must (refine k1.mono ?_); rintro e wa ⟨rfl, b1⟩; obtain ⟨d0, d1, d2, d3, d4, d5⟩ := six_cells (keep b1 x1)))
          go_ret
          exact ⟨by simp, bt bW (bt (bt b1 b2) b3)⟩
      · have h1' : (c1 == 1) = false := by simpa using h1
        rw [decide_eq_false h1]
        rw [hA] at k1
        rw [hB] at k2
        clear hA hB
        go_enter Tryz.func86, Tryz.ntmps86
        go_wp2_with (first
          | (have _ := b1; go_at_call 141; go_must (refine (k2 _ b1).mono ?_); rintro e wb ⟨rfl, b2⟩; obtain ⟨e0, e1, e2, e3, e4, e5⟩ := six_cells (keep (bt b1 b2) x1))
          | (go_at_call 141; go_must (refine k1.mono ?_); rintro e wa ⟨rfl, b1⟩; obtain ⟨d0, d1, d2, d3, d4, d5⟩ := six_cells (keep b1 x1)))
        go_ret
        exact ⟨by simp, bt bW (bt b1 b2)⟩
theorem Qm.laid_len {r c : Int} {n : Nat} (h : laidB r c n = true) : n ≤ 64 := by
  obtain ⟨R, C, _, _, _, h4, _, h6, h7⟩ := laidB_in h
  have := mul_le_64 h4 h6
  omega
theorem Qm.right_len {r c : Int} {xs : List Int} (h : rightB r c xs = true) : xs.length ≤ 64 := by
  unfold rightB at h
  simp only [Bool.and_eq_true] at h
  exact laid_len h.1
theorem right_all (r c : Int) (v : Value) (xs : List Int) (w : World) (hs : Sees w v xs) :
    Calls Tryz.prog 141 #[.agg #[.int .i64 r, .int .i64 c, v]] w fun e w' => e = .returned (.bool (rightB r c xs)) ∧ Below w.heap.size w w' := by
  cases hl : laidB r c xs.length with
  | true => exact right_any r c v xs w (by have := laid_len hl; omega) hs
  | false =>
    obtain ⟨ao, cap, rfl⟩ := hs.slice
    have hR : rightB r c xs = (laidB r c xs.length && !outB xs xs.length) := rfl
    rw [hR, hl]
    go_enter Tryz.func141, Tryz.ntmps141
    go_wp2_with (go_at_call 159; refine (laid_any _ _ _ _ _ _).mono ?_; rintro e w' ⟨rfl, bx⟩)
    go_ret
    exact ⟨rfl, bt (box_below _ _) bx⟩
set_option maxRecDepth 20000 in
set_option maxHeartbeats 1600000 in
theorem kright_all (r1 c1 r2 c2 : Int) (va vb : Value) (xs ps : List Int) (w : World) (sa : Sees w va xs) (sb : Sees w vb ps) :
    Calls Tryz.prog 86 #[.agg #[.int .i64 r1, .int .i64 c1, va, .int .i64 r2, .int .i64 c2, vb]] w fun e b => e = .returned (.bool (trkB r1 c1 xs r2 c2 ps)) ∧ Below w.heap.size w b := by
  cases hA : rightB r1 c1 xs with
  | true =>
    cases hB : rightB r2 c2 ps with
    | true => exact kright_any r1 c1 r2 c2 va vb xs ps (by have := right_len hA; omega) (by have := right_len hB; omega) w sa sb
    | false =>
      obtain ⟨ao, ac, rfl⟩ := sa.slice
      obtain ⟨bo, bc, rfl⟩ := sb.slice
      obtain ⟨W, hW⟩ : ∃ W, w.alloc (.cells #[.int .i64 r1, .int .i64 c1, .slice ao xs.length ac, .int .i64 r2, .int .i64 c2, .slice bo ps.length bc] 31) = W := ⟨_, rfl⟩
      have x1 := heap_new w (.cells #[.int .i64 r1, .int .i64 c1, .slice ao xs.length ac, .int .i64 r2, .int .i64 c2, .slice bo ps.length bc] 31)
      have bW := box_below w (.cells #[.int .i64 r1, .int .i64 c1, .slice ao xs.length ac, .int .i64 r2, .int .i64 c2, .slice bo ps.length bc] 31)
      rw [hW] at x1 bW
      have k1 := right_all r1 c1 _ xs W (sa.below bW)
      have k2 := fun v hv => right_all r2 c2 _ ps v ((sb.below bW).below hv)
      obtain ⟨c0, c1', c2', c3, c4, c5⟩ := six_cells x1
      unfold trkB
      rw [hA, hB]
      rw [hA] at k1
      rw [hB] at k2
      clear hA hB
      go_enter Tryz.func86, Tryz.ntmps86
      go_wp2_with (first
        | (have _ := b1; go_at_call 141; go_must (refine (k2 _ b1).mono ?_); rintro e wb ⟨rfl, b2⟩; obtain ⟨e0, e1, e2, e3, e4, e5⟩ := six_cells (keep (bt b1 b2) x1))
        | (go_at_call 141; go_must (refine k1.mono ?_); rintro e wa ⟨rfl, b1⟩; obtain ⟨d0, d1, d2, d3, d4, d5⟩ := six_cells (keep b1 x1)))
      go_ret
      exact ⟨rfl, bt bW (bt b1 b2)⟩
  | false =>
    obtain ⟨ao, ac, rfl⟩ := sa.slice
    obtain ⟨bo, bc, rfl⟩ := sb.slice
    obtain ⟨W, hW⟩ : ∃ W, w.alloc (.cells #[.int .i64 r1, .int .i64 c1, .slice ao xs.length ac, .int .i64 r2, .int .i64 c2, .slice bo ps.length bc] 31) = W := ⟨_, rfl⟩
    have x1 := heap_new w (.cells #[.int .i64 r1, .int .i64 c1, .slice ao xs.length ac, .int .i64 r2, .int .i64 c2, .slice bo ps.length bc] 31)
    have bW := box_below w (.cells #[.int .i64 r1, .int .i64 c1, .slice ao xs.length ac, .int .i64 r2, .int .i64 c2, .slice bo ps.length bc] 31)
    rw [hW] at x1 bW
    have k1 := right_all r1 c1 _ xs W (sa.below bW)
    obtain ⟨c0, c1', c2', c3, c4, c5⟩ := six_cells x1
    unfold trkB
    rw [hA]
    rw [hA] at k1
    clear hA
    go_enter Tryz.func86, Tryz.ntmps86
    go_wp2_with (first
      | (go_at_call 141; go_must (refine k1.mono ?_); rintro e wa ⟨rfl, b1⟩; obtain ⟨d0, d1, d2, d3, d4, d5⟩ := six_cells (keep b1 x1)))
    go_ret
    exact ⟨rfl, bt bW b1⟩
end Go.Proofs.YtoefekkdjcflmaaGreatDoor
namespace Go.Proofs.YtoefekkdjcflmaaGreatDoor.Et
open Go.RowKit Go.Sort Go.Proofs.YtoefekkdjcflmaaGreatDoor.Qm
structure Es where
  tu : Nat → Int
  r : Nat → Int
  c : Nat → Int
  r' : Nat → Int
  c' : Nat → Int
  X : Nat → List Int
  P : Nat → List Int
  st : Int
  co : Int
  off : Nat → Int
  sat : Bool
def Es.cells (e : Es) (vx vp : Nat → Value) : Array Value := #[.int .i64 (e.tu 0), .int .i64 (e.tu 1), .int .i64 (e.tu 2), .int .i64 (e.tu 3), .int .i64 (e.r 0), .int .i64 (e.c 0), vx 0, .int .i64 (e.r' 0), .int .i64 (e.c' 0), vp 0, .int .i64 (e.r 1), .int .i64 (e.c 1), vx 1, .int .i64 (e.r' 1), .int .i64 (e.c' 1), vp 1, .int .i64 (e.r 2), .int .i64 (e.c 2), vx 2, .int .i64 (e.r' 2), .int .i64 (e.c' 2), vp 2, .int .i64 e.st, .int .i64 e.co, .int .i64 (e.off 0), .int .i64 (e.off 1), .int .i64 (e.off 2), .int .i64 (e.off 3), .bool e.sat]
def Es.See (e : Es) (w : World) (vx vp : Nat → Value) : Prop := ∀ i, i < 3 → Sees w (vx i) (e.X i) ∧ Sees w (vp i) (e.P i)
theorem Es.See.below {e : Es} {w w' : World} {vx vp : Nat → Value} (h : e.See w vx vp) (hb : Below w.heap.size w w') : e.See w' vx vp := fun i hi => ⟨(h i hi).1.below hb, (h i hi).2.below hb⟩
def axB (e : Es) (i : Nat) : Bool := !trkB (e.r i) (e.c i) (e.X i) (e.r' i) (e.c' i) (e.P i) || !decide (e.r i = 3)
def rgtB (e : Es) : Bool := !Qt.Qm.anyB (fun k => ob (e.tu k)) 4 && (!anyB (axB e) 3 && (!cnB 1099511627776 e.st && (!cnB 1000 e.co && !anyB (fun k => cnB 1000 (e.off k)) 4)))
set_option maxHeartbeats 1000000 in
theorem noAxis_any (r1 c1 r2 c2 : Int) (va vb : Value) (xs ps : List Int) (w : World) (sa : Sees w va xs) (sb : Sees w vb ps) :
    Calls Tryz.prog 48 #[.agg #[.int .i64 r1, .int .i64 c1, va, .int .i64 r2, .int .i64 c2, vb]] w fun e b => e = .returned (.bool (!trkB r1 c1 xs r2 c2 ps || !decide (r1 = 3))) ∧ Below w.heap.size w b := by
  obtain ⟨ao, ac, rfl⟩ := sa.slice
  obtain ⟨bo, bc, rfl⟩ := sb.slice
  have bW := box_below w (.cells #[.int .i64 r1, .int .i64 c1, .slice ao xs.length ac, .int .i64 r2, .int .i64 c2, .slice bo ps.length bc] 31)
  have g1 := heap_new w (.cells #[.int .i64 r1, .int .i64 c1, .slice ao xs.length ac, .int .i64 r2, .int .i64 c2, .slice bo ps.length bc] 31)
  have hR := kright_all r1 c1 r2 c2 _ _ xs ps _ (sa.below bW) (sb.below bW)
  obtain ⟨A, hA⟩ : ∃ A, trkB r1 c1 xs r2 c2 ps = A := ⟨_, rfl⟩
  rw [hA] at hR ⊢
  clear hA sa sb
  by_cases h3 : r1 = 3
  all_goals
    first | (subst h3; simp only [decide_true, Bool.not_true, Bool.or_false]) | (simp only [h3, decide_false, Bool.not_false, Bool.or_true]; have hn : (r1 != 3) = true := by simp [h3])
    cases A
    all_goals
      go_enter Tryz.func48, Tryz.ntmps48
      go_wp2_with (go_at_call 86; go_must (refine hR.mono ?_); rintro e w1 ⟨rfl, b1⟩; obtain ⟨d0, _⟩ := six_cells (keep b1 g1))
      go_ret
      exact ⟨by simp_all, bt bW b1⟩
set_option maxRecDepth 20000 in
set_option maxHeartbeats 2000000 in
theorem axIndex_any (e : Es) (vx vp : Nat → Value) (D : Nat) (w : World) (h : e.See w vx vp) (hD : ∀ i, i < 3 → w.cell? ⟨D, 4 + 6 * i, none⟩ = some (.int .i64 (e.r i)) ∧ w.cell? ⟨D, 4 + 6 * i + 1, none⟩ = some (.int .i64 (e.c i)) ∧ w.cell? ⟨D, 4 + 6 * i + 2, none⟩ = some (vx i) ∧ w.cell? ⟨D, 4 + 6 * i + 3, none⟩ = some (.int .i64 (e.r' i)) ∧ w.cell? ⟨D, 4 + 6 * i + 4, none⟩ = some (.int .i64 (e.c' i)) ∧ w.cell? ⟨D, 4 + 6 * i + 5, none⟩ = some (vp i)) (hl : D < w.heap.size) :
    Calls Tryz.prog 92 #[.slice (some ⟨D, 4, none⟩) 3 3, .func (.func 48) #[] #[]] w fun z b => ∃ r, z = .returned (.int .i64 r) ∧ decide (0 ≤ r) = anyB (axB e) 3 ∧ Below w.heap.size w b := by
  go_enter Tryz.func92, Tryz.ntmps92
  go_wp2
  go_loopw [8] (fun i wr => ∃ k : Nat, k ≤ 3 ∧ i = .int .i64 k ∧ Hid (anyB (axB e) k = false) ∧ Below w.heap.size w wr) (fun i _ => 3 - (intOf i).toNat)
  case atStart => exact ⟨0, Nat.zero_le _, rfl, rfl, Below.refl _ _⟩
  case round =>
    obtain ⟨k, hk, rfl, hno, hb⟩ := hrel
    by_cases h3k : k = 3
    · subst h3k
      go_wp2
      go_ret
      exact ⟨-1, rfl, by rw [hno.out]; rfl, hb⟩
    rcases (by omega : k = 0 ∨ k = 1 ∨ k = 2) with rfl | rfl | rfl
    · have q := hD 0 (by decide)
      have c0 := (hb.cell (p := ⟨D, 4, none⟩) hl).trans q.1
      have c1 := (hb.cell (p := ⟨D, 5, none⟩) hl).trans q.2.1
      have c2 := (hb.cell (p := ⟨D, 6, none⟩) hl).trans q.2.2.1
      have c3 := (hb.cell (p := ⟨D, 7, none⟩) hl).trans q.2.2.2.1
      have c4 := (hb.cell (p := ⟨D, 8, none⟩) hl).trans q.2.2.2.2.1
      have c5 := (hb.cell (p := ⟨D, 9, none⟩) hl).trans q.2.2.2.2.2
      have hN := noAxis_any (e.r 0) (e.c 0) (e.r' 0) (e.c' 0) (vx 0) (vp 0) (e.X 0) (e.P 0) wr ((h 0 (by decide)).1.below hb) ((h 0 (by decide)).2.below hb)
      clear q
      cases ho : axB e 0 with
      | true =>
        unfold axB at ho
        rw [ho] at hN
        go_wp2_with (refine Calls.mono hN ?_; rintro z w1 ⟨rfl, b1⟩)
        go_ret
        exact ⟨_, rfl, by rw [show anyB (axB e) 3 = true from anyB_hit (k := 0) (by decide) ho]; simp, bt hb b1⟩
      | false =>
        have ho' := ho
        unfold axB at ho
        rw [ho] at hN
        have HN : Hid (anyB (axB e) (0 + 1) = false) := by show (anyB (axB e) 0 || axB e 0) = false; rw [ho', hno.out]; rfl
        clear ho ho'
        go_wp2_with (refine Calls.mono hN ?_; rintro z w1 ⟨rfl, b1⟩)
        go_roundw
        case rel => exact ⟨0 + 1, by decide, by go_num, HN, bt hb b1⟩
        case measure => simp [intOf]
    · have q := hD 1 (by decide)
      have c0 := (hb.cell (p := ⟨D, 10, none⟩) hl).trans q.1
      have c1 := (hb.cell (p := ⟨D, 11, none⟩) hl).trans q.2.1
      have c2 := (hb.cell (p := ⟨D, 12, none⟩) hl).trans q.2.2.1
      have c3 := (hb.cell (p := ⟨D, 13, none⟩) hl).trans q.2.2.2.1
      have c4 := (hb.cell (p := ⟨D, 14, none⟩) hl).trans q.2.2.2.2.1
      have c5 := (hb.cell (p := ⟨D, 15, none⟩) hl).trans q.2.2.2.2.2
      have hN := noAxis_any (e.r 1) (e.c 1) (e.r' 1) (e.c' 1) (vx 1) (vp 1) (e.X 1) (e.P 1) wr ((h 1 (by decide)).1.below hb) ((h 1 (by decide)).2.below hb)
      clear q
      cases ho : axB e 1 with
      | true =>
        unfold axB at ho
        rw [ho] at hN
        go_wp2_with (refine Calls.mono hN ?_; rintro z w1 ⟨rfl, b1⟩)
        go_ret
        exact ⟨_, rfl, by rw [show anyB (axB e) 3 = true from anyB_hit (k := 1) (by decide) ho]; simp, bt hb b1⟩
      | false =>
        have ho' := ho
        unfold axB at ho
        rw [ho] at hN
        have HN : Hid (anyB (axB e) (1 + 1) = false) := by show (anyB (axB e) 1 || axB e 1) = false; rw [ho', hno.out]; rfl
        clear ho ho'
        go_wp2_with (refine Calls.mono hN ?_; rintro z w1 ⟨rfl, b1⟩)
        go_roundw
        case rel => exact ⟨1 + 1, by decide, by go_num, HN, bt hb b1⟩
        case measure => simp [intOf]
    · have q := hD 2 (by decide)
      have c0 := (hb.cell (p := ⟨D, 16, none⟩) hl).trans q.1
      have c1 := (hb.cell (p := ⟨D, 17, none⟩) hl).trans q.2.1
      have c2 := (hb.cell (p := ⟨D, 18, none⟩) hl).trans q.2.2.1
      have c3 := (hb.cell (p := ⟨D, 19, none⟩) hl).trans q.2.2.2.1
      have c4 := (hb.cell (p := ⟨D, 20, none⟩) hl).trans q.2.2.2.2.1
      have c5 := (hb.cell (p := ⟨D, 21, none⟩) hl).trans q.2.2.2.2.2
      have hN := noAxis_any (e.r 2) (e.c 2) (e.r' 2) (e.c' 2) (vx 2) (vp 2) (e.X 2) (e.P 2) wr ((h 2 (by decide)).1.below hb) ((h 2 (by decide)).2.below hb)
      clear q
      cases ho : axB e 2 with
      | true =>
        unfold axB at ho
        rw [ho] at hN
        go_wp2_with (refine Calls.mono hN ?_; rintro z w1 ⟨rfl, b1⟩)
        go_ret
        exact ⟨_, rfl, by rw [show anyB (axB e) 3 = true from anyB_hit (k := 2) (by decide) ho]; simp, bt hb b1⟩
      | false =>
        have ho' := ho
        unfold axB at ho
        rw [ho] at hN
        have HN : Hid (anyB (axB e) (2 + 1) = false) := by show (anyB (axB e) 2 || axB e 2) = false; rw [ho', hno.out]; rfl
        clear ho ho'
        go_wp2_with (refine Calls.mono hN ?_; rintro z w1 ⟨rfl, b1⟩)
        go_roundw
        case rel => exact ⟨2 + 1, by decide, by go_num, HN, bt hb b1⟩
        case measure => simp [intOf]
theorem axContains_any (e : Es) (vx vp : Nat → Value) (D : Nat) (w : World) (h : e.See w vx vp) (hD : ∀ i, i < 3 → w.cell? ⟨D, 4 + 6 * i, none⟩ = some (.int .i64 (e.r i)) ∧ w.cell? ⟨D, 4 + 6 * i + 1, none⟩ = some (.int .i64 (e.c i)) ∧ w.cell? ⟨D, 4 + 6 * i + 2, none⟩ = some (vx i) ∧ w.cell? ⟨D, 4 + 6 * i + 3, none⟩ = some (.int .i64 (e.r' i)) ∧ w.cell? ⟨D, 4 + 6 * i + 4, none⟩ = some (.int .i64 (e.c' i)) ∧ w.cell? ⟨D, 4 + 6 * i + 5, none⟩ = some (vp i)) (hl : D < w.heap.size) :
    Calls Tryz.prog 47 #[.slice (some ⟨D, 4, none⟩) 3 3, .func (.func 48) #[] #[]] w fun z b => z = .returned (.bool (anyB (axB e) 3)) ∧ Below w.heap.size w b := by
  have hi := axIndex_any e vx vp D w h hD hl
  obtain ⟨A, hA⟩ : ∃ A, anyB (axB e) 3 = A := ⟨_, rfl⟩
  rw [hA] at hi ⊢
  clear hA hD
  go_enter Tryz.func47, Tryz.ntmps47
  go_wp2_with (go_at_call 92; refine hi.mono ?_; rintro z w' ⟨r, rfl, hr, b1⟩)
  go_ret
  exact ⟨rfl, b1⟩
end Go.Proofs.YtoefekkdjcflmaaGreatDoor.Et

