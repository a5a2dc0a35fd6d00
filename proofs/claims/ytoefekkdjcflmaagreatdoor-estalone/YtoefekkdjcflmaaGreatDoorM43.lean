/- Parts of the proof. -/
import Derived.Test.YtoefekkdjcflmaaGreatDoorM42
namespace Go.Proofs.YtoefekkdjcflmaaGreatDoor
open Go.RowKit Go.Sort Qm
def knwOps : Array Oper := #[
 ⟨some 14, .move (.tmp 0), 27, "kalman.go:32", #[], none⟩,
 ⟨some 15, .call ⟨.builtin .len, #[.tmp 14], #[27]⟩, 3, "kalman.go:32", #[eD 0], none⟩,
 ⟨some 16, .move (.tmp 0), 27, "kalman.go:32", #[], none⟩,
 ⟨some 17, .call ⟨.value (.func 85), #[.tmp 16], #[27]⟩, 27, "kalman.go:32", #[eD 2], none⟩,
 ⟨some 18, .build 29 #[(0, .tmp 15), (1, .const (.int .i64 1)), (2, .tmp 17)], 29, "kalman.go:32", #[eD 1, eD 3], none⟩,
 ⟨some 19, .load 29 (.tmp 6), 29, "kalman.go:32", #[], none⟩,
 ⟨some 20, .build 31 #[(0, .tmp 18), (1, .tmp 19)], 31, "kalman.go:32", #[eD 4, eD 5], none⟩,
 ⟨some 8, .alloc 31, 0, "kalman.go:32", #[], none⟩,
 ⟨none, .store 31 (.tmp 8) (.tmp 20), 0, "kalman.go:32", #[eD 7, eD 6, eC 3, eP 0, eP 1, eP 2, eP 3, eP 4, eP 5, eP 6, eP 7], none⟩]
def knwDst (i : Nat) : Nat := [14, 15, 16, 17, 18, 19, 20, 8, 1000].getD i 0
def knwFr (D6 : Nat) (xo : Option Addr) (xc : Nat) (xs : List Int) (u1 u2 u3 u4 u5 u7 u9 u10 u11 u12 u13 u21 u22 u23 u24 u25 u26 u27 u28 u29 : Value) (vs : Nat → Value) : Act := ⟨#[.slice xo xs.length xc, u1, u2, u3, u4, u5, .pointer (some ⟨D6, 0, none⟩), u7, vs 8, u9, u10, u11, u12, u13, vs 14, vs 15, vs 16, vs 17, vs 18, vs 19, vs 20, u21, u22, u23, u24, u25, u26, u27, u28, u29], []⟩
def knwT (B : Nat) (r2 c2 : Int) (xo po : Option Addr) (xc pn pc : Nat) (xs : List Int) : Nat → Value → Value → (Nat → Prop) → World → Prop
  | 0, v, _, _, _ => v = .slice xo xs.length xc
  | 1, v, _, _, _ => v = .int .i64 (xs.length : Nat)
  | 2, v, _, _, _ => v = .slice xo xs.length xc
  | 3, v, _, S, w => TNum B xs v S w
  | 4, v, _, S, w => TMat B (xs.length : Nat) 1 xs v S w
  | 5, v, _, _, _ => v = .agg #[.int .i64 r2, .int .i64 c2, .slice po pn pc]
  | 6, v, _, S, w => TNt B (xs.length : Nat) 1 r2 c2 xs (.slice po pn pc) v S w
  | 7, v, _, S, w => TP6 B v S w
  | 8, _, u, S, w => TSn B (xs.length : Nat) 1 r2 c2 xs (.slice po pn pc) u S w
  | _, _, _, _, _ => True
set_option maxRecDepth 40000 in
set_option maxHeartbeats 800000 in
theorem knw_region {Q : Exit → Act → World → Prop} {w0 : World} {D6 : Nat} {r2 c2 : Int} {xo po : Option Addr} {xc pn pc : Nat} {xs : List Int} {u1 u2 u3 u4 u5 u7 u9 u10 u11 u12 u13 u21 u22 u23 u24 u25 u26 u27 u28 u29 : Value}
    (cP : ∀ w, Mod (fun _ => False) w0 w → w.cell? ⟨D6, 0, none⟩ = some (.int .i64 r2) ∧ w.cell? ⟨D6, 1, none⟩ = some (.int .i64 c2) ∧ w.cell? ⟨D6, 2, none⟩ = some (.slice po pn pc))
    (kC : ∀ w, Mod (fun _ => False) w0 w → Calls Tryz.prog 85 #[.slice xo xs.length xc] w fun e b => ∃ v', e = .returned v' ∧ Sees b v' xs ∧ New w.heap.size v' ∧ Below w.heap.size w b) (kL : ∀ w v, Sees w v xs → ∀ q, v.ownBlock = some q → q < w.heap.size)
    (hQ : ∀ vs D ao ac w, Mod (fun _ => False) w0 w → vs 8 = .pointer (some ⟨D, 0, none⟩) → w0.heap.size ≤ D → w.heap[D]? = some (.cells #[.int .i64 (xs.length : Nat), .int .i64 1, .slice ao xs.length ac, .int .i64 r2, .int .i64 c2, .slice po pn pc] 31 (0, 0)) → Sees w (.slice ao xs.length ac) xs → New w0.heap.size (.slice ao xs.length ac) → Q .normal (knwFr D6 xo xc xs u1 u2 u3 u4 u5 u7 u9 u10 u11 u12 u13 u21 u22 u23 u24 u25 u26 u27 u28 u29 vs) w) :
    (Code.region 2 knwOps true).wp Tryz.prog Q (knwFr D6 xo xc xs u1 u2 u3 u4 u5 u7 u9 u10 u11 u12 u13 u21 u22 u23 u24 u25 u26 u27 u28 u29 (fun _ => undef)) w0 := by
  refine wp_region_own (by kernel_rfl) (by decide) knwDst (by decide) (knwFr D6 xo xc xs u1 u2 u3 u4 u5 u7 u9 u10 u11 u12 u13 u21 u22 u23 u24 u25 u26 u27 u28 u29) (fun _ => undef) (fun i => if i = 8 then 7 else i) (by decide) (fun _ => False) (fun q hq => hq.elim) (fun _ _ => False) (fun _ _ h => h.elim) (fun _ _ _ h _ => h.elim)
    (fun s j => s = 8 ∧ j = 7) (fun s j h => by obtain ⟨rfl, rfl⟩ := h; exact ⟨by decide, by decide⟩) (fun s j h => by obtain ⟨rfl, rfl⟩ := h; decide) (knwT w0.heap.size r2 c2 xo po xc pn pc xs) ?_ ?_ ?_
  · intro i v u S w w' hi h hw hw' hz hS
    have hi' : i < 9 := hi
    rcases (by omega : i = 0 ∨ i = 1 ∨ i = 2 ∨ i = 3 ∨ i = 4 ∨ i = 5 ∨ i = 6 ∨ i = 7 ∨ i = 8) with rfl | rfl | rfl | rfl | rfl | rfl | rfl | rfl | rfl
    · exact h
    · exact h
    · exact h
    · exact TNum.stab h (agr_none hw hw' hz hS)
    · exact TMat.stab h (agr_none hw hw' hz hS)
    · exact h
    · exact TNt.stab h (agr_none hw hw' hz hS)
    · exact TP6.stab h (agr_none hw hw' hz hS)
    · exact TSn.stab h (agr_none hw hw' hz hS)
  · intro i hi vs w S hb hp hbd hwr hkl _
    have hi' : i < 9 := hi
    rcases (by omega : i = 0 ∨ i = 1 ∨ i = 2 ∨ i = 3 ∨ i = 4 ∨ i = 5 ∨ i = 6 ∨ i = 7 ∨ i = 8) with rfl | rfl | rfl | rfl | rfl | rfl | rfl | rfl | rfl
    · exact wpOp_of _ rfl rfl (op_move rfl rfl ⟨_, fun _ => False, rfl, rfl, fun _ h => h.elim, fun _ _ h => h.elim, Mod.refl _ _⟩)
    · have h : vs 14 = .slice xo xs.length xc := hp 0 (by decide)
      exact wpOp_of _ rfl rfl (op_lenQ rfl rfl h ⟨_, fun _ => False, rfl, rfl, fun _ h => h.elim, fun _ _ h => h.elim, Mod.refl _ _⟩)
    · exact wpOp_of _ rfl rfl (op_move rfl rfl ⟨_, fun _ => False, rfl, rfl, fun _ h => h.elim, fun _ _ h => h.elim, Mod.refl _ _⟩)
    · have h : vs 16 = .slice xo xs.length xc := hp 2 (by decide)
      exact wpOp_of _ rfl rfl (op_call1 enters_clone rfl h (kC w hb) (by rintro e b ⟨v, rfl, s', n', b'⟩; obtain ⟨so, sc, hv⟩ := s'.slice; exact ⟨_, rfl, _, fun q => v.ownBlock = some q ∧ q < b.heap.size, rfl, ⟨so, sc, hv, s', fun q hq => ⟨⟨hq, kL b v s' q hq⟩, Nat.le_trans hb.size (n' q hq)⟩⟩, fun q hq => .inr (.inl ⟨n' q hq.1, hq.2⟩), fun h => by obtain ⟨s9, h9⟩ := h; exact absurd h9.2 (by decide), Mod.of b'⟩))
    · have h1 : vs 15 = .int .i64 (xs.length : Nat) := hp 1 (by decide)
      obtain ⟨so, sc, hv, h2, h3⟩ : TNum w0.heap.size xs (vs 17) (S 3) w := hp 3 (by decide)
      rw [hv] at h2 h3
      exact wpOp_of _ rfl rfl (op_buildM rfl h1 hv ⟨_, S 3, rfl, ⟨so, sc, rfl, h2, h3⟩, fun q hq => .inl ⟨3, by decide, hq⟩, fun h => by obtain ⟨s9, h9⟩ := h; exact absurd h9.2 (by decide), Mod.refl _ _⟩)
    · exact wpOp_of _ rfl rfl (op_loadM rfl rfl (cP w hb).1 (cP w hb).2.1 (cP w hb).2.2 ⟨_, fun _ => False, rfl, rfl, fun _ h => h.elim, fun _ _ h => h.elim, Mod.refl _ _⟩)
    · obtain ⟨so, sc, h1, h2, h3⟩ : TMat w0.heap.size (xs.length : Nat) 1 xs (vs 18) (S 4) w := hp 4 (by decide)
      have h4 : vs 19 = .agg #[.int .i64 r2, .int .i64 c2, .slice po pn pc] := hp 5 (by decide)
      exact wpOp_of _ rfl rfl (op_buildT rfl h1 h4 ⟨_, S 4, rfl, ⟨so, sc, rfl, h2, h3⟩, fun q hq => .inl ⟨4, by decide, hq⟩, fun h => by obtain ⟨s9, h9⟩ := h; exact absurd h9.2 (by decide), Mod.refl _ _⟩)
    · exact wpOp_of _ rfl rfl (op_alloc26 rfl ⟨_, fun b => b = w.heap.size, rfl, ⟨_, rfl, rfl, hb.size, _, _, _, _, _, _, heap_new _ _⟩, fun b h => .inr (.inl (by subst h; simp)), fun _ b h => .inl (by omega), Mod.of (box_below w _)⟩)
    · obtain ⟨D, hD, hSD, hBD, x0, x1, x2, x3, x4, x5, hbl⟩ : TP6 w0.heap.size (vs 8) (S 7) w := hp 7 (by decide)
      obtain ⟨ao, ac, hf, hs, hso⟩ : TNt w0.heap.size (xs.length : Nat) 1 r2 c2 xs (.slice po pn pc) (vs 20) (S 6) w := hp 6 (by decide)
      have hne : ∀ q, (Value.slice ao xs.length ac).ownBlock = some q → q ≠ D := fun q hq e => hkl 7 ⟨rfl, rfl⟩ 6 (by decide) (by decide) D hSD (e ▸ (hso q hq).1)
      refine wpOp_of _ rfl rfl (op_storeT rfl rfl hD hf hbl ?_)
      exact ⟨undef, fun q => q = D ∨ S 6 q, rfl, ⟨D, ao, ac, hD, .inl rfl, hBD, put_six hbl, hs.six hne _ _ _ _ _ _, fun q hq => ⟨.inr (hso q hq).1, (hso q hq).2⟩⟩, fun q hq => hq.elim (fun h => .inl ⟨7, by decide, h ▸ hSD⟩) (fun h => .inl ⟨6, by decide, h⟩), fun h => by obtain ⟨s9, h9⟩ := h; exact absurd h9.2 (by decide), (mod_six _ _ _ _ _ _).mono fun q _ hq => .inr ⟨7, ⟨rfl, rfl⟩, hq ▸ hSD⟩⟩
  · intro vs w S hb hT
    obtain ⟨D, ao, ac, h1, _, h3, h4, h5, h6⟩ : TSn w0.heap.size (xs.length : Nat) 1 r2 c2 xs (.slice po pn pc) (vs 8) (S 8) w := hT 8 (by decide) (fun s h => by omega)
    exact hQ vs D ao ac w hb h1 h3 h4 h5 (fun q hq => (h6 q hq).2)
theorem Qm.diaK_in {d : Nat → Int} {n : Nat} (h : ∀ i, i < n → -70368744177664 ≤ d i ∧ d i ≤ 70368744177663) : AllIn (dia d n) := by
  intro p
  by_cases hp : p < n * n
  · unfold dia
    rw [ge_tab hp]
    have hn : 0 < n := by
      rcases Nat.eq_zero_or_pos n with h0 | h0
      · subst h0; omega
      · exact h0
    have h1 : p / n < n := (Nat.div_lt_iff_lt_mul hn).2 hp
    split
    · exact h _ h1
    · omega
  · have e : ge (dia d n) p = 0 := by unfold ge; rw [List.getD_eq_getElem?_getD, List.getElem?_eq_none (by unfold dia; rw [tab_len]; omega)]; rfl
    rw [e]; omega
theorem Qm.diaK_at {d : Nat → Int} {n i j : Nat} (hi : i < n) (hj : j < n) : ge (dia d n) (i * n + j) = if i = j then d i else 0 := by
  unfold dia
  rw [ge_tab (at_lt hi hj), div_of hj, mod_of hj]
theorem Qm.evB_dia {d : Nat → Int} {n : Nat} (h : ∀ i, i < n → 0 ≤ d i) : evB n (dia d n) = true := by
  unfold evB
  apply decide_eq_true
  intro i hi
  refine ⟨by rw [diaK_at hi hi, if_pos rfl]; exact h i hi, fun k hk => ?_⟩
  rw [diaK_at hi (by omega), diaK_at (by omega) hi, if_neg (by omega), if_neg (by omega)]
set_option maxRecDepth 20000 in
set_option maxHeartbeats 1600000 in
theorem knew_new (vx vv : Value) (xs vs : List Int) (h1 : 1 ≤ vs.length) (h8 : vs.length ≤ 8) (hx : xs.length = vs.length) (ox : AllIn xs) (ov : AllIn vs) (hv : ∀ i, i < vs.length → 0 ≤ ge vs i) (w : World) (sx : Sees w vx xs) (sv : Sees w vv vs) :
    Calls Tryz.prog 39 #[vx, vv] w fun e b => ∃ va vb, e = .returned (.tuple #[.agg #[.int .i64 vs.length, .int .i64 1, va, .int .i64 vs.length, .int .i64 vs.length, vb], .int .i64 0]) ∧ Sees b va xs ∧ Sees b vb (dia (ge vs) vs.length) ∧ New w.heap.size va ∧ New w.heap.size vb ∧ Below w.heap.size w b := by
  have hout : outB vs vs.length = false := anyB_none fun k _ => by have := ov k; unfold ob; simp; omega
  have kD := fun v hs => diag_any vv vs h1 h8 hout v hs
  have px : 0 < xs.length := by omega
  have l1 : xs.length ≤ 100 := by omega
  have ld : (dia (ge vs) vs.length).length = vs.length * vs.length := tab_len _ _
  have l2 : (dia (ge vs) vs.length).length ≤ 100 := by rw [ld]; have := mul_le_64 h8 h8; omega
  have kR := fun va vb v sa sb => kright_any (xs.length : Nat) 1 (vs.length : Nat) (vs.length : Nat) va vb xs (dia (ge vs) vs.length) l1 l2 v sa sb
  have hR : trkB (xs.length : Nat) 1 xs (vs.length : Nat) (vs.length : Nat) (dia (ge vs) vs.length) = true := by
    have r1 : rightB (xs.length : Nat) 1 xs = true := right_mk (R := xs.length) (C := 1) ⟨rfl, rfl, by omega, by omega, by omega, by omega, by omega, ox⟩
    have r2 : rightB (vs.length : Nat) (vs.length : Nat) (dia (ge vs) vs.length) = true := right_mk ⟨rfl, rfl, h1, h8, h1, h8, ld, diaK_in fun i _ => ov i⟩
    unfold trkB
    rw [r1, r2, hx]
    simp [evB_dia hv]
  rw [hR] at kR
  have kC := fun v hs => clone_any vx xs px l1 v hs
  have pd : 0 < (dia (ge vs) vs.length).length := by rw [ld]; exact Nat.mul_pos h1 h1
  obtain ⟨xo, xc, rfl⟩ := sx.slice
  obtain ⟨vo, vc, rfl⟩ := sv.slice
  have bW := box_below w (.cells #[.int .i64 0, .int .i64 0, .slice none 0 0, .int .i64 0, .int .i64 0, .slice none 0 0] 31)
  have x1 := heap_new w (.cells #[.int .i64 0, .int .i64 0, .slice none 0 0, .int .i64 0, .int .i64 0, .slice none 0 0] 31)
  obtain ⟨W, hW⟩ : ∃ W, w.alloc (.cells #[.int .i64 0, .int .i64 0, .slice none 0 0, .int .i64 0, .int .i64 0, .slice none 0 0] 31) = W := ⟨_, rfl⟩
  rw [hW] at bW x1
  have k1 := kD W (sv.below bW)
  have HX : Hid (xs.length = vs.length) := hx
  clear hx hv ox ov hout ld l1 l2 hR kD
  generalize dia (ge vs) vs.length = ds at k1 kR pd ⊢
  generalize vs.length = n at *
  go_enter Tryz.func39, Tryz.ntmps39
  go_wp2_with (go_at_call 84; go_must (refine k1.mono ?_); rintro e wa ⟨va, rfl, sa, na, b1⟩; obtain ⟨ao, ac, rfl⟩ := sa.slice)
  have h6 := heap_new wa (.cells #[.int .i64 n, .int .i64 n, .slice ao ds.length ac] 29)
  have b1' := bt b1 (box_below wa (.cells #[.int .i64 n, .int .i64 n, .slice ao ds.length ac] 29))
  have sa' := sa.alloc (.cells #[.int .i64 n, .int .i64 n, .slice ao ds.length ac] 29)
  generalize wa.alloc (.cells #[.int .i64 n, .int .i64 n, .slice ao ds.length ac] 29) = w0 at h6 b1' sa' ⊢
  have hM : ∀ v, Mod (fun _ => False) w0 v → Below w0.heap.size w0 v := fun v hv => hv.below (Nat.le_refl _) (fun _ h => h.elim)
  refine knw_region (D6 := wa.heap.size) (r2 := n) (c2 := n) (xo := xo) (po := ao) (xc := xc) (pn := ds.length) (pc := ac) (xs := xs) (fun v hv => three_mod (keep (hM v hv) h6)) (fun v hv => kC v (((sx.below bW).below b1').below (hM v hv))) (fun v u hu => hu.lt px) ?_
  intro us D xo' xc' wb mb e8 hD hbD sD nD
  unfold knwFr
  rw [e8]
  have bb := hM wb mb
  have sP := sa'.below bb
  have hR2 := kR _ _ wb sD sP
  have h4 := keep (bt b1' bb) x1
  obtain ⟨c0, c1, c2, c3, c4, c5⟩ := six_cells hbD
  have hDl := lt_of_block hbD
  clear kR kC sa sa' mb
  go_wp2_with (go_at_call 86; go_must (refine hR2.mono ?_); rintro e wc ⟨rfl, b3⟩; obtain ⟨d0, d1, d2, d3, d4, d5⟩ := six_cells (keep b3 hbD); obtain ⟨g0, g1, g2, g3, g4, g5⟩ := six_cells (keep b3 h4); obtain ⟨f0, f1, f2, f3, f4, f5⟩ := six_free (keep b3 h4))
  refine bodyPost_ret (v := .tuple #[.agg #[.int .i64 n, .int .i64 1, .slice xo' xs.length xc', .int .i64 n, .int .i64 n, .slice ao ds.length ac], .int .i64 0]) (by simp [results, Tryz.results39, go_sem, g0, g1, g2, g3, g4, g5, HX.out]) rfl ?_
  have hw0 : w.heap.size < W.heap.size := lt_of_block x1
  have z1 := b1'.size
  have zW := bW.size
  refine ⟨_, _, rfl, ?_, ?_, fun k hk => by have := nD k hk; omega, fun k hk => by have := na k hk; omega, ?_⟩
  · exact (sD.below b3).six (fun k hk => by have := nD k hk; omega) _ _ _ _ _ _
  · exact (sP.below b3).six (fun k hk => by have := na k hk; omega) _ _ _ _ _ _
  · exact below_six (bt bW (bt (bt b1' bb) b3)) (Nat.le_refl _) _ _ _ _ _ _
end Go.Proofs.YtoefekkdjcflmaaGreatDoor
namespace Go.Proofs.YtoefekkdjcflmaaGreatDoor.Et
open Go.RowKit Go.Sort Go.Proofs.YtoefekkdjcflmaaGreatDoor.Qm
def iniE : Es := ⟨fun k => if k = 0 then 16777216 else 0, fun _ => 3, fun _ => 1, fun _ => 3, fun _ => 3, fun _ => [0, 0, 0], fun _ => (dia (ge [1677721600, 167772160, 16777216]) 3), 0, 0, fun _ => 0, false⟩
theorem results_init {w : World} {tmps : Array Value} {D2 : Nat} {cs : List Value} {v : Value} (h2 : tmps.getD 2 undef = .pointer (some ⟨D2, 0, none⟩)) (h3 : tmps.getD 3 undef = v) (l : cs.length = 29)
    (c2 : ∀ j u, cs[j]? = some u → w.cell? ⟨D2, 0 + j, none⟩ = some u) : (results Tryz.f17 tmps).run Tryz.prog w = .ok (.tuple #[.agg cs.toArray, v]) w := by
  have e1 := run_ldV (b := D2) (ag_Est w) (by rw [l]; exact sz_Est w) c2
  have hr : Tryz.f17.results = #[ResultVar.cell 2 35, ResultVar.tmp 3] := Tryz.results17
  unfold results
  rw [hr]
  simp only [Array.mapM_eq_mapM_toList, List.mapM_cons, List.mapM_nil, Sem.run_bind, Sem.run_pure, Sem.run_map, h2, h3, asAddr, e1, Result.andThen_ok]
  rfl
theorem run_make3 (w : World) : Sem.run Tryz.prog (Instr.makeSlice 27 (.int .i64 3) (.int .i64 3)) w = .ok (.slice (some ⟨w.heap.size, 0, none⟩) 3 3) (w.alloc (.cells #[.int .i64 0, .int .i64 0, .int .i64 0] 22)) := by kernel_rfl
theorem set_cells {w : World} {D : Nat} {cs : List Value} {f : Nat → Value} (h : Wk 29 w D f) (l : cs.length = 29) : ∀ j u, cs[j]? = some u → (w.setCells D 0 cs).cell? ⟨D, 0 + j, none⟩ = some u := fun j u hu => by
  have hj : j < 29 := by have := (List.getElem?_eq_some_iff.1 hu).1; omega
  rw [Nat.zero_add]
  refine (Wk.setCells cs 0 w f h).cell hj ?_
  show (if 0 ≤ j ∧ j < 0 + cs.length then cs.getD (j - 0) undef else f j) = u
  rw [if_pos ⟨Nat.zero_le _, by omega⟩, Nat.sub_zero, List.getD_eq_getElem?_getD, hu]; rfl
theorem Wk.there {w : World} {D : Nat} {f : Nat → Value} (h : Wk 29 w D f) : w.there D 0 29 := fun j hj => ⟨by rw [Nat.zero_add, h.cell hj rfl]; rfl, h.frozen _⟩
def iniF (k : Nat) (vx vp : Nat → Value) (j : Nat) : Value :=
  if 4 ≤ j ∧ j < 4 + 6 * k then (if (j - 4) % 6 = 1 then .int .i64 1 else if (j - 4) % 6 = 2 then vx ((j - 4) / 6) else if (j - 4) % 6 = 5 then vp ((j - 4) / 6) else .int .i64 3)
  else (#[.int .i64 16777216, .int .i64 0, .int .i64 0, .int .i64 0, .int .i64 0, .int .i64 0, .slice none 0 0, .int .i64 0, .int .i64 0, .slice none 0 0, .int .i64 0, .int .i64 0, .slice none 0 0, .int .i64 0, .int .i64 0, .slice none 0 0, .int .i64 0, .int .i64 0, .slice none 0 0, .int .i64 0, .int .i64 0, .slice none 0 0, .int .i64 0, .int .i64 0, .int .i64 0, .int .i64 0, .int .i64 0, .int .i64 0, .bool false] : Array Value).getD j undef
def IniI (D k : Nat) (w : World) : Prop := ∃ vx vp : Nat → Value, Wk 29 w D (iniF k vx vp) ∧ ∀ i, i < k → Sees w (vx i) [0, 0, 0] ∧ Sees w (vp i) (dia (ge [1677721600, 167772160, 16777216]) 3) ∧ (∀ q, (vx i).ownBlock = some q → D < q) ∧ (∀ q, (vp i).ownBlock = some q → D < q)
theorem pd_len : (dia (ge [1677721600, 167772160, 16777216]) 3).length = 9 := dia_len _ 3
theorem IniI.below {D k : Nat} {w w' : World} (h : IniI D k w) (hb : Below w.heap.size w w') : IniI D k w' := by
  obtain ⟨vx, vp, h1, h2⟩ := h
  exact ⟨vx, vp, h1.below hb, fun i hi => ⟨(h2 i hi).1.below hb, (h2 i hi).2.1.below hb, (h2 i hi).2.2⟩⟩
theorem ini_step0 {D : Nat} {w : World} {va vb : Value} (h : IniI D 0 w) (sa : Sees w va [0, 0, 0]) (sb : Sees w vb (dia (ge [1677721600, 167772160, 16777216]) 3)) (na : ∀ q, va.ownBlock = some q → D < q) (nb : ∀ q, vb.ownBlock = some q → D < q) : IniI D (0 + 1) ((((((w.setCell ⟨D, 4, none⟩ (.int .i64 3)).setCell ⟨D, 5, none⟩ (.int .i64 1)).setCell ⟨D, 6, none⟩ va).setCell ⟨D, 7, none⟩ (.int .i64 3)).setCell ⟨D, 8, none⟩ (.int .i64 3)).setCell ⟨D, 9, none⟩ vb) := by
  obtain ⟨vx, vp, h1, h2⟩ := h
  have hm : Mod (fun b => b = D) w ((((((w.setCell ⟨D, 4, none⟩ (.int .i64 3)).setCell ⟨D, 5, none⟩ (.int .i64 1)).setCell ⟨D, 6, none⟩ va).setCell ⟨D, 7, none⟩ (.int .i64 3)).setCell ⟨D, 8, none⟩ (.int .i64 3)).setCell ⟨D, 9, none⟩ vb) := (((((mod_set).trans mod_set).trans mod_set).trans mod_set).trans mod_set).trans mod_set
  have tr : ∀ u ys, 0 < List.length ys → Sees w u ys → (∀ q, u.ownBlock = some q → D < q) → Sees ((((((w.setCell ⟨D, 4, none⟩ (.int .i64 3)).setCell ⟨D, 5, none⟩ (.int .i64 1)).setCell ⟨D, 6, none⟩ va).setCell ⟨D, 7, none⟩ (.int .i64 3)).setCell ⟨D, 8, none⟩ (.int .i64 3)).setCell ⟨D, 9, none⟩ vb) u ys := fun u ys hy su hu => su.agree hm.size fun q hq => hm.block q (su.lt hy q hq) (by have := hu q hq; omega)
  refine ⟨at' vx 0 va, at' vp 0 vb, (((((((h1).set 4 _).set 5 _).set 6 _).set 7 _).set 8 _).set 9 _).congr fun j hj => ?_, fun i hi => ?_⟩
  · rcases (by omega : j = 0 ∨ j = 1 ∨ j = 2 ∨ j = 3 ∨ j = 4 ∨ j = 5 ∨ j = 6 ∨ j = 7 ∨ j = 8 ∨ j = 9 ∨ j = 10 ∨ j = 11 ∨ j = 12 ∨ j = 13 ∨ j = 14 ∨ j = 15 ∨ j = 16 ∨ j = 17 ∨ j = 18 ∨ j = 19 ∨ j = 20 ∨ j = 21 ∨ j = 22 ∨ j = 23 ∨ j = 24 ∨ j = 25 ∨ j = 26 ∨ j = 27 ∨ j = 28) with rfl | rfl | rfl | rfl | rfl | rfl | rfl | rfl | rfl | rfl | rfl | rfl | rfl | rfl | rfl | rfl | rfl | rfl | rfl | rfl | rfl | rfl | rfl | rfl | rfl | rfl | rfl | rfl | rfl <;> rfl
  · by_cases e : i = 0
    · subst e
      exact ⟨tr va _ (by decide) sa na, tr vb _ (by rw [pd_len]; decide) sb nb, na, nb⟩
    · have e1 : at' vx 0 va i = vx i := if_neg e
      have e2 : at' vp 0 vb i = vp i := if_neg e
      rw [e1, e2]
      obtain ⟨q1, q2, q3, q4⟩ := h2 i (by omega)
      exact ⟨tr _ _ (by decide) q1 q3, tr _ _ (by rw [pd_len]; decide) q2 q4, q3, q4⟩
theorem ini_step1 {D : Nat} {w : World} {va vb : Value} (h : IniI D 1 w) (sa : Sees w va [0, 0, 0]) (sb : Sees w vb (dia (ge [1677721600, 167772160, 16777216]) 3)) (na : ∀ q, va.ownBlock = some q → D < q) (nb : ∀ q, vb.ownBlock = some q → D < q) : IniI D (1 + 1) ((((((w.setCell ⟨D, 10, none⟩ (.int .i64 3)).setCell ⟨D, 11, none⟩ (.int .i64 1)).setCell ⟨D, 12, none⟩ va).setCell ⟨D, 13, none⟩ (.int .i64 3)).setCell ⟨D, 14, none⟩ (.int .i64 3)).setCell ⟨D, 15, none⟩ vb) := by
  obtain ⟨vx, vp, h1, h2⟩ := h
  have hm : Mod (fun b => b = D) w ((((((w.setCell ⟨D, 10, none⟩ (.int .i64 3)).setCell ⟨D, 11, none⟩ (.int .i64 1)).setCell ⟨D, 12, none⟩ va).setCell ⟨D, 13, none⟩ (.int .i64 3)).setCell ⟨D, 14, none⟩ (.int .i64 3)).setCell ⟨D, 15, none⟩ vb) := (((((mod_set).trans mod_set).trans mod_set).trans mod_set).trans mod_set).trans mod_set
  have tr : ∀ u ys, 0 < List.length ys → Sees w u ys → (∀ q, u.ownBlock = some q → D < q) → Sees ((((((w.setCell ⟨D, 10, none⟩ (.int .i64 3)).setCell ⟨D, 11, none⟩ (.int .i64 1)).setCell ⟨D, 12, none⟩ va).setCell ⟨D, 13, none⟩ (.int .i64 3)).setCell ⟨D, 14, none⟩ (.int .i64 3)).setCell ⟨D, 15, none⟩ vb) u ys := fun u ys hy su hu => su.agree hm.size fun q hq => hm.block q (su.lt hy q hq) (by have := hu q hq; omega)
  refine ⟨at' vx 1 va, at' vp 1 vb, (((((((h1).set 10 _).set 11 _).set 12 _).set 13 _).set 14 _).set 15 _).congr fun j hj => ?_, fun i hi => ?_⟩
  · rcases (by omega : j = 0 ∨ j = 1 ∨ j = 2 ∨ j = 3 ∨ j = 4 ∨ j = 5 ∨ j = 6 ∨ j = 7 ∨ j = 8 ∨ j = 9 ∨ j = 10 ∨ j = 11 ∨ j = 12 ∨ j = 13 ∨ j = 14 ∨ j = 15 ∨ j = 16 ∨ j = 17 ∨ j = 18 ∨ j = 19 ∨ j = 20 ∨ j = 21 ∨ j = 22 ∨ j = 23 ∨ j = 24 ∨ j = 25 ∨ j = 26 ∨ j = 27 ∨ j = 28) with rfl | rfl | rfl | rfl | rfl | rfl | rfl | rfl | rfl | rfl | rfl | rfl | rfl | rfl | rfl | rfl | rfl | rfl | rfl | rfl | rfl | rfl | rfl | rfl | rfl | rfl | rfl | rfl | rfl <;> rfl
  · by_cases e : i = 1
    · subst e
      exact ⟨tr va _ (by decide) sa na, tr vb _ (by rw [pd_len]; decide) sb nb, na, nb⟩
    · have e1 : at' vx 1 va i = vx i := if_neg e
      have e2 : at' vp 1 vb i = vp i := if_neg e
      rw [e1, e2]
      obtain ⟨q1, q2, q3, q4⟩ := h2 i (by omega)
      exact ⟨tr _ _ (by decide) q1 q3, tr _ _ (by rw [pd_len]; decide) q2 q4, q3, q4⟩
theorem ini_step2 {D : Nat} {w : World} {va vb : Value} (h : IniI D 2 w) (sa : Sees w va [0, 0, 0]) (sb : Sees w vb (dia (ge [1677721600, 167772160, 16777216]) 3)) (na : ∀ q, va.ownBlock = some q → D < q) (nb : ∀ q, vb.ownBlock = some q → D < q) : IniI D (2 + 1) ((((((w.setCell ⟨D, 16, none⟩ (.int .i64 3)).setCell ⟨D, 17, none⟩ (.int .i64 1)).setCell ⟨D, 18, none⟩ va).setCell ⟨D, 19, none⟩ (.int .i64 3)).setCell ⟨D, 20, none⟩ (.int .i64 3)).setCell ⟨D, 21, none⟩ vb) := by
  obtain ⟨vx, vp, h1, h2⟩ := h
  have hm : Mod (fun b => b = D) w ((((((w.setCell ⟨D, 16, none⟩ (.int .i64 3)).setCell ⟨D, 17, none⟩ (.int .i64 1)).setCell ⟨D, 18, none⟩ va).setCell ⟨D, 19, none⟩ (.int .i64 3)).setCell ⟨D, 20, none⟩ (.int .i64 3)).setCell ⟨D, 21, none⟩ vb) := (((((mod_set).trans mod_set).trans mod_set).trans mod_set).trans mod_set).trans mod_set
  have tr : ∀ u ys, 0 < List.length ys → Sees w u ys → (∀ q, u.ownBlock = some q → D < q) → Sees ((((((w.setCell ⟨D, 16, none⟩ (.int .i64 3)).setCell ⟨D, 17, none⟩ (.int .i64 1)).setCell ⟨D, 18, none⟩ va).setCell ⟨D, 19, none⟩ (.int .i64 3)).setCell ⟨D, 20, none⟩ (.int .i64 3)).setCell ⟨D, 21, none⟩ vb) u ys := fun u ys hy su hu => su.agree hm.size fun q hq => hm.block q (su.lt hy q hq) (by have := hu q hq; omega)
  refine ⟨at' vx 2 va, at' vp 2 vb, (((((((h1).set 16 _).set 17 _).set 18 _).set 19 _).set 20 _).set 21 _).congr fun j hj => ?_, fun i hi => ?_⟩
  · rcases (by omega : j = 0 ∨ j = 1 ∨ j = 2 ∨ j = 3 ∨ j = 4 ∨ j = 5 ∨ j = 6 ∨ j = 7 ∨ j = 8 ∨ j = 9 ∨ j = 10 ∨ j = 11 ∨ j = 12 ∨ j = 13 ∨ j = 14 ∨ j = 15 ∨ j = 16 ∨ j = 17 ∨ j = 18 ∨ j = 19 ∨ j = 20 ∨ j = 21 ∨ j = 22 ∨ j = 23 ∨ j = 24 ∨ j = 25 ∨ j = 26 ∨ j = 27 ∨ j = 28) with rfl | rfl | rfl | rfl | rfl | rfl | rfl | rfl | rfl | rfl | rfl | rfl | rfl | rfl | rfl | rfl | rfl | rfl | rfl | rfl | rfl | rfl | rfl | rfl | rfl | rfl | rfl | rfl | rfl <;> rfl
  · by_cases e : i = 2
    · subst e
      exact ⟨tr va _ (by decide) sa na, tr vb _ (by rw [pd_len]; decide) sb nb, na, nb⟩
    · have e1 : at' vx 2 va i = vx i := if_neg e
      have e2 : at' vp 2 vb i = vp i := if_neg e
      rw [e1, e2]
      obtain ⟨q1, q2, q3, q4⟩ := h2 i (by omega)
      exact ⟨tr _ _ (by decide) q1 q3, tr _ _ (by rw [pd_len]; decide) q2 q4, q3, q4⟩
end Go.Proofs.YtoefekkdjcflmaaGreatDoor.Et

