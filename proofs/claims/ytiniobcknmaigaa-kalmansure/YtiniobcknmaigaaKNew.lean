/-
  The contract of the code's New, of what may be.
-/
import Derived.Test.YtiniobcknmaigaaKRNw
import Derived.Test.YtiniobcknmaigaaKRgt3
import Derived.Test.YtiniobcknmaigaaDiag
import Derived.Test.YtiniobcknmaigaaFactE
namespace Go.Proofs.Ytiniobcknmaigaa
open Go.RowKit Go.Sort Qm

theorem Qm.diaK_in {d : Nat → Int} {n : Nat} (h : ∀ i, i < n → -70368744177664 ≤ d i ∧ d i ≤ 70368744177663) : AllIn (dia d n) := by
  intro p
  by_cases hp : p < n * n
  · unfold dia
    rw [ge_tab hp]
    have hn : 0 < n := by
      rcases Nat.eq_zero_or_pos n with h0 | h0
      · subst h0; omega
      · exact h0
    have h1 : p / n < n := (Nat.div_lt_iff_lt_mul hn).2 hp
    split
    · exact h _ h1
    · omega
  · have e : ge (dia d n) p = 0 := by unfold ge; rw [List.getD_eq_getElem?_getD, List.getElem?_eq_none (by unfold dia; rw [tab_len]; omega)]; rfl
    rw [e]; omega
theorem Qm.diaK_at {d : Nat → Int} {n i j : Nat} (hi : i < n) (hj : j < n) : ge (dia d n) (i * n + j) = if i = j then d i else 0 := by
  unfold dia
  rw [ge_tab (at_lt hi hj), div_of hj, mod_of hj]
theorem Qm.evB_dia {d : Nat → Int} {n : Nat} (h : ∀ i, i < n → 0 ≤ d i) : evB n (dia d n) = true := by
  unfold evB
  apply decide_eq_true
  intro i hi
  refine ⟨by rw [diaK_at hi hi, if_pos rfl]; exact h i hi, fun k hk => ?_⟩
  rw [diaK_at hi (by omega), diaK_at (by omega) hi, if_neg (by omega), if_neg (by omega)]

theorem sees_bound {w : World} {v : Value} {xs : List Int} (h0 : 0 < xs.length) (h : Sees w v xs) : ∀ q, v.ownBlock = some q → q < w.heap.size := h.lt h0
set_option maxRecDepth 20000 in
set_option maxHeartbeats 1600000 in
theorem knew_ok (vx vv : Value) (xs vs : List Int) (h1 : 1 ≤ vs.length) (h8 : vs.length ≤ 8) (hx : xs.length = vs.length) (ox : AllIn xs) (ov : AllIn vs) (hv : ∀ i, i < vs.length → 0 ≤ ge vs i) (w : World) (sx : Sees w vx xs) (sv : Sees w vv vs) :
    Calls Try.prog 11 #[vx, vv] w fun e b => ∃ va vb, e = .returned (.tuple #[.agg #[.int .i64 vs.length, .int .i64 1, va, .int .i64 vs.length, .int .i64 vs.length, vb], .int .i64 0]) ∧ Sees b va xs ∧ Sees b vb (dia (ge vs) vs.length) ∧ Below w.heap.size w b := by
  have hout : outB vs vs.length = false := anyB_none fun k _ => by have := ov k; unfold ob; simp; omega
  have kD := fun v hs => diag_any vv vs h1 h8 hout v hs
  have px : 0 < xs.length := by omega
  have l1 : xs.length ≤ 100 := by omega
  have ld : (dia (ge vs) vs.length).length = vs.length * vs.length := tab_len _ _
  have l2 : (dia (ge vs) vs.length).length ≤ 100 := by rw [ld]; have := mul_le_64 h8 h8; omega
  have kR := fun va vb v sa sb => kright_any (xs.length : Nat) 1 (vs.length : Nat) (vs.length : Nat) va vb xs (dia (ge vs) vs.length) l1 l2 v sa sb
  have hR : trkB (xs.length : Nat) 1 xs (vs.length : Nat) (vs.length : Nat) (dia (ge vs) vs.length) = true := by
    have r1 : rightB (xs.length : Nat) 1 xs = true := right_mk (R := xs.length) (C := 1) ⟨rfl, rfl, by omega, by omega, by omega, by omega, by omega, ox⟩
    have r2 : rightB (vs.length : Nat) (vs.length : Nat) (dia (ge vs) vs.length) = true := right_mk ⟨rfl, rfl, h1, h8, h1, h8, ld, diaK_in fun i _ => ov i⟩
    unfold trkB
    rw [r1, r2, hx]
    simp [evB_dia hv]
  rw [hR] at kR
  have kC := fun v hs => clone_any vx xs px l1 v hs
  have pd : 0 < (dia (ge vs) vs.length).length := by rw [ld]; exact Nat.mul_pos h1 h1
  obtain ⟨xo, xc, rfl⟩ := sx.slice
  obtain ⟨vo, vc, rfl⟩ := sv.slice
  have bW := box_below w (.cells #[.int .i64 0, .int .i64 0, .slice none 0 0, .int .i64 0, .int .i64 0, .slice none 0 0] 26)
  have x1 := heap_new w (.cells #[.int .i64 0, .int .i64 0, .slice none 0 0, .int .i64 0, .int .i64 0, .slice none 0 0] 26)
  obtain ⟨W, hW⟩ : ∃ W, w.alloc (.cells #[.int .i64 0, .int .i64 0, .slice none 0 0, .int .i64 0, .int .i64 0, .slice none 0 0] 26) = W := ⟨_, rfl⟩
  rw [hW] at bW x1
  have k1 := kD W (sv.below bW)
  have HX : Hid (xs.length = vs.length) := hx
  clear hx hv ox ov hout ld l1 l2 hR kD
  generalize dia (ge vs) vs.length = ds at k1 kR pd ⊢
  generalize vs.length = n at *
  go_enter Try.func11, Try.ntmps11
  go_wp2_with (go_at_call 26; go_must (refine k1.mono ?_); rintro e wa ⟨va, rfl, sa, na, b1⟩; obtain ⟨ao, ac, rfl⟩ := sa.slice)
  have h6 := heap_new wa (.cells #[.int .i64 n, .int .i64 n, .slice ao ds.length ac] 24)
  have b1' := bt b1 (box_below wa (.cells #[.int .i64 n, .int .i64 n, .slice ao ds.length ac] 24))
  have sa' := sa.alloc (.cells #[.int .i64 n, .int .i64 n, .slice ao ds.length ac] 24)
  generalize wa.alloc (.cells #[.int .i64 n, .int .i64 n, .slice ao ds.length ac] 24) = w0 at h6 b1' sa' ⊢
  have hM : ∀ v, Mod (fun _ => False) w0 v → Below w0.heap.size w0 v := fun v hv => hv.below (Nat.le_refl _) (fun _ h => h.elim)
  refine knw_region (D6 := wa.heap.size) (r2 := n) (c2 := n) (xo := xo) (po := ao) (xc := xc) (pn := ds.length) (pc := ac) (xs := xs) (fun v hv => three_mod (keep (hM v hv) h6)) (fun v hv => kC v (((sx.below bW).below b1').below (hM v hv))) (fun v u hu => hu.lt px) ?_
  intro us D xo' xc' wb mb e8 hD hbD sD nD
  unfold knwFr
  rw [e8]
  have bb := hM wb mb
  have sP := sa'.below bb
  have hR2 := kR _ _ wb sD sP
  have h4 := keep (bt b1' bb) x1
  obtain ⟨c0, c1, c2, c3, c4, c5⟩ := six_cells hbD
  have hDl := lt_of_block hbD
  clear kR kC sa sa' mb
  go_wp2_with (go_at_call 15; go_must (refine hR2.mono ?_); rintro e wc ⟨rfl, b3⟩; obtain ⟨d0, d1, d2, d3, d4, d5⟩ := six_cells (keep b3 hbD); obtain ⟨g0, g1, g2, g3, g4, g5⟩ := six_cells (keep b3 h4); obtain ⟨f0, f1, f2, f3, f4, f5⟩ := six_free (keep b3 h4))
  refine bodyPost_ret (v := .tuple #[.agg #[.int .i64 n, .int .i64 1, .slice xo' xs.length xc', .int .i64 n, .int .i64 n, .slice ao ds.length ac], .int .i64 0]) (by simp [results, Try.results11, go_sem, g0, g1, g2, g3, g4, g5, HX.out]) rfl ?_
  have hw0 : w.heap.size < W.heap.size := lt_of_block x1
  have z1 := b1'.size
  refine ⟨_, _, rfl, ?_, ?_, ?_⟩
  · exact (sD.below b3).six (fun k hk => by have := nD k hk; omega) _ _ _ _ _ _
  · exact (sP.below b3).six (fun k hk => by have := na k hk; omega) _ _ _ _ _ _
  · exact below_six (bt bW (bt (bt b1' bb) b3)) (Nat.le_refl _) _ _ _ _ _ _
end Go.Proofs.Ytiniobcknmaigaa
