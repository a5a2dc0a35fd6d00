/-
  The contract of the document's New, of whatever rows; both News answer the same.
-/
import Derived.Test.YtiniobcknmaigaaGRNwR
import Derived.Test.YtiniobcknmaigaaGKNewA
import Derived.Test.YtiniobcknmaigaaG14
import Derived.Test.YtiniobcknmaigaaG09
namespace Go.Proofs.Ytiniobcknmaigaa
open Go.RowKit Go.Sort Qm

set_option maxRecDepth 20000 in
set_option maxHeartbeats 1600000 in
theorem rnew_dno (xo vo : Option Addr) (xn xc vc : Nat) (vs : List Int) (lv : vs.length ≤ 100) (h : ¬ (1 ≤ vs.length ∧ vs.length ≤ 8 ∧ outB vs vs.length = false)) (w : World) (sv : Sees w (.slice vo vs.length vc) vs) :
    Calls Try.prog 12 #[.slice xo xn xc, .slice vo vs.length vc] w fun e b => e = .returned (.tuple #[.agg #[.int .i64 0, .int .i64 0, .slice none 0 0, .int .i64 0, .int .i64 0, .slice none 0 0], .int .i64 1]) ∧ Below w.heap.size w b := by
  have bW := box_below w (.cells #[.int .i64 0, .int .i64 0, .slice none 0 0, .int .i64 0, .int .i64 0, .slice none 0 0] 26)
  have x1 := heap_new w (.cells #[.int .i64 0, .int .i64 0, .slice none 0 0, .int .i64 0, .int .i64 0, .slice none 0 0] 26)
  obtain ⟨W, hW⟩ : ∃ W, w.alloc (.cells #[.int .i64 0, .int .i64 0, .slice none 0 0, .int .i64 0, .int .i64 0, .slice none 0 0] 26) = W := ⟨_, rfl⟩
  rw [hW] at bW x1
  have k1 := rdiag_not _ vs lv h W (sv.below bW)
  clear h lv sv
  go_enter Try.func12, Try.ntmps12
  go_wp2_with (go_at_call 28; go_must (refine k1.mono ?_); rintro e wa ⟨rfl, b1⟩; have bb := bt b1 (box_below wa (.cells #[.int .i64 0, .int .i64 0, .slice none 0 0] 24)); obtain ⟨g0, g1, g2, g3, g4, g5⟩ := six_cells (keep bb x1); obtain ⟨f0, f1, f2, f3, f4, f5⟩ := six_free (keep bb x1))
  refine bodyPost_ret (v := .tuple #[.agg #[.int .i64 0, .int .i64 0, .slice none 0 0, .int .i64 0, .int .i64 0, .slice none 0 0], .int .i64 1]) (by simp [results, Try.results12, go_sem, g0, g1, g2, g3, g4, g5]) rfl ?_
  exact ⟨rfl, below_six (bt bW bb) (Nat.le_refl _) _ _ _ _ _ _⟩
set_option maxRecDepth 20000 in
set_option maxHeartbeats 1600000 in
theorem rnew_lno (xo vo : Option Addr) (xn xc vc : Nat) (vs : List Int) (h1 : 1 ≤ vs.length) (h8 : vs.length ≤ 8) (ho : outB vs vs.length = false) (hx : ¬ xn = vs.length) (w : World) (sv : Sees w (.slice vo vs.length vc) vs) :
    Calls Try.prog 12 #[.slice xo xn xc, .slice vo vs.length vc] w fun e b => e = .returned (.tuple #[.agg #[.int .i64 0, .int .i64 0, .slice none 0 0, .int .i64 0, .int .i64 0, .slice none 0 0], .int .i64 1]) ∧ Below w.heap.size w b := by
  have bW := box_below w (.cells #[.int .i64 0, .int .i64 0, .slice none 0 0, .int .i64 0, .int .i64 0, .slice none 0 0] 26)
  have x1 := heap_new w (.cells #[.int .i64 0, .int .i64 0, .slice none 0 0, .int .i64 0, .int .i64 0, .slice none 0 0] 26)
  obtain ⟨W, hW⟩ : ∃ W, w.alloc (.cells #[.int .i64 0, .int .i64 0, .slice none 0 0, .int .i64 0, .int .i64 0, .slice none 0 0] 26) = W := ⟨_, rfl⟩
  rw [hW] at bW x1
  have k1 := rdiag_any _ vs h1 h8 ho W (sv.below bW)
  clear h1 h8 ho sv
  generalize dia (ge vs) vs.length = ds at k1
  generalize vs.length = n at *
  have hx' : ¬ (xn : Int) = (n : Int) := by omega
  clear hx
  go_enter Try.func12, Try.ntmps12
  go_wp2_with (go_at_call 28; go_must (refine k1.mono ?_); rintro e wa ⟨va, rfl, sa, na, b1⟩; obtain ⟨ao, ac, rfl⟩ := sa.slice; have bb := bt b1 (box_below wa (.cells #[.int .i64 n, .int .i64 n, .slice ao ds.length ac] 24)); obtain ⟨g0, g1, g2, g3, g4, g5⟩ := six_cells (keep bb x1); obtain ⟨f0, f1, f2, f3, f4, f5⟩ := six_free (keep bb x1))
  refine bodyPost_ret (v := .tuple #[.agg #[.int .i64 0, .int .i64 0, .slice none 0 0, .int .i64 0, .int .i64 0, .slice none 0 0], .int .i64 1]) (by simp [results, Try.results12, go_sem, g0, g1, g2, g3, g4, g5]) rfl ?_
  exact ⟨rfl, below_six (bt bW bb) (Nat.le_refl _) _ _ _ _ _ _⟩
set_option maxRecDepth 20000 in
set_option maxHeartbeats 3200000 in
theorem rnew_mid (xo vo : Option Addr) (n xc vc : Nat) (xs vs : List Int) (h1 : 1 ≤ n) (h8 : n ≤ 8) (hx : xs.length = n) (hv : vs.length = n) (ho : outB vs n = false) (w : World) (sx : Sees w (.slice xo n xc) xs) (sv : Sees w (.slice vo n vc) vs) :
    Calls Try.prog 12 #[.slice xo n xc, .slice vo n vc] w fun e b => Below w.heap.size w b ∧
      ((bdB xs vs n = false ∧ ∃ va vb, e = .returned (.tuple #[.agg #[.int .i64 n, .int .i64 1, va, .int .i64 n, .int .i64 n, vb], .int .i64 0]) ∧ Sees b va xs ∧ Sees b vb (dia (ge vs) n)) ∨
       (bdB xs vs n = true ∧ e = .returned (.tuple #[.agg #[.int .i64 0, .int .i64 0, .slice none 0 0, .int .i64 0, .int .i64 0, .slice none 0 0], .int .i64 1]))) := by
  obtain ⟨i0, hi0, hz0, hz1, hz2⟩ := info_parts Try.info33
  have bW := box_below w (.cells #[.int .i64 0, .int .i64 0, .slice none 0 0, .int .i64 0, .int .i64 0, .slice none 0 0] 26)
  have x1 := heap_new w (.cells #[.int .i64 0, .int .i64 0, .slice none 0 0, .int .i64 0, .int .i64 0, .slice none 0 0] 26)
  obtain ⟨W, hW⟩ : ∃ W, w.alloc (.cells #[.int .i64 0, .int .i64 0, .slice none 0 0, .int .i64 0, .int .i64 0, .slice none 0 0] 26) = W := ⟨_, rfl⟩
  rw [hW] at bW x1
  have k1 := rdiag_any (.slice vo n vc) vs (by omega) (by omega) (by rw [hv]; exact ho) W (sv.below bW)
  rw [hv] at k1
  have pd : 0 < (dia (ge vs) n).length := by unfold dia; rw [tab_len]; exact Nat.mul_pos h1 h1
  clear ho
  generalize dia (ge vs) n = ds at k1 pd ⊢
  have HX : Hid (xs.length = n) := hx
  have HV : Hid (vs.length = n) := hv
  clear hx hv
  go_enter Try.func12, Try.ntmps12
  go_wp2_with (go_at_call 28; go_must (refine k1.mono ?_); rintro e wa ⟨va, rfl, sa, na, b1⟩; obtain ⟨ao, ac, rfl⟩ := sa.slice)
  have h6 := heap_new wa (.cells #[.int .i64 n, .int .i64 n, .slice ao ds.length ac] 24)
  have b2 := bt b1 (box_below wa (.cells #[.int .i64 n, .int .i64 n, .slice ao ds.length ac] 24))
  have sa' := sa.alloc (.cells #[.int .i64 n, .int .i64 n, .slice ao ds.length ac] 24)
  obtain ⟨V, hV⟩ : ∃ V, wa.alloc (.cells #[.int .i64 n, .int .i64 n, .slice ao ds.length ac] 24) = V := ⟨_, rfl⟩
  rw [hV] at h6 b2 sa' ⊢
  have tx := (sx.below bW).below b2
  have tv := (sv.below bW).below b2
  have x4 := keep b2 x1
  have hwW : w.heap.size < W.heap.size := lt_of_block x1
  have hWa : W.heap.size ≤ wa.heap.size := b1.size
  have HXO : ∀ q, (Value.slice xo n xc).ownBlock = some q → q < w.heap.size := sx.lt (by have := HX.out; omega)
  clear hV sa k1 b1 sx sv
  go_loopw [8] (fun i wr => ∃ k : Nat, k ≤ n ∧ i = .int .i64 k ∧ Hid (bdB xs vs k = false) ∧ wr = V) (fun i _ => n - (intOf i).toNat)
  case atStart => exact ⟨0, Nat.zero_le _, rfl, rfl, rfl⟩
  case round =>
    obtain ⟨k, hk, rfl, hno, rfl⟩ := hrel
    obtain ⟨g0, g1, g2, g3, g4, g5⟩ := six_cells x4
    obtain ⟨f0, f1, f2, f3, f4, f5⟩ := six_free x4
    by_cases hlt : k < n
    · obtain ⟨ax, rfl, cx⟩ := tx.at k (by have := HX.out; omega)
      obtain ⟨av, rfl, cv⟩ := tv.at k (by have := HV.out; omega)
      have lk : (k : Int) < (n : Int) := by omega
      have hstep : bdB xs vs (k + 1) = (bdB xs vs k || (ob (ge xs k) || decide (ge vs k < 0))) := rfl
      have hhit : (ob (ge xs k) || decide (ge vs k < 0)) = true → bdB xs vs n = true := fun h => anyB_hit hlt h
      rw [hno.out, Bool.false_or] at hstep
      obtain ⟨x, hx⟩ : ∃ x, ge xs k = x := ⟨_, rfl⟩
      obtain ⟨y, hy⟩ : ∃ y, ge vs k = y := ⟨_, rfl⟩
      rw [hx] at cx hstep hhit
      rw [hy] at cv hstep hhit
      clear hx hy tx tv
      cases hob : ob x with
      | true =>
        have hi : inB x = false := by unfold inB; rw [hob]; rfl
        have HO : Hid (bdB xs vs n = true) := hhit (by rw [hob]; rfl)
        clear hhit hstep hob
        go_wp2_with (go_at_call 29; refine (rin_any _ _).mono ?_; rintro e w' ⟨rfl, rfl⟩)
        refine bodyPost_ret (v := .tuple #[.agg #[.int .i64 0, .int .i64 0, .slice none 0 0, .int .i64 0, .int .i64 0, .slice none 0 0], .int .i64 1]) (by simp [results, Try.results12, go_sem, g0, g1, g2, g3, g4, g5]) rfl ?_
        exact ⟨below_six (bt bW b2) (Nat.le_refl _) _ _ _ _ _ _, .inr ⟨HO.out, rfl⟩⟩
      | false =>
        have hi : inB x = true := by unfold inB; rw [hob]; rfl
        by_cases hy : y < 0
        · have HO : Hid (bdB xs vs n = true) := hhit (by rw [hob, decide_eq_true hy]; rfl)
          clear hhit hstep hob
          go_wp2_with (go_at_call 29; refine (rin_any _ _).mono ?_; rintro e w' ⟨rfl, rfl⟩)
          refine bodyPost_ret (v := .tuple #[.agg #[.int .i64 0, .int .i64 0, .slice none 0 0, .int .i64 0, .int .i64 0, .slice none 0 0], .int .i64 1]) (by simp [results, Try.results12, go_sem, g0, g1, g2, g3, g4, g5]) rfl ?_
          exact ⟨below_six (bt bW b2) (Nat.le_refl _) _ _ _ _ _ _, .inr ⟨HO.out, rfl⟩⟩
        · have HO : Hid (bdB xs vs (k + 1) = false) := by show bdB xs vs (k + 1) = false; rw [hstep, hob, decide_eq_false hy]; rfl
          clear hhit hstep hob
          go_wp2_with (go_at_call 29; refine (rin_any _ _).mono ?_; rintro e w' ⟨rfl, rfl⟩)
          go_roundw
          case rel => exact ⟨k + 1, by omega, by go_num, HO, by simp⟩
          case measure => simp [intOf]; omega
    · have e : k = n := by omega
      subst e
      obtain ⟨ax, rfl, _⟩ := tx.at 0 (by have := HX.out; omega)
      have hMo : ∀ v, Mod (fun b => b = w.heap.size) wr v → Below w.heap.size wr v := fun v hv => hv.below (by have := b2.size; omega) (fun q hq => by subst hq; exact Nat.le_refl _)
      have oA : Old wr.heap.size w.heap.size (.slice ao ds.length ac) := fun q hq => ⟨sa'.lt pd q hq, by have := na q hq; omega⟩
      have oX : Old wr.heap.size w.heap.size (.slice (some ax) k xc) := fun q hq => by have g := HXO q hq; have g2 := b2.size; omega
      have hcells : ∀ v, Mod (fun b => b = w.heap.size) wr v → ∀ j u, (xs.map (Value.int .i64))[j]? = some u → v.cell? (ax.add j) = some u := fun v hv => by
        have t' : Sees v (.slice (some ax) xs.length xc) xs := by rw [HX.out]; exact tx.mod oX hv
        exact sees_vals t' rfl
      have hcP := fun v (hv : Mod (fun b => b = w.heap.size) wr v) => three_mod (hv.old h6 (by omega))
      have HL : Hid ((xs.map (Value.int .i64)).length = k * 1) := by show (xs.map (Value.int .i64)).length = k * 1; rw [List.length_map, HX.out, Nat.mul_one]
      clear tx tv oX
      go_wp2
      refine rnw_region (D4 := w.heap.size) (D6 := wa.heap.size) (r2 := k) (c2 := k) (ad := ax) (po := ao) (n := k) (xc := xc) (pn := ds.length) (pc := ac) (xs := xs) (vals := xs.map (Value.int .i64)) hi0 hz0 hz1 hz2 x4 h1 (by omega) HX.out rfl HL.out hcP hcells ?_
      intro us' ao' ac' wb mb e5 hbD sD nD
      unfold rnwFr
      rw [e5]
      have bb := hMo wb mb
      have sP := sa'.mod oA mb
      obtain ⟨c0, c1, c2, c3, c4, c5⟩ := six_cells hbD
      clear hcells hcP mb
      go_wp2
      refine bodyPost_ret (v := .tuple #[.agg #[.int .i64 k, .int .i64 1, .slice ao' xs.length ac', .int .i64 k, .int .i64 k, .slice ao ds.length ac], .int .i64 0]) (by simp [results, Try.results12, go_sem, c0, c1, c2, c3, c4, c5]) rfl ?_
      exact ⟨(bt bW b2).trans bb, .inl ⟨hno.out, _, _, rfl, sD, sP⟩⟩
theorem new_both (xo vo : Option Addr) (xc vc : Nat) (xs vs : List Int) (hst : Value.slice xo xs.length xc = .slice none 0 0 ∨ ∃ a n c, Value.slice xo xs.length xc = .slice (some a) n c) (lx : xs.length ≤ 100) (lv : vs.length ≤ 100) :
    ∃ (r1 c1 r2 c2 : Int) (X P : List Int) (E : Int), X.length ≤ 100 ∧ P.length ≤ 100 ∧
      (∀ v, Sees v (.slice xo xs.length xc) xs → Sees v (.slice vo vs.length vc) vs → Calls Try.prog 11 #[.slice xo xs.length xc, .slice vo vs.length vc] v fun e b =>
        ∃ xo xc po pc, e = .returned (.tuple #[.agg #[.int .i64 r1, .int .i64 c1, .slice xo (List.length X) xc, .int .i64 r2, .int .i64 c2, .slice po (List.length P) pc], .int .i64 E]) ∧ Sees b (.slice xo X.length xc) X ∧ Sees b (.slice po P.length pc) P ∧ Below v.heap.size v b) ∧
      (∀ v, Sees v (.slice xo xs.length xc) xs → Sees v (.slice vo vs.length vc) vs → Calls Try.prog 12 #[.slice xo xs.length xc, .slice vo vs.length vc] v fun e b =>
        ∃ xo xc po pc, e = .returned (.tuple #[.agg #[.int .i64 r1, .int .i64 c1, .slice xo (List.length X) xc, .int .i64 r2, .int .i64 c2, .slice po (List.length P) pc], .int .i64 E]) ∧ Sees b (.slice xo X.length xc) X ∧ Sees b (.slice po P.length pc) P ∧ Below v.heap.size v b) := by
  have nil : ∀ b, Sees b (.slice none 0 0) [] := fun b => ⟨none, 0, rfl, fun k hk => by simp at hk⟩
  by_cases h : newP xs vs
  · obtain ⟨ix, iv, hp⟩ := newP_in h
    obtain ⟨⟨h1, h8, ho⟩, hx, hb⟩ := h
    have ld : (dia (ge vs) vs.length).length = vs.length * vs.length := tab_len _ _
    refine ⟨vs.length, 1, vs.length, vs.length, xs, dia (ge vs) vs.length, 0, lx, by rw [ld]; have := mul_le_64 h8 h8; omega, fun v sx sv => ?_, fun v sx sv => ?_⟩
    · refine (knew_ok _ _ xs vs h1 h8 hx ix iv hp v sx sv).mono ?_
      rintro e b ⟨va, vb, rfl, s1, s2, hb⟩
      obtain ⟨ao, ac, rfl⟩ := s1.slice
      obtain ⟨bo, bc, rfl⟩ := s2.slice
      exact ⟨ao, ac, bo, bc, rfl, s1, s2, hb⟩
    · have k := rnew_mid xo vo vs.length xc vc xs vs h1 h8 hx rfl ho v (by rw [hx] at sx; exact sx) sv
      rw [hx]
      refine k.mono ?_
      rintro e b ⟨hb', ⟨_, va, vb, rfl, s1, s2⟩ | ⟨h2, _⟩⟩
      · obtain ⟨ao, ac, rfl⟩ := s1.slice
        obtain ⟨bo, bc, rfl⟩ := s2.slice
        refine ⟨ao, ac, bo, bc, ?_, ?_, s2, hb'⟩
        · rw [hx]
        · rw [hx] at s1; exact s1
      · rw [hb] at h2; cases h2
  · refine ⟨0, 0, 0, 0, [], [], 1, by simp, by simp, fun v sx sv => ?_, fun v sx sv => ?_⟩
    · refine (knew_no xo vo xc vc xs vs hst lx lv h v sx sv).mono ?_
      rintro e b ⟨rfl, hb⟩
      exact ⟨none, 0, none, 0, rfl, nil b, nil b, hb⟩
    · have out : ∀ (e : Ending) (b : World), (e = .returned (.tuple #[.agg #[.int .i64 0, .int .i64 0, .slice none 0 0, .int .i64 0, .int .i64 0, .slice none 0 0], .int .i64 1]) ∧ Below v.heap.size v b) → ∃ xo xc po pc, e = .returned (.tuple #[.agg #[.int .i64 0, .int .i64 0, .slice xo (List.length ([] : List Int)) xc, .int .i64 0, .int .i64 0, .slice po (List.length ([] : List Int)) pc], .int .i64 1]) ∧ Sees b (.slice xo ([] : List Int).length xc) [] ∧ Sees b (.slice po ([] : List Int).length pc) [] ∧ Below v.heap.size v b := by
        rintro e b ⟨rfl, hb⟩
        exact ⟨none, 0, none, 0, rfl, nil b, nil b, hb⟩
      by_cases hd : 1 ≤ vs.length ∧ vs.length ≤ 8 ∧ outB vs vs.length = false
      · by_cases hx : xs.length = vs.length
        · have k := rnew_mid xo vo vs.length xc vc xs vs hd.1 hd.2.1 hx rfl hd.2.2 v (by rw [hx] at sx; exact sx) sv
          rw [hx]
          refine k.mono fun e b hk => out e b ?_
          obtain ⟨hb', ⟨h2, _⟩ | ⟨_, h3⟩⟩ := hk
          · exact absurd ⟨hd, hx, h2⟩ h
          · exact ⟨h3, hb'⟩
        · exact (rnew_lno xo vo xs.length xc vc vs hd.1 hd.2.1 hd.2.2 hx v sv).mono out
      · exact (rnew_dno xo vo xs.length xc vc vs lv hd v sv).mono out
end Go.Proofs.Ytiniobcknmaigaa
