/-
  The walk of LinkWaits.
-/
import Derived.Test.YtbhgffbmeaomkaaLSh
import Derived.Test.YtbhgffbmeaomkaaRGW
namespace Go.Proofs.Ytbhgffbmeaomkaa.Gr
open Go.RowKit Go.Sort Lm
set_option linter.unusedVariables false
set_option linter.unusedSimpArgs false

set_option maxRecDepth 20000 in
set_option maxHeartbeats 4000000 in
theorem linkWaits_walk (v : Value) (xs : List Int) (w : World) (sx : SeesI w v xs) (lx : xs.length ≤ 100000000000000) (rx : ∀ x ∈ xs, -9223372036854775808 ≤ x ∧ x ≤ 9223372036854775807) :
    Calls Try.prog 9 #[v] w fun e w' => e = .returned (.bool true) ∧ Below w.heap.size w w' := by
  clear rx
  have N1 := fun u => new_any 6 u
  have e1 : newE 6 = 0 := rfl
  have e2 : newL 6 = ⟨6, 0, 0, [], 0⟩ := rfl
  rw [e1, e2] at N1
  have N2 := fun u => new_any 2 u
  have e3 : newE 2 = 0 := rfl
  have e4 : newL 2 = ⟨2, 0, 0, [], 0⟩ := rfl
  rw [e3, e4] at N2
  clear e1 e2 e3 e4
  obtain ⟨xo, xc, rfl⟩ := sx.slice
  obtain ⟨n, hn⟩ : ∃ n, xs.length = n := ⟨_, rfl⟩
  have HN : Hid (xs.length = n) := hn
  rw [hn] at lx sx ⊢
  clear hn
  obtain ⟨B0, hB0⟩ : ∃ B, w.heap.size = B := ⟨_, rfl⟩
  have OLD : Hid (∀ u, Below B0 w u → SeesI u (.slice xo n xc) xs) := fun u h => sx.below (by rw [hB0]; exact h)
  have BB : Below B0 w w := Below.refl _ _
  have LE : B0 ≤ w.heap.size := Nat.le_of_eq hB0.symm
  have LEu : Hid (B0 ≤ w.heap.size) := LE
  rw [hB0]
  clear hB0 sx
  go_enter Try.func9, Try.ntmps9
  go_upto_region 2 with (go_at_call 10; go_must (refine (shown11 _).mono ?_); rintro e w1 ⟨rfl, b1⟩)
  have bb0 := b1
  have BB : Below B0 w w1 := below_up BB LE bb0
  have LE : B0 ≤ w1.heap.size := Nat.le_trans LE bb0.size
  have LEu : Hid (B0 ≤ w1.heap.size) := LE
  clear bb0
  by_cases h8 : 8 < n
  · have d8 : decide ((8 : Int) < (n : Int)) = true := decide_eq_true (by omega)
    go_wp2_with (fail)
    go_ret
    exact ⟨rfl, below_up BB LE (Below.refl _ w1)⟩
  have d8 : decide ((8 : Int) < (n : Int)) = false := decide_eq_false (by omega)
  go_upto_region 5 with (go_at_call 11; go_must (refine (N1 _).mono ?_); rintro e w2 ⟨v2, rfl, ⟨vs2, rfl, sA, nA⟩, b2⟩; obtain ⟨g2, c2, rfl⟩ := slice_of (n := 0) sA rfl)
  obtain ⟨A, hA⟩ : ∃ n, w2.heap.size = n := ⟨_, rfl⟩
  have hbA := box_below w2 (.cells #[.int .i64 6, .int .i64 0, .int .i64 0, .slice g2 0 c2, .int .i64 0] 24)
  have HA0 := heap_new w2 (.cells #[.int .i64 6, .int .i64 0, .int .i64 0, .slice g2 0 c2, .int .i64 0] 24)
  obtain ⟨u1, hu1⟩ : ∃ u, w2.alloc (.cells #[.int .i64 6, .int .i64 0, .int .i64 0, .slice g2 0 c2, .int .i64 0] 24) = u := ⟨_, rfl⟩
  rw [hu1] at hbA HA0
  rw [hA] at HA0 ⊢
  rw [hu1]
  have bb1 := bt (b2) hbA
  have SA := sA.below hbA
  have NA := nA
  have HA : Hid (u1.heap[A]? = _) := HA0
  have BB : Below B0 w u1 := below_up BB LE bb1
  have LE : B0 ≤ u1.heap.size := Nat.le_trans LE bb1.size
  have zA : Hid (B0 ≤ A) := (by rw [← hA]; exact Nat.le_trans LEu.out (b2).size : B0 ≤ A)
  have lAu : Hid (A < u1.heap.size) := lt_of_block HA.out
  have LEu : Hid (B0 ≤ u1.heap.size) := LE
  clear hu1 hbA HA0 hA bb1
  obtain ⟨A1, A2, A3, A4, A5⟩ := five_cells HA.out
  go_upto_region 6 with (go_at_call 11; go_must (refine (N2 _).mono ?_); rintro e w3 ⟨v3, rfl, ⟨vs3, rfl, sC, nC⟩, b3⟩; clear A1 A2 A3 A4 A5; obtain ⟨A1, A2, A3, A4, A5⟩ := five_cells (keep (b3) HA.out); obtain ⟨g3, c3, rfl⟩ := slice_of (n := 0) sC rfl)
  clear A1 A2 A3 A4 A5
  obtain ⟨C, hC⟩ : ∃ n, w3.heap.size = n := ⟨_, rfl⟩
  have hbC := box_below w3 (.cells #[.int .i64 2, .int .i64 0, .int .i64 0, .slice g3 0 c3, .int .i64 0] 24)
  have HC0 := heap_new w3 (.cells #[.int .i64 2, .int .i64 0, .int .i64 0, .slice g3 0 c3, .int .i64 0] 24)
  obtain ⟨u2, hu2⟩ : ∃ u, w3.alloc (.cells #[.int .i64 2, .int .i64 0, .int .i64 0, .slice g3 0 c3, .int .i64 0] 24) = u := ⟨_, rfl⟩
  rw [hu2] at hbC HC0
  rw [hC] at HC0 ⊢
  rw [hu2]
  have bb2 := bt (b3) hbC
  have HA : Hid (u2.heap[A]? = _) := keep bb2 HA.out
  have SA := SA.below bb2
  have SC := sC.below hbC
  have NC := nC
  have qCA : Hid (A < u1.heap.size) := lAu
  have HC : Hid (u2.heap[C]? = _) := HC0
  have BB : Below B0 w u2 := below_up BB LE bb2
  have LE : B0 ≤ u2.heap.size := Nat.le_trans LE bb2.size
  have lAC : Hid (A < C) := (by have := lAu.out; have := (b3).size; omega : A < C)
  have zC : Hid (B0 ≤ C) := (by rw [← hC]; exact Nat.le_trans LEu.out (b3).size : B0 ≤ C)
  have lAu : Hid (A < u2.heap.size) := lt_of_block HA.out
  have lCu : Hid (C < u2.heap.size) := lt_of_block HC.out
  have LEu : Hid (B0 ≤ u2.heap.size) := LE
  clear hu2 hbC HC0 hC bb2
  obtain ⟨A1, A2, A3, A4, A5⟩ := five_cells HA.out
  obtain ⟨C1, C2, C3, C4, C5⟩ := five_cells HC.out
  clear A1 A2 A3 A4 A5 C1 C2 C3 C4 C5
  obtain ⟨Z0, hZ0⟩ : ∃ z, u2.heap.size = z := ⟨_, rfl⟩
  have lAZ : Hid (A < Z0) := (by have := lAu.out; omega : A < Z0)
  have lCZ : Hid (C < Z0) := (by have := lCu.out; omega : C < Z0)
  have HZ0 : Hid (u2.heap.size = Z0) := hZ0
  clear hZ0 N1 N2 d8
  go_wp2_with (fail)
  go_loopw [8] (fun i wr => ∃ (k : Nat) (g : Option Addr) (c : Nat), k ≤ n ∧ i = .int .i64 k ∧ Hid (wr.heap[A]? = some (.cells #[.int .i64 6, .int .i64 0, .int .i64 0, .slice g k c, .int .i64 0] 24 (0, 0))) ∧ Hid (wr.heap[C]? = some (.cells #[.int .i64 2, .int .i64 0, .int .i64 0, .slice g3 0 c3, .int .i64 0] 24 (0, 0))) ∧ Hid (SeesI wr (.slice g k c) (xs.take k)) ∧ Hid (xs.take k = [] ∨ New Z0 (.slice g k c)) ∧ Hid (SeesI wr (.slice g3 0 c3) []) ∧ Below B0 w wr ∧ Z0 ≤ wr.heap.size) (fun i _ => n - (intOf i).toNat)
  case atStart => exact ⟨0, g2, c2, Nat.zero_le _, rfl, HA, HC, SA, .inl (by simp), SC, BB, Nat.le_of_eq HZ0.out.symm⟩
  case round =>
    clear HA HC SA SC BB LE HZ0
    obtain ⟨k, g, c, hk, rfl, HA, HC, SA, NA, SC, BB, LZ⟩ := hrel
    by_cases hlt : k < n
    · have sX := OLD.out wr BB
      obtain ⟨ad, rfl, la, cW⟩ := sX.at k (by rw [HN.out]; exact hlt)
      have cA := five_cells HA.out
      have tk := take_next xs (k := k) (by rw [HN.out]; exact hlt)
      have lk : (xs.take k).length = k := by rw [List.length_take, HN.out]; omega
      have hS := send_any _ ⟨6, 0, 0, xs.take k, 0⟩ (xs.getD k 0) wr.drew (by rw [lk]; omega) ⟨_, rfl, SA.out.drew⟩
      have e1 : sendE ⟨6, 0, 0, xs.take k, 0⟩ = 0 := by unfold sendE fullL; rw [lk, decide_eq_false (by omega)]; rfl
      have e2 : sendL ⟨6, 0, 0, xs.take k, 0⟩ (xs.getD k 0) = ⟨6, 0, 0, xs.take (k + 1), 0⟩ := by unfold sendL fullL; rw [lk, decide_eq_false (by omega)]; simp only [Bool.false_eq_true, if_false]; rw [tk]
      rw [e1, e2] at hS
      have lk2 : (xs.take (k + 1)).length = k + 1 := by rw [List.length_take, HN.out]; omega
      generalize xs.getD k 0 = X at cW hS
      have CW : Hid (_) := cW
      have LK2 : Hid (_) := lk2
      have CAA : Hid (_) := cA
      clear tk lk e1 e2 lk2 cW cA sX la
      go_wp2_with (fail)
      refine rgw9 A 6 0 0 0 6 0 0 0 0 X g k c (k + 1) ad n xc k (by rfl) (by rfl) (by rfl) (by rfl) (by rfl) (by rfl) (by rfl) (by rfl) (by rfl) (by rfl) (by rfl) (by rfl) (by rfl) (by rfl) (by rfl) (by rfl) (by rfl) (by rfl) (by rfl) (by rfl) (by rfl) (by rfl) (by rfl) (by rfl) (by rfl) (by rfl) (by rfl) (by rfl) (by rfl) (by rfl) (by kernel_rfl) _ _ (by show 39 ≤ 86; decide) (by rfl) (by rfl) (by rfl) hlt CAA.out CW.out
        (fun g' c' u => SeesI u (.slice g' (k + 1) c') (xs.take (k + 1)) ∧ New wr.heap.size (.slice g' (k + 1) c') ∧ Below wr.heap.size wr u) (hS.mono ?_) ?_ ?_
      · rintro e w4 ⟨v4, rfl, ⟨vs4, rfl, s4, n4⟩, b4⟩
        obtain ⟨g4, c4, rfl⟩ := slice_of s4 LK2.out
        exact ⟨g4, c4, rfl, s4, n4, bt ((Below.refl _ wr).drew) b4⟩
      · rintro g4 c4 w4 ⟨_, _, b4⟩
        exact ⟨_, _, _, _, _, _, keep b4 HA.out⟩
      · rintro g4 c4 w4 ⟨s4, n4, b4⟩
        simp only [Act.put, List.setIfInBounds_toArray, List.set_cons_zero, List.set_cons_succ]
        have HA' := set_all5 (keep b4 HA.out) (.int .i64 6) (.int .i64 0) (.int .i64 0) (.slice g4 (k + 1) c4) (.int .i64 0)
        have HC' := st5_keep (keep b4 HC.out) (by have := lAC.out; omega : C ≠ A) (.int .i64 6) (.int .i64 0) (.int .i64 0) (.slice g4 (k + 1) c4) (.int .i64 0)
        have SA' := st5_sees s4 (n4.mono LZ) lAZ.out (.int .i64 6) (.int .i64 0) (.int .i64 0) (.slice g4 (k + 1) c4) (.int .i64 0)
        have BB' := st5_below (below_up BB (by have := lAZ.out; have := zA.out; omega) b4) zA.out (by have := b4.size; have := lAZ.out; omega) (.int .i64 6) (.int .i64 0) (.int .i64 0) (.slice g4 (k + 1) c4) (.int .i64 0)
        have LZ' := Nat.le_trans LZ (Nat.le_trans b4.size (gb_all5 w4 A (.int .i64 6) (.int .i64 0) (.int .i64 0) (.slice g4 (k + 1) c4) (.int .i64 0)).size)
        obtain ⟨u9, hu9⟩ : ∃ u, (((((w4).setCell ⟨A, 0, none⟩ (.int .i64 6)).setCell ⟨A, 1, none⟩ (.int .i64 0)).setCell ⟨A, 2, none⟩ (.int .i64 0)).setCell ⟨A, 3, none⟩ (.slice g4 (k + 1) c4)).setCell ⟨A, 4, none⟩ (.int .i64 0) = u := ⟨_, rfl⟩
        rw [hu9] at HA' HC' SA' BB' LZ' ⊢
        clear hu9
        go_wp2_with (fail)
        go_roundw
        case rel => exact ⟨k + 1, g4, c4, by omega, by go_num, HA', HC', SA', .inr (n4.mono LZ), sees_nil SC.out, BB', LZ'⟩
        case measure => simp [intOf]; omega
    · have e : k = n := by omega
      subst e
      have tk : xs.take k = xs := List.take_of_length_le (by rw [HN.out]; omega)
      rw [tk] at SA NA
      clear tk
      have cA := five_cells HA.out
      have cC := five_cells HC.out
      have CAA : Hid (_) := cA
      have CCC : Hid (_) := cC
      have hO := out_any _ ⟨6, 0, 0, xs, 0⟩ wr.drew (by rw [HN.out]; omega) ⟨_, rfl, SA.out.drew⟩
      have e0 : outL ⟨6, 0, 0, xs, 0⟩ = ⟨6, 0, 0, xs, 0⟩ := rfl
      rw [e0] at hO
      obtain ⟨t1, t2⟩ := in_all (o := 2) (o' := 6) (to := 0) (ob := 0) (f := 0) (wt := 0) (ws := xs) (by rw [HN.out]; omega) (by omega) (by omega) (.inl ⟨rfl, rfl⟩) (by omega) (by omega) (.inl rfl)
      have e1 : (0 : Int) + (xs.length : Int) = (k : Int) := by rw [HN.out]; omega
      rw [e1] at t2
      have T1 : Hid (_) := t1
      have T2 : Hid (_) := t2
      clear t1 t2 e0 e1 cA cC
      go_wp2_with (fail)
      refine rgw10 A C 6 0 0 0 2 0 0 0 2 6 0 (k : Int) g g3 k c 0 c3 0 (by rfl) (by rfl) (by rfl) (by rfl) (by rfl) (by rfl) (by rfl) (by rfl) (by rfl) (by rfl) (by rfl) (by rfl) (by rfl) (by rfl) (by rfl) (by rfl) (by rfl) (by rfl) (by rfl) (by rfl) (by rfl) (by rfl) (by rfl) (by rfl) (by rfl) (by rfl) (by rfl) (by kernel_rfl) _ _ (by show 46 ≤ 86; decide) (by rfl) (by rfl) CAA.out CCC.out
        (fun v u => ∃ g' c', v = .agg #[.int .i64 6, .int .i64 0, .int .i64 0, .slice g' k c', .int .i64 0] ∧ SeesI u (.slice g' k c') xs ∧ Below wr.heap.size wr u)
        (fun g' c' vt u => SeesI u (.slice g' 0 c') [] ∧ (∃ gt ct, vt = .slice gt k ct) ∧ SeesI u vt xs ∧ New wr.heap.size vt ∧ Below wr.heap.size wr u) (hO.mono ?_) ?_ ?_ ?_ ?_
      · rintro e w4 ⟨v4, rfl, ⟨vs4, rfl, s4, n4⟩, b4⟩
        obtain ⟨g4, c4, rfl⟩ := slice_of s4 HN.out
        exact ⟨_, rfl, g4, c4, rfl, s4, bt ((Below.refl _ wr).drew) b4⟩
      · rintro v u ⟨_, _, _, _, b4⟩
        exact five_cells (keep b4 HC.out)
      · rintro v u ⟨g', c', rfl, s', b'⟩
        have h := inl_any _ _ ⟨2, 0, 0, [], 0⟩ ⟨6, 0, 0, xs, 0⟩ u (by simp) (by rw [HN.out]; omega) (by simp) (by simp) (by simp) (by simp) ⟨_, rfl, sees_nil SC.out⟩ ⟨_, rfl, s'⟩
        rw [T1.out, T2.out] at h
        refine h.mono ?_
        rintro e w5 ⟨v5, vt5, rfl, ⟨vs5, rfl, s5, n5⟩, sT, nT, b5⟩
        obtain ⟨g5, c5, rfl⟩ := slice_of (n := 0) s5 rfl
        obtain ⟨g6, c6, rfl⟩ := slice_of sT HN.out
        exact ⟨g5, c5, _, rfl, s5, ⟨g6, c6, rfl⟩, sT, nT.mono b'.size, bt b' b5⟩
      · rintro g' c' vt u ⟨_, _, _, _, b'⟩
        exact ⟨_, _, _, _, _, _, keep b' HC.out⟩
      rintro v4 g4 c4 vt w4 ⟨s4, ⟨gt, ct, rfl⟩, sT, nT, b4⟩
      simp only [Act.put, List.setIfInBounds_toArray, List.set_cons_zero, List.set_cons_succ]
      have HC' := set_all5 (keep b4 HC.out) (.int .i64 2) (.int .i64 6) (.int .i64 0) (.slice g4 0 c4) (.int .i64 (k : Int))
      have HA' := st5_keep (keep b4 HA.out) (by have := lAC.out; omega : A ≠ C) (.int .i64 2) (.int .i64 6) (.int .i64 0) (.slice g4 0 c4) (.int .i64 (k : Int))
      have SA' := st5_or (SA.out.below b4) NA.out lCZ.out (.int .i64 2) (.int .i64 6) (.int .i64 0) (.slice g4 0 c4) (.int .i64 (k : Int))
      have ST' := st5_sees sT nT (by have := lCZ.out; omega : C < wr.heap.size) (.int .i64 2) (.int .i64 6) (.int .i64 0) (.slice g4 0 c4) (.int .i64 (k : Int))
      have BB' := st5_below (below_up BB (by have := lAZ.out; have := zA.out; omega) b4) zC.out (by have := b4.size; have := lCZ.out; omega) (.int .i64 2) (.int .i64 6) (.int .i64 0) (.slice g4 0 c4) (.int .i64 (k : Int))
      have LZ' := Nat.le_trans LZ (Nat.le_trans b4.size (gb_all5 w4 C (.int .i64 2) (.int .i64 6) (.int .i64 0) (.slice g4 0 c4) (.int .i64 (k : Int))).size)
      obtain ⟨u9, hu9⟩ : ∃ u, (((((w4).setCell ⟨C, 0, none⟩ (.int .i64 2)).setCell ⟨C, 1, none⟩ (.int .i64 6)).setCell ⟨C, 2, none⟩ (.int .i64 0)).setCell ⟨C, 3, none⟩ (.slice g4 0 c4)).setCell ⟨C, 4, none⟩ (.int .i64 (k : Int)) = u := ⟨_, rfl⟩
      rw [hu9] at HA' HC' SA' ST' BB' LZ' ⊢
      have HA9 : Hid (u9.heap[A]? = _) := HA'
      have HC9 : Hid (u9.heap[C]? = _) := HC'
      have cA := five_cells HA'
      have cC := five_cells HC'
      have CA9 : Hid (_) := cA
      have CC9 : Hid (_) := cC
      clear hu9 HA' HC' cA cC HA HC CAA CCC hO T1 T2
      have hO := out_any _ ⟨2, 6, 0, [], (k : Int)⟩ u9.drew (by simp) ⟨_, rfl, sees_nil s4⟩
      have e0 : outL ⟨2, 6, 0, [], (k : Int)⟩ = ⟨2, 6, 0, [], (k : Int)⟩ := rfl
      rw [e0] at hO
      obtain ⟨t1, t2⟩ := in_heard (o := 6) (o' := 2) (oa := 0) (f := 0) (ws := xs) (by rw [HN.out]; omega) (by omega) (by omega) (.inl ⟨rfl, rfl⟩) (by omega) (by omega)
      have e1 : (0 : Int) + (xs.length : Int) = (k : Int) := by rw [HN.out]; omega
      rw [e1] at t1 t2
      have T1 : Hid (_) := t1
      have T2 : Hid (_) := t2
      clear t1 t2 e0 e1
      go_wp2_with (fail)
      refine rgw11 C A 2 6 0 (k : Int) 6 0 0 0 6 2 (k : Int) 0 g4 g 0 c4 k c 0 (by rfl) (by rfl) (by rfl) (by rfl) (by rfl) (by rfl) (by rfl) (by rfl) (by rfl) (by rfl) (by rfl) (by rfl) (by rfl) (by rfl) (by rfl) (by rfl) (by rfl) (by rfl) (by rfl) (by rfl) (by rfl) (by rfl) (by rfl) (by rfl) (by kernel_rfl) _ _ (by show 53 ≤ 86; decide) (by rfl) (by rfl) CC9.out CA9.out
        (fun v u => ∃ g' c', v = .agg #[.int .i64 2, .int .i64 6, .int .i64 0, .slice g' 0 c', .int .i64 (k : Int)] ∧ SeesI u (.slice g' 0 c') [] ∧ Below u9.heap.size u9 u)
        (fun g' c' vt u => SeesI u (.slice g' 0 c') [] ∧ Below u9.heap.size u9 u) (hO.mono ?_) ?_ ?_ ?_ ?_
      · rintro e w5 ⟨v5, rfl, ⟨vs5, rfl, s5, n5⟩, b5⟩
        obtain ⟨g5, c5, rfl⟩ := slice_of (n := 0) s5 rfl
        exact ⟨_, rfl, g5, c5, rfl, s5, bt ((Below.refl _ u9).drew) b5⟩
      · rintro v u ⟨_, _, _, _, b5⟩
        exact five_cells (keep b5 HA9.out)
      · rintro v u ⟨g', c', rfl, s', b'⟩
        have h := inl_any _ _ ⟨6, 0, 0, xs, 0⟩ ⟨2, 6, 0, [], (k : Int)⟩ u (by rw [HN.out]; omega) (by simp) (by simp) (by simp) (by simp) (by simp) ⟨_, rfl, SA'.below b'⟩ ⟨_, rfl, s'⟩
        rw [T1.out, T2.out] at h
        refine h.mono ?_
        rintro e w5 ⟨v5, vt5, rfl, ⟨vs5, rfl, s5, n5⟩, sT5, nT5, b5⟩
        obtain ⟨g5, c5, rfl⟩ := slice_of (n := 0) s5 rfl
        exact ⟨g5, c5, _, rfl, s5, bt b' b5⟩
      · rintro g' c' vt u ⟨_, b'⟩
        exact ⟨_, _, _, _, _, _, keep b' HA9.out⟩
      rintro v5 g5 c5 vt5 w5 ⟨s5, b5⟩
      simp only [Act.put, List.setIfInBounds_toArray, List.set_cons_zero, List.set_cons_succ]
      have HA := set_all5 (keep b5 HA9.out) (.int .i64 6) (.int .i64 2) (.int .i64 (k : Int)) (.slice g5 0 c5) (.int .i64 0)
      have HC := st5_keep (keep b5 HC9.out) (by have := lAC.out; omega : C ≠ A) (.int .i64 6) (.int .i64 2) (.int .i64 (k : Int)) (.slice g5 0 c5) (.int .i64 0)
      have SC := st5_or (sees_nil s4 : SeesI w5 _ []) (Z := Z0) (.inl rfl) lAZ.out (.int .i64 6) (.int .i64 2) (.int .i64 (k : Int)) (.slice g5 0 c5) (.int .i64 0)
      have ST := st5_sees (ST'.below b5) nT (by have := lAZ.out; omega : A < wr.heap.size) (.int .i64 6) (.int .i64 2) (.int .i64 (k : Int)) (.slice g5 0 c5) (.int .i64 0)
      have BB := st5_below (below_up BB' (by have := lAZ.out; have := zA.out; omega) b5) zA.out (by have := b5.size; have := lAZ.out; omega) (.int .i64 6) (.int .i64 2) (.int .i64 (k : Int)) (.slice g5 0 c5) (.int .i64 0)
      have LZ9 := Nat.le_trans LZ' (Nat.le_trans b5.size (gb_all5 w5 A (.int .i64 6) (.int .i64 2) (.int .i64 (k : Int)) (.slice g5 0 c5) (.int .i64 0)).size)
      obtain ⟨u10, hu10⟩ : ∃ u, (((((w5).setCell ⟨A, 0, none⟩ (.int .i64 6)).setCell ⟨A, 1, none⟩ (.int .i64 2)).setCell ⟨A, 2, none⟩ (.int .i64 (k : Int))).setCell ⟨A, 3, none⟩ (.slice g5 0 c5)).setCell ⟨A, 4, none⟩ (.int .i64 0) = u := ⟨_, rfl⟩
      rw [hu10] at HA HC SC ST BB LZ9 ⊢
      have HA : Hid (u10.heap[A]? = _) := HA
      have HC : Hid (u10.heap[C]? = _) := HC
      have lAu : Hid (A < u10.heap.size) := lt_of_block HA.out
      have lCu : Hid (C < u10.heap.size) := lt_of_block HC.out
      have LE : B0 ≤ u10.heap.size := by have := lAZ.out; have := zA.out; omega
      have LEu : Hid (B0 ≤ u10.heap.size) := LE
      have N0 := nT
      clear hu10 HA9 HC9 CA9 CC9 hO T1 T2 SA' ST'

      obtain ⟨A1, A2, A3, A4, A5⟩ := five_cells HA.out
      obtain ⟨C1, C2, C3, C4, C5⟩ := five_cells HC.out
      have cO := out_any _ ⟨2, 6, 0, [], (k : Int)⟩ u10 (by simp) ⟨_, rfl, SC⟩
      have e0 : outL ⟨2, 6, 0, [], (k : Int)⟩ = ⟨2, 6, 0, [], (k : Int)⟩ := rfl
      rw [e0] at cO
      clear e0
      go_upto_region 13 with (go_at_call 23; go_must (refine (cO).mono ?_); rintro e w12 ⟨v12, rfl, ⟨vs12, rfl, sD, nD⟩, b12⟩; clear A1 A2 A3 A4 A5 C1 C2 C3 C4 C5; obtain ⟨A1, A2, A3, A4, A5⟩ := five_cells (keep (b12) HA.out); obtain ⟨C1, C2, C3, C4, C5⟩ := five_cells (keep (b12) HC.out); obtain ⟨g12, c12, rfl⟩ := slice_of (n := 0) sD rfl)
      clear A1 A2 A3 A4 A5 C1 C2 C3 C4 C5
      obtain ⟨D, hD⟩ : ∃ n, w12.heap.size = n := ⟨_, rfl⟩
      have hbD := box_below w12 (.cells #[.int .i64 2, .int .i64 6, .int .i64 0, .slice g12 0 c12, .int .i64 (k : Int)] 26)
      have HD0 := heap_new w12 (.cells #[.int .i64 2, .int .i64 6, .int .i64 0, .slice g12 0 c12, .int .i64 (k : Int)] 26)
      obtain ⟨u20, hu20⟩ : ∃ u, w12.alloc (.cells #[.int .i64 2, .int .i64 6, .int .i64 0, .slice g12 0 c12, .int .i64 (k : Int)] 26) = u := ⟨_, rfl⟩
      rw [hu20] at hbD HD0
      rw [hD] at HD0 ⊢
      rw [hu20]
      have bb20 := bt (b12) hbD
      have HA : Hid (u20.heap[A]? = _) := keep bb20 HA.out
      have HC : Hid (u20.heap[C]? = _) := keep bb20 HC.out
      have ST := ST.below bb20
      have SD := sD.below hbD
      have ND := nD
      have qDA : Hid (A < u10.heap.size) := lAu
      have qDC : Hid (C < u10.heap.size) := lCu
      have HD : Hid (u20.heap[D]? = _) := HD0
      have BB : Below B0 w u20 := below_up BB LE bb20
      have LE : B0 ≤ u20.heap.size := Nat.le_trans LE bb20.size
      have lAD : Hid (A < D) := (by have := lAu.out; have := (b12).size; omega : A < D)
      have lCD : Hid (C < D) := (by have := lCu.out; have := (b12).size; omega : C < D)
      have zD : Hid (B0 ≤ D) := (by rw [← hD]; exact Nat.le_trans LEu.out (b12).size : B0 ≤ D)
      have lAu : Hid (A < u20.heap.size) := lt_of_block HA.out
      have lCu : Hid (C < u20.heap.size) := lt_of_block HC.out
      have lDu : Hid (D < u20.heap.size) := lt_of_block HD.out
      have LEu : Hid (B0 ≤ u20.heap.size) := LE
      clear hu20 hbD HD0 hD bb20
      obtain ⟨A1, A2, A3, A4, A5⟩ := five_cells HA.out
      obtain ⟨C1, C2, C3, C4, C5⟩ := five_cells HC.out
      obtain ⟨D1, D2, D3, D4, D5⟩ := five_cells HD.out
      have cN := fun (u : World) (h : Below u20.heap.size u20 u) => ints_any _ _ xs xs u (by rw [HN.out]; omega) (by rw [HN.out]; omega) (ST.below h) (OLD.out u (below_up BB LE h))
      rw [decide_eq_true rfl] at cN
      go_wp2_with (go_at_call 21; go_must (refine (cN u20 (Below.refl _ u20)).mono ?_); rintro e w50 ⟨rfl, b50⟩; clear A1 A2 A3 A4 A5 C1 C2 C3 C4 C5 D1 D2 D3 D4 D5; obtain ⟨A1, A2, A3, A4, A5⟩ := five_cells (keep ((bt (Below.refl _ u20) b50)) HA.out); obtain ⟨C1, C2, C3, C4, C5⟩ := five_cells (keep ((bt (Below.refl _ u20) b50)) HC.out); obtain ⟨D1, D2, D3, D4, D5⟩ := five_cells (keep ((bt (Below.refl _ u20) b50)) HD.out))
      go_ret
      exact ⟨rfl, below_up BB LE (bt (Below.refl _ u20) b50)⟩
end Go.Proofs.Ytbhgffbmeaomkaa.Gr
