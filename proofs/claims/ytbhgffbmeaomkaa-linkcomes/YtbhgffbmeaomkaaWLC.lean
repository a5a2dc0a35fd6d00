/-
  The walk of LinkComes.
-/
import Derived.Test.YtbhgffbmeaomkaaLSh
import Derived.Test.YtbhgffbmeaomkaaRGC
import Derived.Test.YtbhgffbmeaomkaaRGD
import Derived.Test.YtbhgffbmeaomkaaRGE
namespace Go.Proofs.Ytbhgffbmeaomkaa.Gr
open Go.RowKit Go.Sort Lm
set_option linter.unusedVariables false
set_option linter.unusedSimpArgs false

set_option maxRecDepth 20000 in
set_option maxHeartbeats 8000000 in
theorem linkComes_walk (v : Value) (xs : List Int) (w : World) (sx : SeesI w v xs) (lx : xs.length ≤ 100000000000000) (rx : ∀ x ∈ xs, -9223372036854775808 ≤ x ∧ x ≤ 9223372036854775807) :
    Calls Try.prog 5 #[v] w fun e w' => e = .returned (.bool true) ∧ Below w.heap.size w w' := by
  clear rx
  have N1 := fun u => new_any 1 u
  have e1 : newE 1 = 0 := rfl
  have e2 : newL 1 = ⟨1, 0, 0, [], 0⟩ := rfl
  rw [e1, e2] at N1
  clear e1 e2
  obtain ⟨xo, xc, rfl⟩ := sx.slice
  obtain ⟨n, hn⟩ : ∃ n, xs.length = n := ⟨_, rfl⟩
  have HN : Hid (xs.length = n) := hn
  rw [hn] at lx sx ⊢
  clear hn
  obtain ⟨B0, hB0⟩ : ∃ B, w.heap.size = B := ⟨_, rfl⟩
  have OLD : Hid (∀ u, Below B0 w u → SeesI u (.slice xo n xc) xs) := fun u h => sx.below (by rw [hB0]; exact h)
  have BB : Below B0 w w := Below.refl _ _
  have LE : B0 ≤ w.heap.size := Nat.le_of_eq hB0.symm
  have LEu : Hid (B0 ≤ w.heap.size) := LE
  rw [hB0]
  clear hB0 sx
  go_enter Try.func5, Try.ntmps5
  go_upto_region 2 with (go_at_call 10; go_must (refine (shown11 _).mono ?_); rintro e w1 ⟨rfl, b1⟩)
  have bb0 := b1
  have BB : Below B0 w w1 := below_up BB LE bb0
  have LE : B0 ≤ w1.heap.size := Nat.le_trans LE bb0.size
  have LEu : Hid (B0 ≤ w1.heap.size) := LE
  clear bb0
  by_cases h8 : 40 < n
  · have d8 : decide ((40 : Int) < (n : Int)) = true := decide_eq_true (by omega)
    go_wp2_with (fail)
    go_ret
    exact ⟨rfl, below_up BB LE (Below.refl _ w1)⟩
  have d8 : decide ((40 : Int) < (n : Int)) = false := decide_eq_false (by omega)
  go_upto_region 5 with (go_at_call 11; go_must (refine (N1 _).mono ?_); rintro e w2 ⟨v2, rfl, ⟨vs2, rfl, sA, nA⟩, b2⟩; obtain ⟨g2, c2, rfl⟩ := slice_of (n := 0) sA rfl)
  obtain ⟨A, hA⟩ : ∃ n, w2.heap.size = n := ⟨_, rfl⟩
  have hbA := box_below w2 (.cells #[.int .i64 1, .int .i64 0, .int .i64 0, .slice g2 0 c2, .int .i64 0] 24)
  have HA0 := heap_new w2 (.cells #[.int .i64 1, .int .i64 0, .int .i64 0, .slice g2 0 c2, .int .i64 0] 24)
  obtain ⟨u1, hu1⟩ : ∃ u, w2.alloc (.cells #[.int .i64 1, .int .i64 0, .int .i64 0, .slice g2 0 c2, .int .i64 0] 24) = u := ⟨_, rfl⟩
  rw [hu1] at hbA HA0
  rw [hA] at HA0 ⊢
  rw [hu1]
  have bb1 := bt (b2) hbA
  have SA := sA.below hbA
  have NA := nA
  have HA : Hid (u1.heap[A]? = _) := HA0
  have BB : Below B0 w u1 := below_up BB LE bb1
  have LE : B0 ≤ u1.heap.size := Nat.le_trans LE bb1.size
  have zA : Hid (B0 ≤ A) := (by rw [← hA]; exact Nat.le_trans LEu.out (b2).size : B0 ≤ A)
  have lAu : Hid (A < u1.heap.size) := lt_of_block HA.out
  have LEu : Hid (B0 ≤ u1.heap.size) := LE
  clear hu1 hbA HA0 hA bb1
  obtain ⟨A1, A2, A3, A4, A5⟩ := five_cells HA.out
  go_upto_region 6 with (go_at_call 11; go_must (refine (N1 _).mono ?_); rintro e w3 ⟨v3, rfl, ⟨vs3, rfl, sC, nC⟩, b3⟩; clear A1 A2 A3 A4 A5; obtain ⟨A1, A2, A3, A4, A5⟩ := five_cells (keep (b3) HA.out); obtain ⟨g3, c3, rfl⟩ := slice_of (n := 0) sC rfl)
  clear A1 A2 A3 A4 A5
  obtain ⟨C, hC⟩ : ∃ n, w3.heap.size = n := ⟨_, rfl⟩
  have hbC := box_below w3 (.cells #[.int .i64 1, .int .i64 0, .int .i64 0, .slice g3 0 c3, .int .i64 0] 24)
  have HC0 := heap_new w3 (.cells #[.int .i64 1, .int .i64 0, .int .i64 0, .slice g3 0 c3, .int .i64 0] 24)
  obtain ⟨u2, hu2⟩ : ∃ u, w3.alloc (.cells #[.int .i64 1, .int .i64 0, .int .i64 0, .slice g3 0 c3, .int .i64 0] 24) = u := ⟨_, rfl⟩
  rw [hu2] at hbC HC0
  rw [hC] at HC0 ⊢
  rw [hu2]
  have bb2 := bt (b3) hbC
  have HA : Hid (u2.heap[A]? = _) := keep bb2 HA.out
  have SA := SA.below bb2
  have SC := sC.below hbC
  have NC := nC
  have qCA : Hid (A < u1.heap.size) := lAu
  have HC : Hid (u2.heap[C]? = _) := HC0
  have BB : Below B0 w u2 := below_up BB LE bb2
  have LE : B0 ≤ u2.heap.size := Nat.le_trans LE bb2.size
  have lAC : Hid (A < C) := (by have := lAu.out; have := (b3).size; omega : A < C)
  have zC : Hid (B0 ≤ C) := (by rw [← hC]; exact Nat.le_trans LEu.out (b3).size : B0 ≤ C)
  have lAu : Hid (A < u2.heap.size) := lt_of_block HA.out
  have lCu : Hid (C < u2.heap.size) := lt_of_block HC.out
  have LEu : Hid (B0 ≤ u2.heap.size) := LE
  clear hu2 hbC HC0 hC bb2
  obtain ⟨A1, A2, A3, A4, A5⟩ := five_cells HA.out
  obtain ⟨C1, C2, C3, C4, C5⟩ := five_cells HC.out
  clear A1 A2 A3 A4 A5 C1 C2 C3 C4 C5
  obtain ⟨Z0, hZ0⟩ : ∃ z, u2.heap.size = z := ⟨_, rfl⟩
  have lAZ : Hid (A < Z0) := (by have := lAu.out; omega : A < Z0)
  have lCZ : Hid (C < Z0) := (by have := lCu.out; omega : C < Z0)
  have HZ0 : Hid (u2.heap.size = Z0) := hZ0
  clear hZ0 N1 d8
  go_wp2_with (fail)
  go_loopw [8, 9] (fun t i wr => ∃ (k f m : Nat) (oa ob : Int) (ga : Option Addr) (ca : Nat) (gb : Option Addr) (cb : Nat), k ≤ n ∧ i = .int .i64 k ∧ Hid (m + f = k) ∧ Hid (k = n → f = n) ∧ Hid (k < n → f = 8 * (k / 8)) ∧ Hid (oa = 0 ∧ f = 0 ∨ oa = 1) ∧ Hid (ob = 0 ∧ f = 0 ∨ ob = 1) ∧ Hid (wr.heap[A]? = some (.cells #[.int .i64 1, .int .i64 oa, .int .i64 (f : Int), .slice ga m ca, .int .i64 0] 24 (0, 0))) ∧ Hid (wr.heap[C]? = some (.cells #[.int .i64 1, .int .i64 ob, .int .i64 0, .slice gb 0 cb, .int .i64 (f : Int)] 24 (0, 0))) ∧ Hid (SeesI wr (.slice ga m ca) ((xs.take k).drop f)) ∧ Hid ((xs.take k).drop f = [] ∨ New Z0 (.slice ga m ca)) ∧ Hid (SeesI wr (.slice gb 0 cb) []) ∧ Hid (wr.ownsRow Z0 2 1 t f ((xs.take f).map vw)) ∧ Below B0 w wr ∧ Z0 ≤ wr.heap.size) (fun _ i _ => n - (intOf i).toNat)
  case atStart => exact ⟨0, 0, 0, 0, 0, g2, c2, g3, c3, Nat.zero_le _, rfl, rfl, fun h => h, fun _ => rfl, .inl ⟨rfl, rfl⟩, .inl ⟨rfl, rfl⟩, HA, HC, SA, .inl (by simp), SC, World.ownsRow_nil _ _ _ _, BB, Nat.le_of_eq HZ0.out.symm⟩
  case round =>
    clear HA HC SA SC BB LE HZ0
    obtain ⟨k, f, m, oa, ob, ga, ca, gb, cb, hk, rfl, HM, HE, HF, HOA, HOB, HA, HC, SA, NA, SC, OT, BB, LZ⟩ := hrel
    by_cases hlt : k < n
    · skip
      have TBr : Hid (∀ k, Value.ownBlock u8 = some k → Z0 ≤ k ∧ k < wr.heap.size) := fun k e => OT.out.lt k e
      have sX := OLD.out wr BB
      obtain ⟨ad, rfl, la, _⟩ := sX.at k (by rw [HN.out]; omega)
      have hm := HM.out
      have hf := HF.out hlt
      have tk : (xs.take k).drop f ++ [xs.getD k 0] = (xs.take (k + 1)).drop f := by rw [← take_next xs (by rw [HN.out]; exact hlt), List.drop_append_of_le_length (by rw [List.length_take, HN.out]; omega)]
      have lk : ((xs.take k).drop f).length = m := by rw [List.length_drop, List.length_take, HN.out]; omega
      have lk2 : ((xs.take (k + 1)).drop f).length = m + 1 := by rw [List.length_drop, List.length_take, HN.out]; omega
      have hS := fun (u : World) (h : Below wr.heap.size wr u) => send_any _ ⟨1, oa, f, (xs.take k).drop f, 0⟩ (xs.getD k 0) u (by rw [lk]; omega) ⟨_, rfl, SA.out.below h⟩
      have e1 : sendE ⟨1, oa, f, (xs.take k).drop f, 0⟩ = 0 := by unfold sendE fullL; rw [lk, decide_eq_false (by omega)]; rfl
      have e2 : sendL ⟨1, oa, f, (xs.take k).drop f, 0⟩ (xs.getD k 0) = ⟨1, oa, f, (xs.take (k + 1)).drop f, 0⟩ := by unfold sendL fullL; rw [lk, decide_eq_false (by omega)]; simp only [Bool.false_eq_true, if_false]; rw [tk]
      rw [e1, e2] at hS
      have cW := fun (u : World) (h : Below wr.heap.size wr u) => (by obtain ⟨ad2, e, _, hc⟩ := (OLD.out u (below_up BB (by have := lAZ.out; have := zA.out; omega) h)).at k (by rw [HN.out]; exact hlt); cases e; exact hc : u.cell? (ad.add k) = some (vw (xs.getD k 0)))
      generalize xs.getD k 0 = X at cW hS
      have LK2 : Hid (((xs.take (k + 1)).drop f).length = m + 1) := lk2
      clear tk lk e1 e2 lk2 sX la hm hf
      go_wp2_with (fail)
      refine rgc10 A 1 oa f 0 1 oa f 0 0 X ga m ca (m + 1) ad n xc k ((xs.take (k + 1)).drop f) (by rfl) (by rfl) (by rfl) (by rfl) (by rfl) (by rfl) (by rfl) (by rfl) (by rfl) (by rfl) (by rfl) (by rfl) (by rfl) (by rfl) (by rfl) (by rfl) (by rfl) (by rfl) (by rfl) (by rfl) (by rfl) (by rfl) (by rfl) (by rfl) (by rfl) (by rfl) (by rfl) (by rfl) (by rfl) (by rfl) (by rfl) (by rfl) (by rfl) (by rfl) (by rfl) (by rfl) (by kernel_rfl) _ _ (by show 48 ≤ 111; decide) (by rfl) (by rfl) (by rfl) hlt HA.out cW (fun u hu => (hS u hu).mono ?_) ?_
      · rintro e w4 ⟨v4, rfl, ⟨vs4, rfl, s4, n4⟩, b4⟩
        obtain ⟨g4, c4, rfl⟩ := slice_of s4 LK2.out
        exact ⟨g4, c4, rfl, s4, n4, b4⟩
      rintro g1 c1 D1 U1 hI
      simp only [Act.put, List.setIfInBounds_toArray, List.set_cons_zero, List.set_cons_succ]
      have LZ0 := LZ
      have HA : Hid (U1.heap[A]? = _) := keep (hI.b) HA.out
      have HC : Hid (U1.heap[C]? = _) := keep (hI.b) HC.out
      have SA : Hid (SeesI U1 _ _) := SA.out.below (hI.b)
      have OT : Hid (U1.ownsRow Z0 2 1 _ _ _) := own_keep OT.out (hI.b)
      have BB : Below B0 w U1 := below_up BB (by have := lAZ.out; have := zA.out; omega) (hI.b)
      have LZ : Z0 ≤ U1.heap.size := Nat.le_trans LZ (hI.b).size
      have z0 := not_frozen5 HA.out 0
      have z1 := not_frozen5 HA.out 1
      have z2 := not_frozen5 HA.out 2
      have z3 := not_frozen5 HA.out 3
      have z4 := not_frozen5 HA.out 4
      obtain ⟨x1, x2, x3, x4, x5⟩ := five_cells HA.out
      obtain ⟨y1, y2, y3, y4, y5⟩ := five_cells (hI.r rfl)
      clear hS cW
      go_upto_region 12 with (fail)
      clear z0 z1 z2 z3 z4 x1 x2 x3 x4 x5
      clear y1 y2 y3 y4 y5
      have WX := Nat.le_trans hI.b.size (gb_all5 U1 A (.int .i64 1) (.int .i64 oa) (.int .i64 (f : Int)) (.slice g1 (m + 1) c1) (.int .i64 0)).size
      have HX := set_all5 HA.out (.int .i64 1) (.int .i64 oa) (.int .i64 (f : Int)) (.slice g1 (m + 1) c1) (.int .i64 0)
      have HO := st5_keep HC.out (by have := lAC.out; omega : C ≠ A) (.int .i64 1) (.int .i64 oa) (.int .i64 (f : Int)) (.slice g1 (m + 1) c1) (.int .i64 0)
      have OX := own_st5 OT.out lAZ.out (.int .i64 1) (.int .i64 oa) (.int .i64 (f : Int)) (.slice g1 (m + 1) c1) (.int .i64 0)
      have BX := st5_below BB zA.out (by have := lAZ.out; omega) (.int .i64 1) (.int .i64 oa) (.int .i64 (f : Int)) (.slice g1 (m + 1) c1) (.int .i64 0)
      have LX := Nat.le_trans LZ (gb_all5 U1 A (.int .i64 1) (.int .i64 oa) (.int .i64 (f : Int)) (.slice g1 (m + 1) c1) (.int .i64 0)).size
      have SX := st5_or ((hI.s1 rfl).1) (.inr ((hI.s1 rfl).2.mono LZ0)) lAZ.out (.int .i64 1) (.int .i64 oa) (.int .i64 (f : Int)) (.slice g1 (m + 1) c1) (.int .i64 0)
      obtain ⟨U2, hU2⟩ : ∃ u, (((((U1).setCell ⟨A, 0, none⟩ (.int .i64 1)).setCell ⟨A, 1, none⟩ (.int .i64 oa)).setCell ⟨A, 2, none⟩ (.int .i64 (f : Int))).setCell ⟨A, 3, none⟩ (.slice g1 (m + 1) c1)).setCell ⟨A, 4, none⟩ (.int .i64 0) = u := ⟨_, rfl⟩
      rw [hU2] at HX HO OX BX LX SX WX ⊢
      have HA : Hid (U2.heap[A]? = _) := HX
      have HC : Hid (U2.heap[C]? = _) := HO
      have OT : Hid (U2.ownsRow Z0 2 1 _ _ _) := OX
      have BB : Below B0 w U2 := BX
      have LZ : Z0 ≤ U2.heap.size := LX
      have SA : Hid (SeesI U2 _ _) := SX
      have NA : Hid ((xs.take (k + 1)).drop f = [] ∨ New Z0 (.slice g1 (m + 1) c1)) := .inr ((hI.s1 rfl).2.mono LZ0)
      clear hU2 HX HO OX BX LX SX
      have NW := (hI.s1 rfl).2
      have WU : wr.heap.size ≤ U2.heap.size := WX
      clear hI
      go_upto_region 14 with (fail)
      have TB0 := TBr.out
      have WU2 : wr.heap.size ≤ U2.heap.size := WU
      by_cases h7 : (k : Int) % 8 = 7
      · have d7 : ((k : Int) % 8 == 7) = true := by rw [h7]; rfl
        have hm := HM.out
        have hf8 := HF.out hlt
        have lw := LK2.out
        have hob : ob = 0 ∧ (f : Int) = 0 ∨ ob = 1 := by have := HOB.out; omega
        have hoa : oa = 0 ∧ (f : Int) = 0 ∨ oa = 1 := by have := HOA.out; omega
        obtain ⟨t1, t2⟩ := in_all (o := 1) (o' := 1) (to := oa) (ob := ob) (f := (f : Int)) (wt := 0) (ws := (xs.take (k + 1)).drop f) (by rw [lw]; omega) (by omega) (by omega) hob (by omega) (by omega) (by omega)
        obtain ⟨t3, t4⟩ := in_heard (o := 1) (o' := 1) (oa := oa) (f := (f : Int)) (ws := (xs.take (k + 1)).drop f) (by rw [lw]; omega) (by omega) (by omega) hoa (by omega) (by omega)
        have e1 : (f : Int) + (((xs.take (k + 1)).drop f).length : Int) = ((k : Int) + 1) := by rw [lw]; omega
        rw [e1] at t2 t3 t4
        obtain ⟨t5, t6⟩ := in_all (o := 1) (o' := 1) (to := 1) (ob := 1) (f := ((k : Int) + 1)) (wt := 0) (ws := []) (by simp) (by omega) (by omega) (.inr rfl) (by omega) (by omega) (.inr rfl)
        obtain ⟨t7, t8⟩ := in_heard (o := 1) (o' := 1) (oa := 1) (f := ((k : Int) + 1)) (ws := []) (by simp) (by omega) (by omega) (.inr rfl) (by omega) (by omega)
        have e2 : ((k : Int) + 1) + (([] : List Int).length : Int) = ((k : Int) + 1) := by simp
        rw [e2] at t6 t7 t8
        have hb8 : m + 1 ≤ 8 := by omega
        have TB : Hid (∀ k, Value.ownBlock u8 = some k → Z0 ≤ k ∧ k < wr.heap.size) := TB0
        have T1 : Hid (_) := t1
        have T2 : Hid (_) := t2
        have T3 : Hid (_) := t3
        have T4 : Hid (_) := t4
        have T5 : Hid (_) := t5
        have T6 : Hid (_) := t6
        have T7 : Hid (_) := t7
        have T8 : Hid (_) := t8
        clear t1 t2 t3 t4 t5 t6 t7 t8 e1 e2 hm hf8 lw hob hoa
        have hk40 : k + 1 ≤ 40 := by omega
        have hf40 : f ≤ 40 := by have := HM.out; omega
        go_upto_region 15 with (fail)
        refine rgc15 A C 1 oa f 0 1 ob 0 f 1 1 0 ((k : Int) + 1) g1 gb (m + 1) c1 0 cb 0 (m + 1) [] ((xs.take (k + 1)).drop f) (by rfl) (by rfl) (by rfl) (by rfl) (by rfl) (by rfl) (by rfl) (by rfl) (by rfl) (by rfl) (by rfl) (by rfl) (by rfl) (by rfl) (by rfl) (by rfl) (by rfl) (by rfl) (by rfl) (by rfl) (by rfl) (by rfl) (by rfl) (by rfl) (by rfl) (by rfl) (by rfl) (by rfl) (by rfl) (by rfl) (by kernel_rfl) _ _ (by show 68 ≤ 111; decide) (by rfl) (by rfl) HA.out HC.out
          (fun v u => ∃ g' c', v = .agg #[.int .i64 1, .int .i64 oa, .int .i64 (f : Int), .slice g' (m + 1) c', .int .i64 0] ∧ SeesI u (.slice g' (m + 1) c') ((xs.take (k + 1)).drop f)) ?_ (fun u hu => (out_any _ ⟨1, oa, (f : Int), (xs.take (k + 1)).drop f, 0⟩ u (by rw [LK2.out]; omega) ⟨_, rfl, SA.out.below hu⟩).mono ?_) ?_ ?_
        · rintro v u u' ⟨g', c', rfl, s'⟩ hb
          exact ⟨g', c', rfl, s'.below hb⟩
        · rintro e w4 ⟨v4, rfl, ⟨vs4, rfl, s4, n4⟩, b4⟩
          obtain ⟨g4, c4, rfl⟩ := slice_of (n := (m + 1)) s4 (by exact LK2.out)
          exact ⟨_, rfl, ⟨g4, c4, rfl, s4⟩, b4⟩
        · rintro v u ⟨g', c', rfl, s'⟩ hu
          have h := inl_any _ _ ⟨1, ob, 0, [], (f : Int)⟩ ⟨1, oa, (f : Int), (xs.take (k + 1)).drop f, 0⟩ u (by simp) (by rw [LK2.out]; omega) (by simp) (by simp) (by simp) (by show (f : Int) ≤ _; omega) ⟨_, rfl, sees_nil SC.out⟩ ⟨_, rfl, s'⟩
          rw [T1.out, T2.out] at h
          refine h.mono ?_
          rintro e w5 ⟨v5, vt5, rfl, ⟨vs5, rfl, s5, n5⟩, sT5, nT5, b5⟩
          obtain ⟨g5, c5, rfl⟩ := slice_of (n := 0) s5 rfl
          obtain ⟨g6, c6, rfl⟩ := slice_of (n := (m + 1)) sT5 (by exact LK2.out)
          exact ⟨g5, c5, g6, c6, rfl, s5, n5, sT5, nT5, b5⟩
        rintro v0 g5 c5 gt ct D2 U3 hJ
        simp only [Act.put, List.setIfInBounds_toArray, List.set_cons_zero, List.set_cons_succ]
        have HA : Hid (U3.heap[A]? = _) := keep (hJ.b) HA.out
        have HC : Hid (U3.heap[C]? = _) := keep (hJ.b) HC.out
        have SA : Hid (SeesI U3 _ _) := SA.out.below (hJ.b)
        have OT : Hid (U3.ownsRow Z0 2 1 _ _ _) := own_keep OT.out (hJ.b)
        have BB : Below B0 w U3 := below_up BB (by have := lAZ.out; have := zA.out; omega) (hJ.b)
        have LZ : Z0 ≤ U3.heap.size := Nat.le_trans LZ (hJ.b).size
        have SC : Hid (SeesI U3 (.slice g5 0 c5) []) := (hJ.s1 rfl).1
        have OTL := OT.out
        clear OT
        go_upto_region 17 with (at_builtin; go_must (refine app64 rfl _ _ rfl Z0 _ f _ rfl OTL LZ _ ((xs.take (k + 1)).drop f) rfl (hJ.s2 rfl).1 (by rw [LK2.out]; omega) ?_); intro v9 U4 OT9 hg9)
        have hne : ∀ b, b < Z0 → some b ≠ Value.ownBlock u8 := fun b hb e => by have := (TB.out b e.symm).1; omega
        have hnw : ∀ b, wr.heap.size ≤ b → some b ≠ Value.ownBlock u8 := fun b hb e => by have := (TB.out b e.symm).2; omega
        have HA : Hid (U4.heap[A]? = _) := (hg9.block A (lt_of_block HA.out) (hne A lAZ.out)).trans HA.out
        have HC : Hid (U4.heap[C]? = _) := (hg9.block C (lt_of_block HC.out) (hne C lCZ.out)).trans HC.out
        have HD := (hg9.block D2 (hJ.d rfl).2 (hnw D2 (Nat.le_trans WU2 (hJ.d rfl).1))).trans (hJ.r rfl)
        have SA : Hid (SeesI U4 _ _) := SA.out.grown NW hg9 (fun k e => (TB.out k e).2)
        have BB : Below B0 w U4 := BB.grown hg9 (by have := lAZ.out; have := zA.out; omega) (fun k e => by have := (TB.out k e).1; have := lAZ.out; have := zA.out; omega)
        have LZ : Z0 ≤ U4.heap.size := Nat.le_trans LZ hg9.size
        have mf : f ≤ k + 1 := by have := HM.out; omega
        have eU : xs.take f ++ (xs.take (k + 1)).drop f = xs.take (k + 1) := by
          have h := List.take_append_drop f (xs.take (k + 1))
          rw [List.take_take, Nat.min_eq_left mf] at h
          exact h
        have eT : (xs.take f).map vw ++ ((xs.take (k + 1)).drop f).map vw = (xs.take (k + 1)).map vw := by rw [← List.map_append, eU]
        rw [eT] at OT9
        have eN : f + ((xs.take (k + 1)).drop f).length = k + 1 := by rw [LK2.out]; have := HM.out; omega
        rw [eN] at OT9
        have OT : Hid (U4.ownsRow Z0 2 1 v9 (k + 1) ((xs.take (k + 1)).map vw)) := OT9
        clear OT9 OTL hg9 eT eU mf eN hne hnw hJ TB
        have z0 := not_frozen5 HC.out 0
        have z1 := not_frozen5 HC.out 1
        have z2 := not_frozen5 HC.out 2
        have z3 := not_frozen5 HC.out 3
        have z4 := not_frozen5 HC.out 4
        obtain ⟨x1, x2, x3, x4, x5⟩ := five_cells HC.out
        obtain ⟨y1, y2, y3, y4, y5⟩ := five_cells HD
        go_upto_region 18 with (fail)
        clear z0 z1 z2 z3 z4 x1 x2 x3 x4 x5
        clear y1 y2 y3 y4 y5 HD
        have HX := set_all5 HC.out (.int .i64 1) (.int .i64 1) (.int .i64 0) (.slice g5 0 c5) (.int .i64 ((k : Int) + 1))
        have HO := st5_keep HA.out (by have := lAC.out; omega : A ≠ C) (.int .i64 1) (.int .i64 1) (.int .i64 0) (.slice g5 0 c5) (.int .i64 ((k : Int) + 1))
        have OX := own_st5 OT.out lCZ.out (.int .i64 1) (.int .i64 1) (.int .i64 0) (.slice g5 0 c5) (.int .i64 ((k : Int) + 1))
        have BX := st5_below BB zC.out (by have := lCZ.out; omega) (.int .i64 1) (.int .i64 1) (.int .i64 0) (.slice g5 0 c5) (.int .i64 ((k : Int) + 1))
        have LX := Nat.le_trans LZ (gb_all5 U4 C (.int .i64 1) (.int .i64 1) (.int .i64 0) (.slice g5 0 c5) (.int .i64 ((k : Int) + 1))).size
        have SX := st5_or SA.out NA.out lCZ.out (.int .i64 1) (.int .i64 1) (.int .i64 0) (.slice g5 0 c5) (.int .i64 ((k : Int) + 1))
        obtain ⟨U5, hU5⟩ : ∃ u, (((((U4).setCell ⟨C, 0, none⟩ (.int .i64 1)).setCell ⟨C, 1, none⟩ (.int .i64 1)).setCell ⟨C, 2, none⟩ (.int .i64 0)).setCell ⟨C, 3, none⟩ (.slice g5 0 c5)).setCell ⟨C, 4, none⟩ (.int .i64 ((k : Int) + 1)) = u := ⟨_, rfl⟩
        rw [hU5] at HX HO OX BX LX SX ⊢
        have HC : Hid (U5.heap[C]? = _) := HX
        have HA : Hid (U5.heap[A]? = _) := HO
        have OT : Hid (U5.ownsRow Z0 2 1 _ _ _) := OX
        have BB : Below B0 w U5 := BX
        have LZ : Z0 ≤ U5.heap.size := LX
        have SA : Hid (SeesI U5 _ _) := SX
        clear hU5 HX HO OX BX LX SX
        go_upto_region 18 with (fail)
        refine rgc18 C A 1 1 0 ((k : Int) + 1) 1 oa f 0 1 1 ((k : Int) + 1) 0 g5 g1 0 c5 (m + 1) c1 0 0 [] [] (by rfl) (by rfl) (by rfl) (by rfl) (by rfl) (by rfl) (by rfl) (by rfl) (by rfl) (by rfl) (by rfl) (by rfl) (by rfl) (by rfl) (by rfl) (by rfl) (by rfl) (by rfl) (by rfl) (by rfl) (by rfl) (by rfl) (by rfl) (by rfl) (by rfl) (by rfl) (by rfl) (by rfl) (by rfl) (by rfl) (by kernel_rfl) _ _ (by show 79 ≤ 111; decide) (by rfl) (by rfl) HC.out HA.out
          (fun v u => ∃ g' c', v = .agg #[.int .i64 1, .int .i64 1, .int .i64 0, .slice g' 0 c', .int .i64 ((k : Int) + 1)] ∧ SeesI u (.slice g' 0 c') []) ?_ (fun u hu => (out_any _ ⟨1, 1, 0, [], ((k : Int) + 1)⟩ u (by simp) ⟨_, rfl, sees_nil SC.out⟩).mono ?_) ?_ ?_
        · rintro v u u' ⟨g', c', rfl, s'⟩ hb
          exact ⟨g', c', rfl, s'.below hb⟩
        · rintro e w4 ⟨v4, rfl, ⟨vs4, rfl, s4, n4⟩, b4⟩
          obtain ⟨g4, c4, rfl⟩ := slice_of (n := 0) s4 (by rfl)
          exact ⟨_, rfl, ⟨g4, c4, rfl, s4⟩, b4⟩
        · rintro v u ⟨g', c', rfl, s'⟩ hu
          have h := inl_any _ _ ⟨1, oa, (f : Int), (xs.take (k + 1)).drop f, 0⟩ ⟨1, 1, 0, [], ((k : Int) + 1)⟩ u (by rw [LK2.out]; omega) (by simp) (by show (0 : Int) ≤ (f : Int); omega) (by show (f : Int) ≤ _; omega) (by simp) (by simp) ⟨_, rfl, SA.out.below hu⟩ ⟨_, rfl, s'⟩
          rw [T3.out, T4.out] at h
          refine h.mono ?_
          rintro e w5 ⟨v5, vt5, rfl, ⟨vs5, rfl, s5, n5⟩, sT5, nT5, b5⟩
          obtain ⟨g5, c5, rfl⟩ := slice_of (n := 0) s5 rfl
          obtain ⟨g6, c6, rfl⟩ := slice_of (n := 0) sT5 (by rfl)
          exact ⟨g5, c5, g6, c6, rfl, s5, n5, sT5, nT5, b5⟩
        rintro v0 g6 c6 gx cx D3 U6 hJ
        simp only [Act.put, List.setIfInBounds_toArray, List.set_cons_zero, List.set_cons_succ]
        have HA : Hid (U6.heap[A]? = _) := keep (hJ.b) HA.out
        have HC : Hid (U6.heap[C]? = _) := keep (hJ.b) HC.out
        have SA : Hid (SeesI U6 _ _) := SA.out.below (hJ.b)
        have OT : Hid (U6.ownsRow Z0 2 1 _ _ _) := own_keep OT.out (hJ.b)
        have BB : Below B0 w U6 := below_up BB (by have := lAZ.out; have := zA.out; omega) (hJ.b)
        have LZ : Z0 ≤ U6.heap.size := Nat.le_trans LZ (hJ.b).size
        have z0 := not_frozen5 HA.out 0
        have z1 := not_frozen5 HA.out 1
        have z2 := not_frozen5 HA.out 2
        have z3 := not_frozen5 HA.out 3
        have z4 := not_frozen5 HA.out 4
        obtain ⟨x1, x2, x3, x4, x5⟩ := five_cells HA.out
        obtain ⟨y1, y2, y3, y4, y5⟩ := five_cells (hJ.r rfl)
        go_upto_region 20 with (fail)
        clear z0 z1 z2 z3 z4 x1 x2 x3 x4 x5
        clear y1 y2 y3 y4 y5
        have HX := set_all5 HA.out (.int .i64 1) (.int .i64 1) (.int .i64 ((k : Int) + 1)) (.slice g6 0 c6) (.int .i64 0)
        have HO := st5_keep HC.out (by have := lAC.out; omega : C ≠ A) (.int .i64 1) (.int .i64 1) (.int .i64 ((k : Int) + 1)) (.slice g6 0 c6) (.int .i64 0)
        have OX := own_st5 OT.out lAZ.out (.int .i64 1) (.int .i64 1) (.int .i64 ((k : Int) + 1)) (.slice g6 0 c6) (.int .i64 0)
        have BX := st5_below BB zA.out (by have := lAZ.out; omega) (.int .i64 1) (.int .i64 1) (.int .i64 ((k : Int) + 1)) (.slice g6 0 c6) (.int .i64 0)
        have LX := Nat.le_trans LZ (gb_all5 U6 A (.int .i64 1) (.int .i64 1) (.int .i64 ((k : Int) + 1)) (.slice g6 0 c6) (.int .i64 0)).size
        have SX := st5_or ((hJ.s1 rfl).1) (.inl rfl) lAZ.out (.int .i64 1) (.int .i64 1) (.int .i64 ((k : Int) + 1)) (.slice g6 0 c6) (.int .i64 0)
        obtain ⟨U7, hU7⟩ : ∃ u, (((((U6).setCell ⟨A, 0, none⟩ (.int .i64 1)).setCell ⟨A, 1, none⟩ (.int .i64 1)).setCell ⟨A, 2, none⟩ (.int .i64 ((k : Int) + 1))).setCell ⟨A, 3, none⟩ (.slice g6 0 c6)).setCell ⟨A, 4, none⟩ (.int .i64 0) = u := ⟨_, rfl⟩
        rw [hU7] at HX HO OX BX LX SX ⊢
        have HA : Hid (U7.heap[A]? = _) := HX
        have HC : Hid (U7.heap[C]? = _) := HO
        have OT : Hid (U7.ownsRow Z0 2 1 _ _ _) := OX
        have BB : Below B0 w U7 := BX
        have LZ : Z0 ≤ U7.heap.size := LX
        have SA : Hid (SeesI U7 _ _) := SX
        have NA : Hid (([] : List Int) = [] ∨ New Z0 (.slice g6 0 c6)) := .inl rfl
        clear hU7 HX HO OX BX LX SX
        clear hJ
        go_upto_region 20 with (fail)
        refine rgc20 A C 1 1 ((k : Int) + 1) 0 1 1 0 ((k : Int) + 1) 1 1 0 ((k : Int) + 1) g6 g5 0 c6 0 c5 0 0 [] [] (by rfl) (by rfl) (by rfl) (by rfl) (by rfl) (by rfl) (by rfl) (by rfl) (by rfl) (by rfl) (by rfl) (by rfl) (by rfl) (by rfl) (by rfl) (by rfl) (by rfl) (by rfl) (by rfl) (by rfl) (by rfl) (by rfl) (by rfl) (by rfl) (by rfl) (by rfl) (by rfl) (by rfl) (by rfl) (by rfl) (by kernel_rfl) _ _ (by show 87 ≤ 111; decide) (by rfl) (by rfl) HA.out HC.out
          (fun v u => ∃ g' c', v = .agg #[.int .i64 1, .int .i64 1, .int .i64 ((k : Int) + 1), .slice g' 0 c', .int .i64 0] ∧ SeesI u (.slice g' 0 c') []) ?_ (fun u hu => (out_any _ ⟨1, 1, ((k : Int) + 1), [], 0⟩ u (by simp) ⟨_, rfl, SA.out.below hu⟩).mono ?_) ?_ ?_
        · rintro v u u' ⟨g', c', rfl, s'⟩ hb
          exact ⟨g', c', rfl, s'.below hb⟩
        · rintro e w4 ⟨v4, rfl, ⟨vs4, rfl, s4, n4⟩, b4⟩
          obtain ⟨g4, c4, rfl⟩ := slice_of (n := 0) s4 (by rfl)
          exact ⟨_, rfl, ⟨g4, c4, rfl, s4⟩, b4⟩
        · rintro v u ⟨g', c', rfl, s'⟩ hu
          have h := inl_any _ _ ⟨1, 1, 0, [], ((k : Int) + 1)⟩ ⟨1, 1, ((k : Int) + 1), [], 0⟩ u (by simp) (by simp) (by simp) (by simp) (by show (0 : Int) ≤ ((k : Int) + 1); omega) (by show ((k : Int) + 1) ≤ _; omega) ⟨_, rfl, sees_nil SC.out⟩ ⟨_, rfl, s'⟩
          rw [T5.out, T6.out] at h
          refine h.mono ?_
          rintro e w5 ⟨v5, vt5, rfl, ⟨vs5, rfl, s5, n5⟩, sT5, nT5, b5⟩
          obtain ⟨g5, c5, rfl⟩ := slice_of (n := 0) s5 rfl
          obtain ⟨g6, c6, rfl⟩ := slice_of (n := 0) sT5 (by rfl)
          exact ⟨g5, c5, g6, c6, rfl, s5, n5, sT5, nT5, b5⟩
        rintro v0 g7 c7 gy cy D4 U8 hJ
        simp only [Act.put, List.setIfInBounds_toArray, List.set_cons_zero, List.set_cons_succ]
        have HA : Hid (U8.heap[A]? = _) := keep (hJ.b) HA.out
        have HC : Hid (U8.heap[C]? = _) := keep (hJ.b) HC.out
        have SA : Hid (SeesI U8 _ _) := SA.out.below (hJ.b)
        have OT : Hid (U8.ownsRow Z0 2 1 _ _ _) := own_keep OT.out (hJ.b)
        have BB : Below B0 w U8 := below_up BB (by have := lAZ.out; have := zA.out; omega) (hJ.b)
        have LZ : Z0 ≤ U8.heap.size := Nat.le_trans LZ (hJ.b).size
        have z0 := not_frozen5 HC.out 0
        have z1 := not_frozen5 HC.out 1
        have z2 := not_frozen5 HC.out 2
        have z3 := not_frozen5 HC.out 3
        have z4 := not_frozen5 HC.out 4
        obtain ⟨x1, x2, x3, x4, x5⟩ := five_cells HC.out
        obtain ⟨y1, y2, y3, y4, y5⟩ := five_cells (hJ.r rfl)
        go_upto_region 22 with (fail)
        clear z0 z1 z2 z3 z4 x1 x2 x3 x4 x5
        clear y1 y2 y3 y4 y5
        have HX := set_all5 HC.out (.int .i64 1) (.int .i64 1) (.int .i64 0) (.slice g7 0 c7) (.int .i64 ((k : Int) + 1))
        have HO := st5_keep HA.out (by have := lAC.out; omega : A ≠ C) (.int .i64 1) (.int .i64 1) (.int .i64 0) (.slice g7 0 c7) (.int .i64 ((k : Int) + 1))
        have OX := own_st5 OT.out lCZ.out (.int .i64 1) (.int .i64 1) (.int .i64 0) (.slice g7 0 c7) (.int .i64 ((k : Int) + 1))
        have BX := st5_below BB zC.out (by have := lCZ.out; omega) (.int .i64 1) (.int .i64 1) (.int .i64 0) (.slice g7 0 c7) (.int .i64 ((k : Int) + 1))
        have LX := Nat.le_trans LZ (gb_all5 U8 C (.int .i64 1) (.int .i64 1) (.int .i64 0) (.slice g7 0 c7) (.int .i64 ((k : Int) + 1))).size
        have SX := st5_or SA.out NA.out lCZ.out (.int .i64 1) (.int .i64 1) (.int .i64 0) (.slice g7 0 c7) (.int .i64 ((k : Int) + 1))
        obtain ⟨U9, hU9⟩ : ∃ u, (((((U8).setCell ⟨C, 0, none⟩ (.int .i64 1)).setCell ⟨C, 1, none⟩ (.int .i64 1)).setCell ⟨C, 2, none⟩ (.int .i64 0)).setCell ⟨C, 3, none⟩ (.slice g7 0 c7)).setCell ⟨C, 4, none⟩ (.int .i64 ((k : Int) + 1)) = u := ⟨_, rfl⟩
        rw [hU9] at HX HO OX BX LX SX ⊢
        have HC : Hid (U9.heap[C]? = _) := HX
        have HA : Hid (U9.heap[A]? = _) := HO
        have OT : Hid (U9.ownsRow Z0 2 1 _ _ _) := OX
        have BB : Below B0 w U9 := BX
        have LZ : Z0 ≤ U9.heap.size := LX
        have SA : Hid (SeesI U9 _ _) := SX
        clear hU9 HX HO OX BX LX SX
        have SC : Hid (SeesI U8 (.slice g7 0 c7) []) := (hJ.s1 rfl).1
        clear hJ
        go_upto_region 22 with (fail)
        refine rgc22 C A 1 1 0 ((k : Int) + 1) 1 1 ((k : Int) + 1) 0 1 1 ((k : Int) + 1) 0 g7 g6 0 c7 0 c6 0 0 [] [] (by rfl) (by rfl) (by rfl) (by rfl) (by rfl) (by rfl) (by rfl) (by rfl) (by rfl) (by rfl) (by rfl) (by rfl) (by rfl) (by rfl) (by rfl) (by rfl) (by rfl) (by rfl) (by rfl) (by rfl) (by rfl) (by rfl) (by rfl) (by rfl) (by rfl) (by rfl) (by rfl) (by rfl) (by rfl) (by rfl) (by kernel_rfl) _ _ (by show 95 ≤ 111; decide) (by rfl) (by rfl) HC.out HA.out
          (fun v u => ∃ g' c', v = .agg #[.int .i64 1, .int .i64 1, .int .i64 0, .slice g' 0 c', .int .i64 ((k : Int) + 1)] ∧ SeesI u (.slice g' 0 c') []) ?_ (fun u hu => (out_any _ ⟨1, 1, 0, [], ((k : Int) + 1)⟩ u (by simp) ⟨_, rfl, sees_nil SC.out⟩).mono ?_) ?_ ?_
        · rintro v u u' ⟨g', c', rfl, s'⟩ hb
          exact ⟨g', c', rfl, s'.below hb⟩
        · rintro e w4 ⟨v4, rfl, ⟨vs4, rfl, s4, n4⟩, b4⟩
          obtain ⟨g4, c4, rfl⟩ := slice_of (n := 0) s4 (by rfl)
          exact ⟨_, rfl, ⟨g4, c4, rfl, s4⟩, b4⟩
        · rintro v u ⟨g', c', rfl, s'⟩ hu
          have h := inl_any _ _ ⟨1, 1, ((k : Int) + 1), [], 0⟩ ⟨1, 1, 0, [], ((k : Int) + 1)⟩ u (by simp) (by simp) (by show (0 : Int) ≤ ((k : Int) + 1); omega) (by show ((k : Int) + 1) ≤ _; omega) (by simp) (by simp) ⟨_, rfl, SA.out.below hu⟩ ⟨_, rfl, s'⟩
          rw [T7.out, T8.out] at h
          refine h.mono ?_
          rintro e w5 ⟨v5, vt5, rfl, ⟨vs5, rfl, s5, n5⟩, sT5, nT5, b5⟩
          obtain ⟨g5, c5, rfl⟩ := slice_of (n := 0) s5 rfl
          obtain ⟨g6, c6, rfl⟩ := slice_of (n := 0) sT5 (by rfl)
          exact ⟨g5, c5, g6, c6, rfl, s5, n5, sT5, nT5, b5⟩
        rintro v0 g8 c8 gz cz D5 U10 hJ
        simp only [Act.put, List.setIfInBounds_toArray, List.set_cons_zero, List.set_cons_succ]
        have HA : Hid (U10.heap[A]? = _) := keep (hJ.b) HA.out
        have HC : Hid (U10.heap[C]? = _) := keep (hJ.b) HC.out
        have SA : Hid (SeesI U10 _ _) := SA.out.below (hJ.b)
        have OT : Hid (U10.ownsRow Z0 2 1 _ _ _) := own_keep OT.out (hJ.b)
        have BB : Below B0 w U10 := below_up BB (by have := lAZ.out; have := zA.out; omega) (hJ.b)
        have LZ : Z0 ≤ U10.heap.size := Nat.le_trans LZ (hJ.b).size
        have z0 := not_frozen5 HA.out 0
        have z1 := not_frozen5 HA.out 1
        have z2 := not_frozen5 HA.out 2
        have z3 := not_frozen5 HA.out 3
        have z4 := not_frozen5 HA.out 4
        obtain ⟨x1, x2, x3, x4, x5⟩ := five_cells HA.out
        obtain ⟨y1, y2, y3, y4, y5⟩ := five_cells (hJ.r rfl)
        go_upto_region 24 with (fail)
        clear z0 z1 z2 z3 z4 x1 x2 x3 x4 x5
        clear y1 y2 y3 y4 y5
        have HX := set_all5 HA.out (.int .i64 1) (.int .i64 1) (.int .i64 ((k : Int) + 1)) (.slice g8 0 c8) (.int .i64 0)
        have HO := st5_keep HC.out (by have := lAC.out; omega : C ≠ A) (.int .i64 1) (.int .i64 1) (.int .i64 ((k : Int) + 1)) (.slice g8 0 c8) (.int .i64 0)
        have OX := own_st5 OT.out lAZ.out (.int .i64 1) (.int .i64 1) (.int .i64 ((k : Int) + 1)) (.slice g8 0 c8) (.int .i64 0)
        have BX := st5_below BB zA.out (by have := lAZ.out; omega) (.int .i64 1) (.int .i64 1) (.int .i64 ((k : Int) + 1)) (.slice g8 0 c8) (.int .i64 0)
        have LX := Nat.le_trans LZ (gb_all5 U10 A (.int .i64 1) (.int .i64 1) (.int .i64 ((k : Int) + 1)) (.slice g8 0 c8) (.int .i64 0)).size
        have SX := st5_or ((hJ.s1 rfl).1) (.inl rfl) lAZ.out (.int .i64 1) (.int .i64 1) (.int .i64 ((k : Int) + 1)) (.slice g8 0 c8) (.int .i64 0)
        obtain ⟨U11, hU11⟩ : ∃ u, (((((U10).setCell ⟨A, 0, none⟩ (.int .i64 1)).setCell ⟨A, 1, none⟩ (.int .i64 1)).setCell ⟨A, 2, none⟩ (.int .i64 ((k : Int) + 1))).setCell ⟨A, 3, none⟩ (.slice g8 0 c8)).setCell ⟨A, 4, none⟩ (.int .i64 0) = u := ⟨_, rfl⟩
        rw [hU11] at HX HO OX BX LX SX ⊢
        have HA : Hid (U11.heap[A]? = _) := HX
        have HC : Hid (U11.heap[C]? = _) := HO
        have OT : Hid (U11.ownsRow Z0 2 1 _ _ _) := OX
        have BB : Below B0 w U11 := BX
        have LZ : Z0 ≤ U11.heap.size := LX
        have SA : Hid (SeesI U11 _ _) := SX
        have NA : Hid (([] : List Int) = [] ∨ New Z0 (.slice g8 0 c8)) := .inl rfl
        clear hU11 HX HO OX BX LX SX
        clear hJ
        have z0 := not_frozen5 HA.out 0
        have z1 := not_frozen5 HA.out 1
        have z2 := not_frozen5 HA.out 2
        have z3 := not_frozen5 HA.out 3
        have z4 := not_frozen5 HA.out 4
        obtain ⟨x1, x2, x3, x4, x5⟩ := five_cells HA.out
        go_wp2_with (fail)
        have ek : (k : Int) + 1 = ((k + 1 : Nat) : Int) := by omega
        rw [ek] at HA HC
        go_roundw
        case rel => exact ⟨k + 1, k + 1, 0, 1, 1, g8, c8, g7, c7, by omega, by go_num, (by omega : 0 + (k + 1) = k + 1), (fun h => h), (fun h => by omega), .inr rfl, .inr rfl, HA, HC, (by rw [List.drop_eq_nil_of_le (by rw [List.length_take]; omega)]; exact SA), .inl (List.drop_eq_nil_of_le (by rw [List.length_take]; omega)), sees_nil SC.out, OT, BB, LZ⟩
        case measure => simp [intOf]; omega
      · have d7 : ((k : Int) % 8 == 7) = false := by simpa using h7
        by_cases hl : k + 1 = n
        · have dl : ((k : Int) == (n : Int) - 1) = true := by simp; omega
          have hm := HM.out
          have hf8 := HF.out hlt
          have lw := LK2.out
          have hob : ob = 0 ∧ (f : Int) = 0 ∨ ob = 1 := by have := HOB.out; omega
          have hoa : oa = 0 ∧ (f : Int) = 0 ∨ oa = 1 := by have := HOA.out; omega
          obtain ⟨t1, t2⟩ := in_all (o := 1) (o' := 1) (to := oa) (ob := ob) (f := (f : Int)) (wt := 0) (ws := (xs.take (k + 1)).drop f) (by rw [lw]; omega) (by omega) (by omega) hob (by omega) (by omega) (by omega)
          obtain ⟨t3, t4⟩ := in_heard (o := 1) (o' := 1) (oa := oa) (f := (f : Int)) (ws := (xs.take (k + 1)).drop f) (by rw [lw]; omega) (by omega) (by omega) hoa (by omega) (by omega)
          have e1 : (f : Int) + (((xs.take (k + 1)).drop f).length : Int) = ((k : Int) + 1) := by rw [lw]; omega
          rw [e1] at t2 t3 t4
          obtain ⟨t5, t6⟩ := in_all (o := 1) (o' := 1) (to := 1) (ob := 1) (f := ((k : Int) + 1)) (wt := 0) (ws := []) (by simp) (by omega) (by omega) (.inr rfl) (by omega) (by omega) (.inr rfl)
          obtain ⟨t7, t8⟩ := in_heard (o := 1) (o' := 1) (oa := 1) (f := ((k : Int) + 1)) (ws := []) (by simp) (by omega) (by omega) (.inr rfl) (by omega) (by omega)
          have e2 : ((k : Int) + 1) + (([] : List Int).length : Int) = ((k : Int) + 1) := by simp
          rw [e2] at t6 t7 t8
          have hb8 : m + 1 ≤ 8 := by omega
          have TB : Hid (∀ k, Value.ownBlock u8 = some k → Z0 ≤ k ∧ k < wr.heap.size) := TB0
          have T1 : Hid (_) := t1
          have T2 : Hid (_) := t2
          have T3 : Hid (_) := t3
          have T4 : Hid (_) := t4
          have T5 : Hid (_) := t5
          have T6 : Hid (_) := t6
          have T7 : Hid (_) := t7
          have T8 : Hid (_) := t8
          clear t1 t2 t3 t4 t5 t6 t7 t8 e1 e2 hm hf8 lw hob hoa
          have hk40 : k + 1 ≤ 40 := by omega
          have hf40 : f ≤ 40 := by have := HM.out; omega
          go_upto_region 15 with (fail)
          refine rgc15 A C 1 oa f 0 1 ob 0 f 1 1 0 ((k : Int) + 1) g1 gb (m + 1) c1 0 cb 0 (m + 1) [] ((xs.take (k + 1)).drop f) (by rfl) (by rfl) (by rfl) (by rfl) (by rfl) (by rfl) (by rfl) (by rfl) (by rfl) (by rfl) (by rfl) (by rfl) (by rfl) (by rfl) (by rfl) (by rfl) (by rfl) (by rfl) (by rfl) (by rfl) (by rfl) (by rfl) (by rfl) (by rfl) (by rfl) (by rfl) (by rfl) (by rfl) (by rfl) (by rfl) (by kernel_rfl) _ _ (by show 68 ≤ 111; decide) (by rfl) (by rfl) HA.out HC.out
            (fun v u => ∃ g' c', v = .agg #[.int .i64 1, .int .i64 oa, .int .i64 (f : Int), .slice g' (m + 1) c', .int .i64 0] ∧ SeesI u (.slice g' (m + 1) c') ((xs.take (k + 1)).drop f)) ?_ (fun u hu => (out_any _ ⟨1, oa, (f : Int), (xs.take (k + 1)).drop f, 0⟩ u (by rw [LK2.out]; omega) ⟨_, rfl, SA.out.below hu⟩).mono ?_) ?_ ?_
          · rintro v u u' ⟨g', c', rfl, s'⟩ hb
            exact ⟨g', c', rfl, s'.below hb⟩
          · rintro e w4 ⟨v4, rfl, ⟨vs4, rfl, s4, n4⟩, b4⟩
            obtain ⟨g4, c4, rfl⟩ := slice_of (n := (m + 1)) s4 (by exact LK2.out)
            exact ⟨_, rfl, ⟨g4, c4, rfl, s4⟩, b4⟩
          · rintro v u ⟨g', c', rfl, s'⟩ hu
            have h := inl_any _ _ ⟨1, ob, 0, [], (f : Int)⟩ ⟨1, oa, (f : Int), (xs.take (k + 1)).drop f, 0⟩ u (by simp) (by rw [LK2.out]; omega) (by simp) (by simp) (by simp) (by show (f : Int) ≤ _; omega) ⟨_, rfl, sees_nil SC.out⟩ ⟨_, rfl, s'⟩
            rw [T1.out, T2.out] at h
            refine h.mono ?_
            rintro e w5 ⟨v5, vt5, rfl, ⟨vs5, rfl, s5, n5⟩, sT5, nT5, b5⟩
            obtain ⟨g5, c5, rfl⟩ := slice_of (n := 0) s5 rfl
            obtain ⟨g6, c6, rfl⟩ := slice_of (n := (m + 1)) sT5 (by exact LK2.out)
            exact ⟨g5, c5, g6, c6, rfl, s5, n5, sT5, nT5, b5⟩
          rintro v0 g5 c5 gt ct D2 U3 hJ
          simp only [Act.put, List.setIfInBounds_toArray, List.set_cons_zero, List.set_cons_succ]
          have HA : Hid (U3.heap[A]? = _) := keep (hJ.b) HA.out
          have HC : Hid (U3.heap[C]? = _) := keep (hJ.b) HC.out
          have SA : Hid (SeesI U3 _ _) := SA.out.below (hJ.b)
          have OT : Hid (U3.ownsRow Z0 2 1 _ _ _) := own_keep OT.out (hJ.b)
          have BB : Below B0 w U3 := below_up BB (by have := lAZ.out; have := zA.out; omega) (hJ.b)
          have LZ : Z0 ≤ U3.heap.size := Nat.le_trans LZ (hJ.b).size
          have SC : Hid (SeesI U3 (.slice g5 0 c5) []) := (hJ.s1 rfl).1
          have OTL := OT.out
          clear OT
          go_upto_region 17 with (at_builtin; go_must (refine app64 rfl _ _ rfl Z0 _ f _ rfl OTL LZ _ ((xs.take (k + 1)).drop f) rfl (hJ.s2 rfl).1 (by rw [LK2.out]; omega) ?_); intro v9 U4 OT9 hg9)
          have hne : ∀ b, b < Z0 → some b ≠ Value.ownBlock u8 := fun b hb e => by have := (TB.out b e.symm).1; omega
          have hnw : ∀ b, wr.heap.size ≤ b → some b ≠ Value.ownBlock u8 := fun b hb e => by have := (TB.out b e.symm).2; omega
          have HA : Hid (U4.heap[A]? = _) := (hg9.block A (lt_of_block HA.out) (hne A lAZ.out)).trans HA.out
          have HC : Hid (U4.heap[C]? = _) := (hg9.block C (lt_of_block HC.out) (hne C lCZ.out)).trans HC.out
          have HD := (hg9.block D2 (hJ.d rfl).2 (hnw D2 (Nat.le_trans WU2 (hJ.d rfl).1))).trans (hJ.r rfl)
          have SA : Hid (SeesI U4 _ _) := SA.out.grown NW hg9 (fun k e => (TB.out k e).2)
          have BB : Below B0 w U4 := BB.grown hg9 (by have := lAZ.out; have := zA.out; omega) (fun k e => by have := (TB.out k e).1; have := lAZ.out; have := zA.out; omega)
          have LZ : Z0 ≤ U4.heap.size := Nat.le_trans LZ hg9.size
          have mf : f ≤ k + 1 := by have := HM.out; omega
          have eU : xs.take f ++ (xs.take (k + 1)).drop f = xs.take (k + 1) := by
            have h := List.take_append_drop f (xs.take (k + 1))
            rw [List.take_take, Nat.min_eq_left mf] at h
            exact h
          have eT : (xs.take f).map vw ++ ((xs.take (k + 1)).drop f).map vw = (xs.take (k + 1)).map vw := by rw [← List.map_append, eU]
          rw [eT] at OT9
          have eN : f + ((xs.take (k + 1)).drop f).length = k + 1 := by rw [LK2.out]; have := HM.out; omega
          rw [eN] at OT9
          have OT : Hid (U4.ownsRow Z0 2 1 v9 (k + 1) ((xs.take (k + 1)).map vw)) := OT9
          clear OT9 OTL hg9 eT eU mf eN hne hnw hJ TB
          have z0 := not_frozen5 HC.out 0
          have z1 := not_frozen5 HC.out 1
          have z2 := not_frozen5 HC.out 2
          have z3 := not_frozen5 HC.out 3
          have z4 := not_frozen5 HC.out 4
          obtain ⟨x1, x2, x3, x4, x5⟩ := five_cells HC.out
          obtain ⟨y1, y2, y3, y4, y5⟩ := five_cells HD
          go_upto_region 18 with (fail)
          clear z0 z1 z2 z3 z4 x1 x2 x3 x4 x5
          clear y1 y2 y3 y4 y5 HD
          have HX := set_all5 HC.out (.int .i64 1) (.int .i64 1) (.int .i64 0) (.slice g5 0 c5) (.int .i64 ((k : Int) + 1))
          have HO := st5_keep HA.out (by have := lAC.out; omega : A ≠ C) (.int .i64 1) (.int .i64 1) (.int .i64 0) (.slice g5 0 c5) (.int .i64 ((k : Int) + 1))
          have OX := own_st5 OT.out lCZ.out (.int .i64 1) (.int .i64 1) (.int .i64 0) (.slice g5 0 c5) (.int .i64 ((k : Int) + 1))
          have BX := st5_below BB zC.out (by have := lCZ.out; omega) (.int .i64 1) (.int .i64 1) (.int .i64 0) (.slice g5 0 c5) (.int .i64 ((k : Int) + 1))
          have LX := Nat.le_trans LZ (gb_all5 U4 C (.int .i64 1) (.int .i64 1) (.int .i64 0) (.slice g5 0 c5) (.int .i64 ((k : Int) + 1))).size
          have SX := st5_or SA.out NA.out lCZ.out (.int .i64 1) (.int .i64 1) (.int .i64 0) (.slice g5 0 c5) (.int .i64 ((k : Int) + 1))
          obtain ⟨U5, hU5⟩ : ∃ u, (((((U4).setCell ⟨C, 0, none⟩ (.int .i64 1)).setCell ⟨C, 1, none⟩ (.int .i64 1)).setCell ⟨C, 2, none⟩ (.int .i64 0)).setCell ⟨C, 3, none⟩ (.slice g5 0 c5)).setCell ⟨C, 4, none⟩ (.int .i64 ((k : Int) + 1)) = u := ⟨_, rfl⟩
          rw [hU5] at HX HO OX BX LX SX ⊢
          have HC : Hid (U5.heap[C]? = _) := HX
          have HA : Hid (U5.heap[A]? = _) := HO
          have OT : Hid (U5.ownsRow Z0 2 1 _ _ _) := OX
          have BB : Below B0 w U5 := BX
          have LZ : Z0 ≤ U5.heap.size := LX
          have SA : Hid (SeesI U5 _ _) := SX
          clear hU5 HX HO OX BX LX SX
          go_upto_region 18 with (fail)
          refine rgc18 C A 1 1 0 ((k : Int) + 1) 1 oa f 0 1 1 ((k : Int) + 1) 0 g5 g1 0 c5 (m + 1) c1 0 0 [] [] (by rfl) (by rfl) (by rfl) (by rfl) (by rfl) (by rfl) (by rfl) (by rfl) (by rfl) (by rfl) (by rfl) (by rfl) (by rfl) (by rfl) (by rfl) (by rfl) (by rfl) (by rfl) (by rfl) (by rfl) (by rfl) (by rfl) (by rfl) (by rfl) (by rfl) (by rfl) (by rfl) (by rfl) (by rfl) (by rfl) (by kernel_rfl) _ _ (by show 79 ≤ 111; decide) (by rfl) (by rfl) HC.out HA.out
            (fun v u => ∃ g' c', v = .agg #[.int .i64 1, .int .i64 1, .int .i64 0, .slice g' 0 c', .int .i64 ((k : Int) + 1)] ∧ SeesI u (.slice g' 0 c') []) ?_ (fun u hu => (out_any _ ⟨1, 1, 0, [], ((k : Int) + 1)⟩ u (by simp) ⟨_, rfl, sees_nil SC.out⟩).mono ?_) ?_ ?_
          · rintro v u u' ⟨g', c', rfl, s'⟩ hb
            exact ⟨g', c', rfl, s'.below hb⟩
          · rintro e w4 ⟨v4, rfl, ⟨vs4, rfl, s4, n4⟩, b4⟩
            obtain ⟨g4, c4, rfl⟩ := slice_of (n := 0) s4 (by rfl)
            exact ⟨_, rfl, ⟨g4, c4, rfl, s4⟩, b4⟩
          · rintro v u ⟨g', c', rfl, s'⟩ hu
            have h := inl_any _ _ ⟨1, oa, (f : Int), (xs.take (k + 1)).drop f, 0⟩ ⟨1, 1, 0, [], ((k : Int) + 1)⟩ u (by rw [LK2.out]; omega) (by simp) (by show (0 : Int) ≤ (f : Int); omega) (by show (f : Int) ≤ _; omega) (by simp) (by simp) ⟨_, rfl, SA.out.below hu⟩ ⟨_, rfl, s'⟩
            rw [T3.out, T4.out] at h
            refine h.mono ?_
            rintro e w5 ⟨v5, vt5, rfl, ⟨vs5, rfl, s5, n5⟩, sT5, nT5, b5⟩
            obtain ⟨g5, c5, rfl⟩ := slice_of (n := 0) s5 rfl
            obtain ⟨g6, c6, rfl⟩ := slice_of (n := 0) sT5 (by rfl)
            exact ⟨g5, c5, g6, c6, rfl, s5, n5, sT5, nT5, b5⟩
          rintro v0 g6 c6 gx cx D3 U6 hJ
          simp only [Act.put, List.setIfInBounds_toArray, List.set_cons_zero, List.set_cons_succ]
          have HA : Hid (U6.heap[A]? = _) := keep (hJ.b) HA.out
          have HC : Hid (U6.heap[C]? = _) := keep (hJ.b) HC.out
          have SA : Hid (SeesI U6 _ _) := SA.out.below (hJ.b)
          have OT : Hid (U6.ownsRow Z0 2 1 _ _ _) := own_keep OT.out (hJ.b)
          have BB : Below B0 w U6 := below_up BB (by have := lAZ.out; have := zA.out; omega) (hJ.b)
          have LZ : Z0 ≤ U6.heap.size := Nat.le_trans LZ (hJ.b).size
          have z0 := not_frozen5 HA.out 0
          have z1 := not_frozen5 HA.out 1
          have z2 := not_frozen5 HA.out 2
          have z3 := not_frozen5 HA.out 3
          have z4 := not_frozen5 HA.out 4
          obtain ⟨x1, x2, x3, x4, x5⟩ := five_cells HA.out
          obtain ⟨y1, y2, y3, y4, y5⟩ := five_cells (hJ.r rfl)
          go_upto_region 20 with (fail)
          clear z0 z1 z2 z3 z4 x1 x2 x3 x4 x5
          clear y1 y2 y3 y4 y5
          have HX := set_all5 HA.out (.int .i64 1) (.int .i64 1) (.int .i64 ((k : Int) + 1)) (.slice g6 0 c6) (.int .i64 0)
          have HO := st5_keep HC.out (by have := lAC.out; omega : C ≠ A) (.int .i64 1) (.int .i64 1) (.int .i64 ((k : Int) + 1)) (.slice g6 0 c6) (.int .i64 0)
          have OX := own_st5 OT.out lAZ.out (.int .i64 1) (.int .i64 1) (.int .i64 ((k : Int) + 1)) (.slice g6 0 c6) (.int .i64 0)
          have BX := st5_below BB zA.out (by have := lAZ.out; omega) (.int .i64 1) (.int .i64 1) (.int .i64 ((k : Int) + 1)) (.slice g6 0 c6) (.int .i64 0)
          have LX := Nat.le_trans LZ (gb_all5 U6 A (.int .i64 1) (.int .i64 1) (.int .i64 ((k : Int) + 1)) (.slice g6 0 c6) (.int .i64 0)).size
          have SX := st5_or ((hJ.s1 rfl).1) (.inl rfl) lAZ.out (.int .i64 1) (.int .i64 1) (.int .i64 ((k : Int) + 1)) (.slice g6 0 c6) (.int .i64 0)
          obtain ⟨U7, hU7⟩ : ∃ u, (((((U6).setCell ⟨A, 0, none⟩ (.int .i64 1)).setCell ⟨A, 1, none⟩ (.int .i64 1)).setCell ⟨A, 2, none⟩ (.int .i64 ((k : Int) + 1))).setCell ⟨A, 3, none⟩ (.slice g6 0 c6)).setCell ⟨A, 4, none⟩ (.int .i64 0) = u := ⟨_, rfl⟩
          rw [hU7] at HX HO OX BX LX SX ⊢
          have HA : Hid (U7.heap[A]? = _) := HX
          have HC : Hid (U7.heap[C]? = _) := HO
          have OT : Hid (U7.ownsRow Z0 2 1 _ _ _) := OX
          have BB : Below B0 w U7 := BX
          have LZ : Z0 ≤ U7.heap.size := LX
          have SA : Hid (SeesI U7 _ _) := SX
          have NA : Hid (([] : List Int) = [] ∨ New Z0 (.slice g6 0 c6)) := .inl rfl
          clear hU7 HX HO OX BX LX SX
          clear hJ
          go_upto_region 20 with (fail)
          refine rgc20 A C 1 1 ((k : Int) + 1) 0 1 1 0 ((k : Int) + 1) 1 1 0 ((k : Int) + 1) g6 g5 0 c6 0 c5 0 0 [] [] (by rfl) (by rfl) (by rfl) (by rfl) (by rfl) (by rfl) (by rfl) (by rfl) (by rfl) (by rfl) (by rfl) (by rfl) (by rfl) (by rfl) (by rfl) (by rfl) (by rfl) (by rfl) (by rfl) (by rfl) (by rfl) (by rfl) (by rfl) (by rfl) (by rfl) (by rfl) (by rfl) (by rfl) (by rfl) (by rfl) (by kernel_rfl) _ _ (by show 87 ≤ 111; decide) (by rfl) (by rfl) HA.out HC.out
            (fun v u => ∃ g' c', v = .agg #[.int .i64 1, .int .i64 1, .int .i64 ((k : Int) + 1), .slice g' 0 c', .int .i64 0] ∧ SeesI u (.slice g' 0 c') []) ?_ (fun u hu => (out_any _ ⟨1, 1, ((k : Int) + 1), [], 0⟩ u (by simp) ⟨_, rfl, SA.out.below hu⟩).mono ?_) ?_ ?_
          · rintro v u u' ⟨g', c', rfl, s'⟩ hb
            exact ⟨g', c', rfl, s'.below hb⟩
          · rintro e w4 ⟨v4, rfl, ⟨vs4, rfl, s4, n4⟩, b4⟩
            obtain ⟨g4, c4, rfl⟩ := slice_of (n := 0) s4 (by rfl)
            exact ⟨_, rfl, ⟨g4, c4, rfl, s4⟩, b4⟩
          · rintro v u ⟨g', c', rfl, s'⟩ hu
            have h := inl_any _ _ ⟨1, 1, 0, [], ((k : Int) + 1)⟩ ⟨1, 1, ((k : Int) + 1), [], 0⟩ u (by simp) (by simp) (by simp) (by simp) (by show (0 : Int) ≤ ((k : Int) + 1); omega) (by show ((k : Int) + 1) ≤ _; omega) ⟨_, rfl, sees_nil SC.out⟩ ⟨_, rfl, s'⟩
            rw [T5.out, T6.out] at h
            refine h.mono ?_
            rintro e w5 ⟨v5, vt5, rfl, ⟨vs5, rfl, s5, n5⟩, sT5, nT5, b5⟩
            obtain ⟨g5, c5, rfl⟩ := slice_of (n := 0) s5 rfl
            obtain ⟨g6, c6, rfl⟩ := slice_of (n := 0) sT5 (by rfl)
            exact ⟨g5, c5, g6, c6, rfl, s5, n5, sT5, nT5, b5⟩
          rintro v0 g7 c7 gy cy D4 U8 hJ
          simp only [Act.put, List.setIfInBounds_toArray, List.set_cons_zero, List.set_cons_succ]
          have HA : Hid (U8.heap[A]? = _) := keep (hJ.b) HA.out
          have HC : Hid (U8.heap[C]? = _) := keep (hJ.b) HC.out
          have SA : Hid (SeesI U8 _ _) := SA.out.below (hJ.b)
          have OT : Hid (U8.ownsRow Z0 2 1 _ _ _) := own_keep OT.out (hJ.b)
          have BB : Below B0 w U8 := below_up BB (by have := lAZ.out; have := zA.out; omega) (hJ.b)
          have LZ : Z0 ≤ U8.heap.size := Nat.le_trans LZ (hJ.b).size
          have z0 := not_frozen5 HC.out 0
          have z1 := not_frozen5 HC.out 1
          have z2 := not_frozen5 HC.out 2
          have z3 := not_frozen5 HC.out 3
          have z4 := not_frozen5 HC.out 4
          obtain ⟨x1, x2, x3, x4, x5⟩ := five_cells HC.out
          obtain ⟨y1, y2, y3, y4, y5⟩ := five_cells (hJ.r rfl)
          go_upto_region 22 with (fail)
          clear z0 z1 z2 z3 z4 x1 x2 x3 x4 x5
          clear y1 y2 y3 y4 y5
          have HX := set_all5 HC.out (.int .i64 1) (.int .i64 1) (.int .i64 0) (.slice g7 0 c7) (.int .i64 ((k : Int) + 1))
          have HO := st5_keep HA.out (by have := lAC.out; omega : A ≠ C) (.int .i64 1) (.int .i64 1) (.int .i64 0) (.slice g7 0 c7) (.int .i64 ((k : Int) + 1))
          have OX := own_st5 OT.out lCZ.out (.int .i64 1) (.int .i64 1) (.int .i64 0) (.slice g7 0 c7) (.int .i64 ((k : Int) + 1))
          have BX := st5_below BB zC.out (by have := lCZ.out; omega) (.int .i64 1) (.int .i64 1) (.int .i64 0) (.slice g7 0 c7) (.int .i64 ((k : Int) + 1))
          have LX := Nat.le_trans LZ (gb_all5 U8 C (.int .i64 1) (.int .i64 1) (.int .i64 0) (.slice g7 0 c7) (.int .i64 ((k : Int) + 1))).size
          have SX := st5_or SA.out NA.out lCZ.out (.int .i64 1) (.int .i64 1) (.int .i64 0) (.slice g7 0 c7) (.int .i64 ((k : Int) + 1))
          obtain ⟨U9, hU9⟩ : ∃ u, (((((U8).setCell ⟨C, 0, none⟩ (.int .i64 1)).setCell ⟨C, 1, none⟩ (.int .i64 1)).setCell ⟨C, 2, none⟩ (.int .i64 0)).setCell ⟨C, 3, none⟩ (.slice g7 0 c7)).setCell ⟨C, 4, none⟩ (.int .i64 ((k : Int) + 1)) = u := ⟨_, rfl⟩
          rw [hU9] at HX HO OX BX LX SX ⊢
          have HC : Hid (U9.heap[C]? = _) := HX
          have HA : Hid (U9.heap[A]? = _) := HO
          have OT : Hid (U9.ownsRow Z0 2 1 _ _ _) := OX
          have BB : Below B0 w U9 := BX
          have LZ : Z0 ≤ U9.heap.size := LX
          have SA : Hid (SeesI U9 _ _) := SX
          clear hU9 HX HO OX BX LX SX
          have SC : Hid (SeesI U8 (.slice g7 0 c7) []) := (hJ.s1 rfl).1
          clear hJ
          go_upto_region 22 with (fail)
          refine rgc22 C A 1 1 0 ((k : Int) + 1) 1 1 ((k : Int) + 1) 0 1 1 ((k : Int) + 1) 0 g7 g6 0 c7 0 c6 0 0 [] [] (by rfl) (by rfl) (by rfl) (by rfl) (by rfl) (by rfl) (by rfl) (by rfl) (by rfl) (by rfl) (by rfl) (by rfl) (by rfl) (by rfl) (by rfl) (by rfl) (by rfl) (by rfl) (by rfl) (by rfl) (by rfl) (by rfl) (by rfl) (by rfl) (by rfl) (by rfl) (by rfl) (by rfl) (by rfl) (by rfl) (by kernel_rfl) _ _ (by show 95 ≤ 111; decide) (by rfl) (by rfl) HC.out HA.out
            (fun v u => ∃ g' c', v = .agg #[.int .i64 1, .int .i64 1, .int .i64 0, .slice g' 0 c', .int .i64 ((k : Int) + 1)] ∧ SeesI u (.slice g' 0 c') []) ?_ (fun u hu => (out_any _ ⟨1, 1, 0, [], ((k : Int) + 1)⟩ u (by simp) ⟨_, rfl, sees_nil SC.out⟩).mono ?_) ?_ ?_
          · rintro v u u' ⟨g', c', rfl, s'⟩ hb
            exact ⟨g', c', rfl, s'.below hb⟩
          · rintro e w4 ⟨v4, rfl, ⟨vs4, rfl, s4, n4⟩, b4⟩
            obtain ⟨g4, c4, rfl⟩ := slice_of (n := 0) s4 (by rfl)
            exact ⟨_, rfl, ⟨g4, c4, rfl, s4⟩, b4⟩
          · rintro v u ⟨g', c', rfl, s'⟩ hu
            have h := inl_any _ _ ⟨1, 1, ((k : Int) + 1), [], 0⟩ ⟨1, 1, 0, [], ((k : Int) + 1)⟩ u (by simp) (by simp) (by show (0 : Int) ≤ ((k : Int) + 1); omega) (by show ((k : Int) + 1) ≤ _; omega) (by simp) (by simp) ⟨_, rfl, SA.out.below hu⟩ ⟨_, rfl, s'⟩
            rw [T7.out, T8.out] at h
            refine h.mono ?_
            rintro e w5 ⟨v5, vt5, rfl, ⟨vs5, rfl, s5, n5⟩, sT5, nT5, b5⟩
            obtain ⟨g5, c5, rfl⟩ := slice_of (n := 0) s5 rfl
            obtain ⟨g6, c6, rfl⟩ := slice_of (n := 0) sT5 (by rfl)
            exact ⟨g5, c5, g6, c6, rfl, s5, n5, sT5, nT5, b5⟩
          rintro v0 g8 c8 gz cz D5 U10 hJ
          simp only [Act.put, List.setIfInBounds_toArray, List.set_cons_zero, List.set_cons_succ]
          have HA : Hid (U10.heap[A]? = _) := keep (hJ.b) HA.out
          have HC : Hid (U10.heap[C]? = _) := keep (hJ.b) HC.out
          have SA : Hid (SeesI U10 _ _) := SA.out.below (hJ.b)
          have OT : Hid (U10.ownsRow Z0 2 1 _ _ _) := own_keep OT.out (hJ.b)
          have BB : Below B0 w U10 := below_up BB (by have := lAZ.out; have := zA.out; omega) (hJ.b)
          have LZ : Z0 ≤ U10.heap.size := Nat.le_trans LZ (hJ.b).size
          have z0 := not_frozen5 HA.out 0
          have z1 := not_frozen5 HA.out 1
          have z2 := not_frozen5 HA.out 2
          have z3 := not_frozen5 HA.out 3
          have z4 := not_frozen5 HA.out 4
          obtain ⟨x1, x2, x3, x4, x5⟩ := five_cells HA.out
          obtain ⟨y1, y2, y3, y4, y5⟩ := five_cells (hJ.r rfl)
          go_upto_region 24 with (fail)
          clear z0 z1 z2 z3 z4 x1 x2 x3 x4 x5
          clear y1 y2 y3 y4 y5
          have HX := set_all5 HA.out (.int .i64 1) (.int .i64 1) (.int .i64 ((k : Int) + 1)) (.slice g8 0 c8) (.int .i64 0)
          have HO := st5_keep HC.out (by have := lAC.out; omega : C ≠ A) (.int .i64 1) (.int .i64 1) (.int .i64 ((k : Int) + 1)) (.slice g8 0 c8) (.int .i64 0)
          have OX := own_st5 OT.out lAZ.out (.int .i64 1) (.int .i64 1) (.int .i64 ((k : Int) + 1)) (.slice g8 0 c8) (.int .i64 0)
          have BX := st5_below BB zA.out (by have := lAZ.out; omega) (.int .i64 1) (.int .i64 1) (.int .i64 ((k : Int) + 1)) (.slice g8 0 c8) (.int .i64 0)
          have LX := Nat.le_trans LZ (gb_all5 U10 A (.int .i64 1) (.int .i64 1) (.int .i64 ((k : Int) + 1)) (.slice g8 0 c8) (.int .i64 0)).size
          have SX := st5_or ((hJ.s1 rfl).1) (.inl rfl) lAZ.out (.int .i64 1) (.int .i64 1) (.int .i64 ((k : Int) + 1)) (.slice g8 0 c8) (.int .i64 0)
          obtain ⟨U11, hU11⟩ : ∃ u, (((((U10).setCell ⟨A, 0, none⟩ (.int .i64 1)).setCell ⟨A, 1, none⟩ (.int .i64 1)).setCell ⟨A, 2, none⟩ (.int .i64 ((k : Int) + 1))).setCell ⟨A, 3, none⟩ (.slice g8 0 c8)).setCell ⟨A, 4, none⟩ (.int .i64 0) = u := ⟨_, rfl⟩
          rw [hU11] at HX HO OX BX LX SX ⊢
          have HA : Hid (U11.heap[A]? = _) := HX
          have HC : Hid (U11.heap[C]? = _) := HO
          have OT : Hid (U11.ownsRow Z0 2 1 _ _ _) := OX
          have BB : Below B0 w U11 := BX
          have LZ : Z0 ≤ U11.heap.size := LX
          have SA : Hid (SeesI U11 _ _) := SX
          have NA : Hid (([] : List Int) = [] ∨ New Z0 (.slice g8 0 c8)) := .inl rfl
          clear hU11 HX HO OX BX LX SX
          clear hJ
          have z0 := not_frozen5 HA.out 0
          have z1 := not_frozen5 HA.out 1
          have z2 := not_frozen5 HA.out 2
          have z3 := not_frozen5 HA.out 3
          have z4 := not_frozen5 HA.out 4
          obtain ⟨x1, x2, x3, x4, x5⟩ := five_cells HA.out
          go_wp2_with (fail)
          have ek : (k : Int) + 1 = ((k + 1 : Nat) : Int) := by omega
          rw [ek] at HA HC
          go_roundw
          case rel => exact ⟨k + 1, k + 1, 0, 1, 1, g8, c8, g7, c7, by omega, by go_num, (by omega : 0 + (k + 1) = k + 1), (fun h => h), (fun h => by omega), .inr rfl, .inr rfl, HA, HC, (by rw [List.drop_eq_nil_of_le (by rw [List.length_take]; omega)]; exact SA), .inl (List.drop_eq_nil_of_le (by rw [List.length_take]; omega)), sees_nil SC.out, OT, BB, LZ⟩
          case measure => simp [intOf]; omega
        · have dl : ((k : Int) == (n : Int) - 1) = false := by simp; omega
          go_wp2_with (fail)
          go_roundw
          case rel => exact ⟨k + 1, f, m + 1, oa, ob, g1, c1, gb, cb, by omega, by go_num, (by have := HM.out; omega : m + 1 + f = k + 1), (fun h => by omega), (fun h => by have := HF.out hlt; omega), HOA, HOB, HA, HC, SA, NA, sees_nil SC.out, OT, BB, LZ⟩
          case measure => simp [intOf]; omega
    · have e : k = n := by omega
      subst e
      have ef : f = k := HE.out rfl
      have tk : xs.take k = xs := List.take_of_length_le (by rw [HN.out]; omega)
      rw [ef, tk] at OT
      have cN := ints_any u8 _ xs xs wr (by rw [HN.out]; omega) (by rw [HN.out]; omega) (SeesI.own OT.out) (OLD.out wr BB)
      rw [decide_eq_true rfl] at cN
      clear ef tk
      go_wp2_with (go_at_call 21; go_must (refine cN.mono ?_); rintro e w9 ⟨rfl, b9⟩)
      go_ret
      exact ⟨rfl, below_up BB (by have := lAZ.out; have := zA.out; omega) b9⟩

end Go.Proofs.Ytbhgffbmeaomkaa.Gr
