/-
  The walk of LinkFirst.
-/
import Derived.Test.YtbhgffbmeaomkaaLSh
namespace Go.Proofs.Ytbhgffbmeaomkaa.Gr
open Go.RowKit Go.Sort Lm
set_option linter.unusedVariables false
set_option linter.unusedSimpArgs false

set_option maxRecDepth 20000 in
set_option maxHeartbeats 4000000 in
theorem linkFirst_walk (v : Value) (xs : List Int) (fr kn : Int) (w : World) (sx : SeesI w v xs) (lx : xs.length ≤ 100000000000000) (rx : ∀ x ∈ xs, -9223372036854775808 ≤ x ∧ x ≤ 9223372036854775807) :
    Calls Try.prog 8 #[v, .int .i64 fr, .int .i64 kn] w fun e w' => e = .returned (.bool true) ∧ Below w.heap.size w w' := by
  clear rx
  have N1 := fun u => new_any 3 u
  have e1 : newE 3 = 0 := rfl
  have e2 : newL 3 = ⟨3, 0, 0, [], 0⟩ := rfl
  rw [e1, e2] at N1
  clear e1 e2
  obtain ⟨xo, xc, rfl⟩ := sx.slice
  obtain ⟨n, hn⟩ : ∃ n, xs.length = n := ⟨_, rfl⟩
  have HN : Hid (xs.length = n) := hn
  rw [hn] at lx sx ⊢
  clear hn
  obtain ⟨B0, hB0⟩ : ∃ B, w.heap.size = B := ⟨_, rfl⟩
  have OLD : Hid (∀ u, Below B0 w u → SeesI u (.slice xo n xc) xs) := fun u h => sx.below (by rw [hB0]; exact h)
  have BB : Below B0 w w := Below.refl _ _
  have LE : B0 ≤ w.heap.size := Nat.le_of_eq hB0.symm
  have LEu : Hid (B0 ≤ w.heap.size) := LE
  rw [hB0]
  clear hB0 sx
  go_enter Try.func8, Try.ntmps8
  go_upto_region 2 with (go_at_call 10; go_must (refine (shown11 _).mono ?_); rintro e w1 ⟨rfl, b1⟩)
  have bb0 := b1
  have BB : Below B0 w w1 := below_up BB LE bb0
  have LE : B0 ≤ w1.heap.size := Nat.le_trans LE bb0.size
  have LEu : Hid (B0 ≤ w1.heap.size) := LE
  clear bb0
  by_cases h0 : 8 < n
  · have d0 : decide ((8 : Int) < (n : Int)) = true := decide_eq_true (by omega)
    go_wp2_with (fail)
    go_ret
    exact ⟨rfl, below_up BB LE (Below.refl _ w1)⟩
  have d0 : decide ((8 : Int) < (n : Int)) = false := decide_eq_false (by omega)
  by_cases h1 : fr < 1
  · have d1 : decide (fr < 1) = true := decide_eq_true (by omega)
    go_wp2_with (fail)
    go_ret
    exact ⟨rfl, below_up BB LE (Below.refl _ w1)⟩
  have d1 : decide (fr < 1) = false := decide_eq_false (by omega)
  by_cases h2 : 4611686018427387904 < fr
  · have d2 : decide (4611686018427387904 < fr) = true := decide_eq_true (by omega)
    go_wp2_with (fail)
    go_ret
    exact ⟨rfl, below_up BB LE (Below.refl _ w1)⟩
  have d2 : decide (4611686018427387904 < fr) = false := decide_eq_false (by omega)
  by_cases h3 : kn < 0
  · have d3 : decide (kn < 0) = true := decide_eq_true (by omega)
    go_wp2_with (fail)
    go_ret
    exact ⟨rfl, below_up BB LE (Below.refl _ w1)⟩
  have d3 : decide (kn < 0) = false := decide_eq_false (by omega)
  by_cases h4 : 4611686018427387904 < kn
  · have d4 : decide (4611686018427387904 < kn) = true := decide_eq_true (by omega)
    go_wp2_with (fail)
    go_ret
    exact ⟨rfl, below_up BB LE (Below.refl _ w1)⟩
  have d4 : decide (4611686018427387904 < kn) = false := decide_eq_false (by omega)
  go_upto_region 5 with (go_at_call 11; go_must (refine (N1 _).mono ?_); rintro e w2 ⟨v2, rfl, ⟨vs2, rfl, sA, nA⟩, b2⟩; obtain ⟨g2, c2, rfl⟩ := slice_of (n := 0) sA rfl)
  obtain ⟨A, hA⟩ : ∃ n, w2.heap.size = n := ⟨_, rfl⟩
  have hbA := box_below w2 (.cells #[.int .i64 3, .int .i64 0, .int .i64 0, .slice g2 0 c2, .int .i64 0] 24)
  have HA0 := heap_new w2 (.cells #[.int .i64 3, .int .i64 0, .int .i64 0, .slice g2 0 c2, .int .i64 0] 24)
  obtain ⟨u1, hu1⟩ : ∃ u, w2.alloc (.cells #[.int .i64 3, .int .i64 0, .int .i64 0, .slice g2 0 c2, .int .i64 0] 24) = u := ⟨_, rfl⟩
  rw [hu1] at hbA HA0
  rw [hA] at HA0 ⊢
  rw [hu1]
  have bb1 := bt (b2) hbA
  have SA := sA.below hbA
  have NA := nA
  have HA : Hid (u1.heap[A]? = _) := HA0
  have BB : Below B0 w u1 := below_up BB LE bb1
  have LE : B0 ≤ u1.heap.size := Nat.le_trans LE bb1.size
  have zA : Hid (B0 ≤ A) := (by rw [← hA]; exact Nat.le_trans LEu.out (b2).size : B0 ≤ A)
  have lAu : Hid (A < u1.heap.size) := lt_of_block HA.out
  have LEu : Hid (B0 ≤ u1.heap.size) := LE
  clear hu1 hbA HA0 hA bb1
  obtain ⟨A1, A2, A3, A4, A5⟩ := five_cells HA.out
  clear N1 d0 d1 d2 d3 d4
  have zA1 := not_frozen5 HA.out 1
  go_upto_region 6 with (fail)
  clear zA1
  clear A1 A2 A3 A4 A5
  have gs := gb_setC5 u1 A 1 (.int .i64 kn)
  have HA := set_five1 HA.out (.int .i64 kn)
  have SA : SeesI (u1.setCell ⟨A, 1, none⟩ (.int .i64 kn)) _ [] := sees_nil SA
  have BB := BB.grown gs LE (fun k e => by cases e; exact zA.out)
  have LE := Nat.le_trans LE gs.size
  obtain ⟨u2, hu2⟩ : ∃ u, u1.setCell ⟨A, 1, none⟩ (.int .i64 kn) = u := ⟨_, rfl⟩
  rw [hu2] at BB LE HA SA ⊢
  clear hu2 gs
  have lAu : Hid (A < u2.heap.size) := lt_of_block HA
  have HA : Hid (u2.heap[A]? = _) := HA
  have LEu : Hid (B0 ≤ u2.heap.size) := LE
  obtain ⟨A1, A2, A3, A4, A5⟩ := five_cells HA.out
  have cI := inl_any _ _ ⟨3, kn, 0, [], 0⟩ ⟨fr, 0, 0, xs, 0⟩ u2 (by simp) (by rw [HN.out]; omega) (by simp) (by simp) (by simp) (by simp) ⟨_, rfl, SA⟩ ⟨_, rfl, OLD.out _ BB⟩
  by_cases hk : fr < kn
  · have dk : decide (fr < kn) = true := decide_eq_true hk
    obtain ⟨t1, t2⟩ := in_older (ws := xs) hk
    rw [t1, t2] at cI
    clear t1 t2
    go_upto_region 7 with (go_at_call 19; go_must (refine (cI).mono ?_); rintro e w3 ⟨v3, vt3, rfl, ⟨vs3, rfl, sC, nC⟩, sT, nT, b3⟩; clear A1 A2 A3 A4 A5; obtain ⟨A1, A2, A3, A4, A5⟩ := five_cells (keep (b3) HA.out); obtain ⟨g3, c3, rfl⟩ := slice_of (n := 0) sC rfl; obtain ⟨g4, c4, rfl⟩ := slice_of (n := 0) sT rfl)
    clear A1 A2 A3 A4 A5
    obtain ⟨C, hC⟩ : ∃ n, w3.heap.size = n := ⟨_, rfl⟩
    have hbC := box_below w3 (.cells #[.int .i64 3, .int .i64 kn, .int .i64 0, .slice g3 0 c3, .int .i64 0] 24)
    have HC0 := heap_new w3 (.cells #[.int .i64 3, .int .i64 kn, .int .i64 0, .slice g3 0 c3, .int .i64 0] 24)
    obtain ⟨u3, hu3⟩ : ∃ u, w3.alloc (.cells #[.int .i64 3, .int .i64 kn, .int .i64 0, .slice g3 0 c3, .int .i64 0] 24) = u := ⟨_, rfl⟩
    rw [hu3] at hbC HC0
    rw [hC] at HC0 ⊢
    rw [hu3]
    have bb3 := bt (b3) hbC
    have HA : Hid (u3.heap[A]? = _) := keep bb3 HA.out
    have SA := SA.below bb3
    have SC := sC.below hbC
    have NC := nC
    have qCA : Hid (A < u2.heap.size) := lAu
    have HC : Hid (u3.heap[C]? = _) := HC0
    have BB : Below B0 w u3 := below_up BB LE bb3
    have LE : B0 ≤ u3.heap.size := Nat.le_trans LE bb3.size
    have lAC : Hid (A < C) := (by have := lAu.out; have := (b3).size; omega : A < C)
    have zC : Hid (B0 ≤ C) := (by rw [← hC]; exact Nat.le_trans LEu.out (b3).size : B0 ≤ C)
    have lAu : Hid (A < u3.heap.size) := lt_of_block HA.out
    have lCu : Hid (C < u3.heap.size) := lt_of_block HC.out
    have LEu : Hid (B0 ≤ u3.heap.size) := LE
    clear hu3 hbC HC0 hC bb3
    obtain ⟨A1, A2, A3, A4, A5⟩ := five_cells HA.out
    obtain ⟨C1, C2, C3, C4, C5⟩ := five_cells HC.out
    have cK := fun (u : World) (h : Below u3.heap.size u3 u) => rsameK_any _ _ ⟨3, kn, 0, [], 0⟩ ⟨3, kn, 0, [], 0⟩ u (by simp) (by simp) ⟨_, rfl, SA.below h⟩ ⟨_, rfl, SC.below h⟩
    rw [sameK_refl] at cK
    go_wp2_with (go_at_call 14; go_must (refine (cK u3 (Below.refl _ u3)).mono ?_); rintro e w50 ⟨rfl, b50⟩; clear A1 A2 A3 A4 A5 C1 C2 C3 C4 C5; obtain ⟨A1, A2, A3, A4, A5⟩ := five_cells (keep ((bt (Below.refl _ u3) b50)) HA.out); obtain ⟨C1, C2, C3, C4, C5⟩ := five_cells (keep ((bt (Below.refl _ u3) b50)) HC.out))
    go_ret
    exact ⟨rfl, below_up BB LE (bt (Below.refl _ u3) b50)⟩
  have dk : decide (fr < kn) = false := decide_eq_false hk
  obtain ⟨t1, t2⟩ := in_first (ws := xs) (from' := fr) (known := kn) (by rw [HN.out]; omega) (by omega) (by omega) (by omega) (by omega)
  rw [t1, t2] at cI
  clear t1 t2
  rw [HN.out] at cI
  go_upto_region 7 with (go_at_call 19; go_must (refine (cI).mono ?_); rintro e w3 ⟨v3, vt3, rfl, ⟨vs3, rfl, sC, nC⟩, sT, nT, b3⟩; clear A1 A2 A3 A4 A5; obtain ⟨A1, A2, A3, A4, A5⟩ := five_cells (keep (b3) HA.out); obtain ⟨g3, c3, rfl⟩ := slice_of (n := 0) sC rfl; obtain ⟨g4, c4, rfl⟩ := slice_of sT HN.out)
  clear A1 A2 A3 A4 A5
  obtain ⟨C, hC⟩ : ∃ n, w3.heap.size = n := ⟨_, rfl⟩
  have hbC := box_below w3 (.cells #[.int .i64 3, .int .i64 fr, .int .i64 0, .slice g3 0 c3, .int .i64 (n : Int)] 24)
  have HC0 := heap_new w3 (.cells #[.int .i64 3, .int .i64 fr, .int .i64 0, .slice g3 0 c3, .int .i64 (n : Int)] 24)
  obtain ⟨u3, hu3⟩ : ∃ u, w3.alloc (.cells #[.int .i64 3, .int .i64 fr, .int .i64 0, .slice g3 0 c3, .int .i64 (n : Int)] 24) = u := ⟨_, rfl⟩
  rw [hu3] at hbC HC0
  rw [hC] at HC0 ⊢
  rw [hu3]
  have bb3 := bt (b3) hbC
  have HA : Hid (u3.heap[A]? = _) := keep bb3 HA.out
  have SA := SA.below bb3
  have SC := sC.below hbC
  have NC := nC
  have qCA : Hid (A < u2.heap.size) := lAu
  have ST := sT.below hbC
  have NT := nT
  have qTA : Hid (A < u2.heap.size) := lAu
  have HC : Hid (u3.heap[C]? = _) := HC0
  have BB : Below B0 w u3 := below_up BB LE bb3
  have LE : B0 ≤ u3.heap.size := Nat.le_trans LE bb3.size
  have lAC : Hid (A < C) := (by have := lAu.out; have := (b3).size; omega : A < C)
  have zC : Hid (B0 ≤ C) := (by rw [← hC]; exact Nat.le_trans LEu.out (b3).size : B0 ≤ C)
  have lAu : Hid (A < u3.heap.size) := lt_of_block HA.out
  have lCu : Hid (C < u3.heap.size) := lt_of_block HC.out
  have LEu : Hid (B0 ≤ u3.heap.size) := LE
  clear hu3 hbC HC0 hC bb3
  obtain ⟨A1, A2, A3, A4, A5⟩ := five_cells HA.out
  obtain ⟨C1, C2, C3, C4, C5⟩ := five_cells HC.out
  have cN := fun (u : World) (h : Below u3.heap.size u3 u) => ints_any _ _ xs xs u (by rw [HN.out]; omega) (by rw [HN.out]; omega) (ST.below h) (OLD.out u (below_up BB LE h))
  rw [decide_eq_true rfl] at cN
  go_wp2_with (go_at_call 21; go_must (refine (cN u3 (Below.refl _ u3)).mono ?_); rintro e w50 ⟨rfl, b50⟩; clear A1 A2 A3 A4 A5 C1 C2 C3 C4 C5; obtain ⟨A1, A2, A3, A4, A5⟩ := five_cells (keep ((bt (Below.refl _ u3) b50)) HA.out); obtain ⟨C1, C2, C3, C4, C5⟩ := five_cells (keep ((bt (Below.refl _ u3) b50)) HC.out))
  go_ret
  exact ⟨rfl, below_up BB LE (bt (Below.refl _ u3) b50)⟩
end Go.Proofs.Ytbhgffbmeaomkaa.Gr
