/-
  The contract of quat.Mul.
-/
import Derived.Test.YtgekignonjfaiaaDoorQM
namespace Go.Proofs.YtgekignonjfaiaaDoor
open Go.RowKit Go.Sort Qm

set_option maxHeartbeats 1000000 in
theorem mul1_any (k : Nat) (hk : k < 4) (P Q : Nat) (p q : Nat → Int) (w : World) (hP : Box4 w P p) (hQ : Box4 w Q q) (hG : Less w) :
    Calls Tryd.prog 26 #[.int .i64 k, .pointer (some ⟨P, 0, none⟩), .pointer (some ⟨Q, 0, none⟩)] w fun e w' =>
      e = .returned (.tuple #[.int .i64 (qm p q k), .bool (qmB p q k)]) ∧ Below w.heap.size w w' := by
  have hsm := summed_any 28 enters28 #[.pointer (some ⟨P, 0, none⟩), .pointer (some ⟨Q, 0, none⟩), .pointer (some ⟨w.heap.size, 0, none⟩)] (tm p q k) (tmB p q k) (w.alloc (.cells #[.int .i64 k] 3)) (by
    intro i a hi hb
    have b0 := ball1 w (.cells #[.int .i64 k] 3)
    exact mul11_any k i hk hi P Q w.heap.size p q a (hP.below (bt b0 hb)) (hQ.below (bt b0 hb)) (cell_of_one (keep hb (heap_new _ _))) (hG.below (bt b0 hb)))
  change Calls Tryd.prog 27 _ _ (fun e b => e = .returned (.tuple #[.int .i64 (qm p q k), .bool (qmB p q k)]) ∧ _) at hsm
  obtain ⟨D, hD⟩ : ∃ D, qm p q k = D := ⟨_, rfl⟩
  obtain ⟨E, hE⟩ : ∃ E, qmB p q k = E := ⟨_, rfl⟩
  rw [hD, hE] at hsm ⊢
  clear hD hE hP hQ hG
  go_enter Tryd.func26, Tryd.ntmps26
  go_wp2_with (go_at_call 27; refine hsm.mono ?_; rintro e wx ⟨rfl, bx⟩)
  go_ret2
  exact ⟨rfl, bt (ball1 _ _) bx⟩

/-- a result of four that lies in a block of its own: what is stored there -/
theorem put4 {B D : Nat} {w a : World} (h : Below B w a) (hD : B ≤ D) (x y z u : Value) : Below B w ((((a.setCell ⟨D, 0, none⟩ x).setCell ⟨D, 1, none⟩ y).setCell ⟨D, 2, none⟩ z).setCell ⟨D, 3, none⟩ u) :=
  (((h.setCell hD x).setCell hD y).setCell hD z).setCell hD u

set_option maxHeartbeats 1000000 in
theorem qmul_any (p q : Nat → Int) (w : World) (hG : Less w) :
    Calls Tryd.prog 11 #[.agg #[.int .i64 (p 0), .int .i64 (p 1), .int .i64 (p 2), .int .i64 (p 3)], .agg #[.int .i64 (q 0), .int .i64 (q 1), .int .i64 (q 2), .int .i64 (q 3)]] w fun e w' =>
      e = .returned (.tuple #[.agg #[.int .i64 (qm p q 0), .int .i64 (qm p q 1), .int .i64 (qm p q 2), .int .i64 (qm p q 3)], .bool (anyB (qmB p q) 4)]) ∧ Below w.heap.size w w' := by
  obtain ⟨W, hW⟩ : ∃ W, ((w.alloc (.cells #[.int .i64 (p 0), .int .i64 (p 1), .int .i64 (p 2), .int .i64 (p 3)] 24)).alloc (.cells #[.int .i64 (q 0), .int .i64 (q 1), .int .i64 (q 2), .int .i64 (q 3)] 24)).alloc (.cells #[.int .i64 0, .int .i64 0, .int .i64 0, .int .i64 0] 24) = W := ⟨_, rfl⟩
  obtain ⟨g1, g2, g3⟩ := allocs3 w (.cells #[.int .i64 (p 0), .int .i64 (p 1), .int .i64 (p 2), .int .i64 (p 3)] 24) (.cells #[.int .i64 (q 0), .int .i64 (q 1), .int .i64 (q 2), .int .i64 (q 3)] 24) (.cells #[.int .i64 0, .int .i64 0, .int .i64 0, .int .i64 0] 24)
  have bW := ball3 w (.cells #[.int .i64 (p 0), .int .i64 (p 1), .int .i64 (p 2), .int .i64 (p 3)] 24) (.cells #[.int .i64 (q 0), .int .i64 (q 1), .int .i64 (q 2), .int .i64 (q 3)] 24) (.cells #[.int .i64 0, .int .i64 0, .int .i64 0, .int .i64 0] 24)
  rw [hW] at g1 g2 g3 bW
  have ht := told_any 26 enters26 #[.pointer (some ⟨w.heap.size, 0, none⟩), .pointer (some ⟨w.heap.size + 1, 0, none⟩)] (qm p q) (qmB p q) W (by
    intro k a hk hb
    exact mul1_any k hk w.heap.size (w.heap.size + 1) p q a ((Box4.of g1).below hb) ((Box4.of g2).below hb) (hG.below (bt bW hb)))
  obtain ⟨X, hX⟩ : ∃ X, anyB (qmB p q) 4 = X := ⟨_, rfl⟩
  obtain ⟨z0, hz0⟩ : ∃ z, qm p q 0 = z := ⟨_, rfl⟩
  obtain ⟨z1, hz1⟩ : ∃ z, qm p q 1 = z := ⟨_, rfl⟩
  obtain ⟨z2, hz2⟩ : ∃ z, qm p q 2 = z := ⟨_, rfl⟩
  obtain ⟨z3, hz3⟩ : ∃ z, qm p q 3 = z := ⟨_, rfl⟩
  rw [hX, hz0, hz1, hz2, hz3] at ht ⊢
  rw [← hW] at ht
  have HW : Hid (_ = W) := hW
  clear hX hz0 hz1 hz2 hz3 hG hW
  go_enter Tryd.func11, Tryd.ntmps11
  go_wp2_with (go_at_call 25; refine ht.mono ?_; rintro e wx ⟨rfl, bx⟩; rw [HW.out] at bx; obtain ⟨d0, d1, d2, d3, f0, f1, f2, f3⟩ := four_cells (keep bx g3))
  refine bodyPost_ret (v := .tuple #[.agg #[.int .i64 z0, .int .i64 z1, .int .i64 z2, .int .i64 z3], .bool X]) (by simp [results, Tryd.results11, go_sem, d0, d1, d2, d3]) rfl ?_
  exact ⟨rfl, put4 (bt bW bx) (by omega) _ _ _ _⟩
end Go.Proofs.YtgekignonjfaiaaDoor
