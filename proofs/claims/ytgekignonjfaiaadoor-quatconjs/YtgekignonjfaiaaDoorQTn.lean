/-
  The contract of quat.Turn.
-/
import Derived.Test.YtgekignonjfaiaaDoorQT
namespace Go.Proofs.YtgekignonjfaiaaDoor
open Go.RowKit Go.Sort Qm

theorem put3 {B D : Nat} {w a : World} (h : Below B w a) (hD : B ≤ D) (x y z : Value) : Below B w (((a.setCell ⟨D, 0, none⟩ x).setCell ⟨D, 1, none⟩ y).setCell ⟨D, 2, none⟩ z) :=
  ((h.setCell hD x).setCell hD y).setCell hD z

set_option maxHeartbeats 3000000 in
set_option maxRecDepth 20000 in
theorem turn_any (q v : Nat → Int) (w : World) (hG : Less w) :
    Calls Tryd.prog 21 #[.agg #[.int .i64 (q 0), .int .i64 (q 1), .int .i64 (q 2), .int .i64 (q 3)], .agg #[.int .i64 (v 0), .int .i64 (v 1), .int .i64 (v 2)]] w fun e w' =>
      e = .returned (.tuple #[.agg #[.int .i64 (tn q v 1), .int .i64 (tn q v 2), .int .i64 (tn q v 3)], .bool (tnB q v)]) ∧ Below w.heap.size w w' := by
  obtain ⟨W, hW⟩ : ∃ W, ((w.alloc (.cells #[.int .i64 (q 0), .int .i64 (q 1), .int .i64 (q 2), .int .i64 (q 3)] 24)).alloc (.cells #[.int .i64 (v 0), .int .i64 (v 1), .int .i64 (v 2)] 35)).alloc (.cells #[.int .i64 0, .int .i64 0, .int .i64 0] 35) = W := ⟨_, rfl⟩
  obtain ⟨g1, g2, g3⟩ := allocs3 w (.cells #[.int .i64 (q 0), .int .i64 (q 1), .int .i64 (q 2), .int .i64 (q 3)] 24) (.cells #[.int .i64 (v 0), .int .i64 (v 1), .int .i64 (v 2)] 35) (.cells #[.int .i64 0, .int .i64 0, .int .i64 0] 35)
  have bW := ball3 w (.cells #[.int .i64 (q 0), .int .i64 (q 1), .int .i64 (q 2), .int .i64 (q 3)] 24) (.cells #[.int .i64 (v 0), .int .i64 (v 1), .int .i64 (v 2)] 35) (.cells #[.int .i64 0, .int .i64 0, .int .i64 0] 35)
  rw [hW] at g1 g2 g3 bW
  have m1 : ∀ a, Less a → Calls Tryd.prog 11 #[.agg #[.int .i64 (q 0), .int .i64 (q 1), .int .i64 (q 2), .int .i64 (q 3)], .agg #[.int .i64 0, .int .i64 (v 0), .int .i64 (v 1), .int .i64 (v 2)]] a fun e w' =>
      e = .returned (.tuple #[.agg #[.int .i64 (qm q (vq 0 v) 0), .int .i64 (qm q (vq 0 v) 1), .int .i64 (qm q (vq 0 v) 2), .int .i64 (qm q (vq 0 v) 3)], .bool (anyB (qmB q (vq 0 v)) 4)]) ∧ Below a.heap.size a w' := fun a ha => qmul_any q (vq 0 v) a ha
  have m2 := fun a => turned_any q a
  have m3 : ∀ a, Less a → _ := fun a ha => qmul_any (qm q (vq 0 v)) (cj q) a ha
  unfold tn tnB
  obtain ⟨X, hX⟩ : ∃ X, anyB (qmB q (vq 0 v)) 4 = X := ⟨_, rfl⟩
  obtain ⟨Y, hY⟩ : ∃ Y, anyB (cjB q) 4 = Y := ⟨_, rfl⟩
  obtain ⟨Z, hZ⟩ : ∃ Z, anyB (qmB (qm q (vq 0 v)) (cj q)) 4 = Z := ⟨_, rfl⟩
  obtain ⟨r0, hr0⟩ : ∃ z, qm (qm q (vq 0 v)) (cj q) 0 = z := ⟨_, rfl⟩
  obtain ⟨r1, hr1⟩ : ∃ z, qm (qm q (vq 0 v)) (cj q) 1 = z := ⟨_, rfl⟩
  obtain ⟨r2, hr2⟩ : ∃ z, qm (qm q (vq 0 v)) (cj q) 2 = z := ⟨_, rfl⟩
  obtain ⟨r3, hr3⟩ : ∃ z, qm (qm q (vq 0 v)) (cj q) 3 = z := ⟨_, rfl⟩
  simp only [hZ, hr0, hr1, hr2, hr3] at m3
  rw [hX, hY, hZ, hr1, hr2, hr3]
  clear hZ hr0 hr1 hr2 hr3
  obtain ⟨s0, hs0⟩ : ∃ z, qm q (vq 0 v) 0 = z := ⟨_, rfl⟩
  obtain ⟨s1, hs1⟩ : ∃ z, qm q (vq 0 v) 1 = z := ⟨_, rfl⟩
  obtain ⟨s2, hs2⟩ : ∃ z, qm q (vq 0 v) 2 = z := ⟨_, rfl⟩
  obtain ⟨s3, hs3⟩ : ∃ z, qm q (vq 0 v) 3 = z := ⟨_, rfl⟩
  simp only [hX, hs0, hs1, hs2, hs3] at m1
  simp only [hs0, hs1, hs2, hs3] at m3
  clear hX hs0 hs1 hs2 hs3
  obtain ⟨t0, ht0⟩ : ∃ z, cj q 0 = z := ⟨_, rfl⟩
  obtain ⟨t1, ht1⟩ : ∃ z, cj q 1 = z := ⟨_, rfl⟩
  obtain ⟨t2, ht2⟩ : ∃ z, cj q 2 = z := ⟨_, rfl⟩
  obtain ⟨t3, ht3⟩ : ∃ z, cj q 3 = z := ⟨_, rfl⟩
  simp only [hY, ht0, ht1, ht2, ht3] at m2
  simp only [ht0, ht1, ht2, ht3] at m3
  clear hY ht0 ht1 ht2 ht3
  have hGW : Less W := hG.below bW
  have M1 := m1 W hGW
  rw [← hW] at M1
  have HW : Hid (_ = W) := hW
  clear hW m1 hG
  have K1 : Hid (∀ a, Below W.heap.size W a → _) := fun a ha => four_cells (keep ha g1)
  have K3 : Hid (∀ a, Below W.heap.size W a → _) := fun a ha => three_cells (keep ha g3)
  have ways : (X = true) ∨ (X = false ∧ Y = true) ∨ (X = false ∧ Y = false) := by cases X <;> cases Y <;> simp
  rcases ways with rfl | ⟨rfl, rfl⟩ | ⟨rfl, rfl⟩
  all_goals
    go_enter Tryd.func21, Tryd.ntmps21
    go_wp2_with (first | (go_at_call_of 11 (Value.int IntKind.i64 (v 0)); refine M1.mono ?_; rintro e wa ⟨rfl, ba⟩; rw [HW.out] at ba; have ba2 := ba.alloc ba.size (.cells #[.int .i64 s0, .int .i64 s1, .int .i64 s2, .int .i64 s3] 24); obtain ⟨a0, a1, a2, a3, _⟩ := K1.out _ ba2) | (go_at_call 38; refine (m2 _).mono ?_; rintro e wb ⟨rfl, bb⟩; have bb1 := bt ba2 bb; have bb2 := bb1.alloc bb1.size (.cells #[.int .i64 t0, .int .i64 t1, .int .i64 t2, .int .i64 t3] 24); obtain ⟨c0, c1, c2, c3, _⟩ := four_cells (heap_old (keep bb (heap_new wa (.cells #[.int .i64 s0, .int .i64 s1, .int .i64 s2, .int .i64 s3] 24))) (.cells #[.int .i64 t0, .int .i64 t1, .int .i64 t2, .int .i64 t3] 24))) | (go_at_call_of 11 (Value.int IntKind.i64 t1); refine (m3 _ (hGW.below bb2)).mono ?_; rintro e wc ⟨rfl, bc⟩; have bc1 := bt bb2 bc; have bc2 := bc1.alloc bc1.size (.cells #[.int .i64 r0, .int .i64 r1, .int .i64 r2, .int .i64 r3] 24); obtain ⟨d0, d1, d2, f0, f1, f2⟩ := K3.out _ bc2))
    refine bodyPost_ret (v := .tuple #[.agg #[.int .i64 r1, .int .i64 r2, .int .i64 r3], .bool _]) (by simp [results, Tryd.results21, go_sem, d0, d1, d2]; rfl) rfl ?_
    exact ⟨rfl, put3 (bt bW bc2) (by omega) _ _ _⟩
end Go.Proofs.YtgekignonjfaiaaDoor
