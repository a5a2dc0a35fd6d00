/-
  The contracts of the document's Mul, Norm, Conj, Right of quaternions.
-/
import Derived.Test.YtgekignonjfaiaaDoorRF
import Derived.Test.YtgekignonjfaiaaDoorQN
import Derived.Test.YtgekignonjfaiaaDoorOf
namespace Go.Proofs.YtgekignonjfaiaaDoor
open Go.RowKit Go.Sort Qm

set_option maxHeartbeats 3000000 in
set_option maxRecDepth 20000 in
theorem rqmul_any (p q : Nat → Int) (w : World) :
    Calls Tryd.prog 12 #[.agg #[.int .i64 (p 0), .int .i64 (p 1), .int .i64 (p 2), .int .i64 (p 3)], .agg #[.int .i64 (q 0), .int .i64 (q 1), .int .i64 (q 2), .int .i64 (q 3)]] w fun e w' =>
      e = .returned (.tuple #[.agg #[.int .i64 (qm p q 0), .int .i64 (qm p q 1), .int .i64 (qm p q 2), .int .i64 (qm p q 3)], .bool (anyB (qmB p q) 4)]) ∧ Below w.heap.size w w' := by
  have h0 : ∀ w, Calls Tryd.prog 31 #[.agg #[.int .i64 (p 0), .int .i64 (p 1), .int .i64 (p 2), .int .i64 (p 3)], .agg #[.int .i64 (q 0), .int .i64 (q 1), .int .i64 (q 2), .int .i64 (q 3)], .agg #[.bool false, .bool true, .bool true, .bool true]] w fun e w' =>
      e = .returned (.tuple #[.int .i64 (qm p q 0), .bool (qmB p q 0)]) ∧ Below w.heap.size w w' := fun w => four_any p (fun k => q (oth 0 k)) (lessB 0) w
  have h1 : ∀ w, Calls Tryd.prog 31 #[.agg #[.int .i64 (p 0), .int .i64 (p 1), .int .i64 (p 2), .int .i64 (p 3)], .agg #[.int .i64 (q 1), .int .i64 (q 0), .int .i64 (q 3), .int .i64 (q 2)], .agg #[.bool false, .bool false, .bool false, .bool true]] w fun e w' =>
      e = .returned (.tuple #[.int .i64 (qm p q 1), .bool (qmB p q 1)]) ∧ Below w.heap.size w w' := fun w => four_any p (fun k => q (oth 1 k)) (lessB 1) w
  have h2 : ∀ w, Calls Tryd.prog 31 #[.agg #[.int .i64 (p 0), .int .i64 (p 1), .int .i64 (p 2), .int .i64 (p 3)], .agg #[.int .i64 (q 2), .int .i64 (q 3), .int .i64 (q 0), .int .i64 (q 1)], .agg #[.bool false, .bool true, .bool false, .bool false]] w fun e w' =>
      e = .returned (.tuple #[.int .i64 (qm p q 2), .bool (qmB p q 2)]) ∧ Below w.heap.size w w' := fun w => four_any p (fun k => q (oth 2 k)) (lessB 2) w
  have h3 : ∀ w, Calls Tryd.prog 31 #[.agg #[.int .i64 (p 0), .int .i64 (p 1), .int .i64 (p 2), .int .i64 (p 3)], .agg #[.int .i64 (q 3), .int .i64 (q 2), .int .i64 (q 1), .int .i64 (q 0)], .agg #[.bool false, .bool false, .bool true, .bool false]] w fun e w' =>
      e = .returned (.tuple #[.int .i64 (qm p q 3), .bool (qmB p q 3)]) ∧ Below w.heap.size w w' := fun w => four_any p (fun k => q (oth 3 k)) (lessB 3) w
  obtain ⟨W, hW⟩ : ∃ W, (((w.alloc (.cells #[.int .i64 (p 0), .int .i64 (p 1), .int .i64 (p 2), .int .i64 (p 3)] 24)).alloc (.cells #[.int .i64 (q 0), .int .i64 (q 1), .int .i64 (q 2), .int .i64 (q 3)] 24)).alloc (.cells #[.int .i64 0, .int .i64 0, .int .i64 0, .int .i64 0] 24)).alloc (.cells #[.int .i64 (p 0), .int .i64 (p 1), .int .i64 (p 2), .int .i64 (p 3)] 23) = W := ⟨_, rfl⟩
  obtain ⟨_, g2, g3⟩ := allocs3 w (.cells #[.int .i64 (p 0), .int .i64 (p 1), .int .i64 (p 2), .int .i64 (p 3)] 24) (.cells #[.int .i64 (q 0), .int .i64 (q 1), .int .i64 (q 2), .int .i64 (q 3)] 24) (.cells #[.int .i64 0, .int .i64 0, .int .i64 0, .int .i64 0] 24)
  have g2 := heap_old g2 (.cells #[.int .i64 (p 0), .int .i64 (p 1), .int .i64 (p 2), .int .i64 (p 3)] 23)
  have g3 := heap_old g3 (.cells #[.int .i64 (p 0), .int .i64 (p 1), .int .i64 (p 2), .int .i64 (p 3)] 23)
  have g4 := heap_new (((w.alloc (.cells #[.int .i64 (p 0), .int .i64 (p 1), .int .i64 (p 2), .int .i64 (p 3)] 24)).alloc (.cells #[.int .i64 (q 0), .int .i64 (q 1), .int .i64 (q 2), .int .i64 (q 3)] 24)).alloc (.cells #[.int .i64 0, .int .i64 0, .int .i64 0, .int .i64 0] 24)) (.cells #[.int .i64 (p 0), .int .i64 (p 1), .int .i64 (p 2), .int .i64 (p 3)] 23)
  have bW := (ball3 w (.cells #[.int .i64 (p 0), .int .i64 (p 1), .int .i64 (p 2), .int .i64 (p 3)] 24) (.cells #[.int .i64 (q 0), .int .i64 (q 1), .int .i64 (q 2), .int .i64 (q 3)] 24) (.cells #[.int .i64 0, .int .i64 0, .int .i64 0, .int .i64 0] 24)).alloc (by simp; omega) (.cells #[.int .i64 (p 0), .int .i64 (p 1), .int .i64 (p 2), .int .i64 (p 3)] 23)
  simp only [World.size_alloc] at g4
  rw [hW] at g2 g3 g4 bW
  have HW : Hid (_ = W) := hW
  clear hW
  obtain ⟨z0, hz0⟩ : ∃ z, qm p q 0 = z := ⟨_, rfl⟩
  obtain ⟨z1, hz1⟩ : ∃ z, qm p q 1 = z := ⟨_, rfl⟩
  obtain ⟨z2, hz2⟩ : ∃ z, qm p q 2 = z := ⟨_, rfl⟩
  obtain ⟨z3, hz3⟩ : ∃ z, qm p q 3 = z := ⟨_, rfl⟩
  change Calls Tryd.prog 12 _ w fun e w' => e = .returned (.tuple #[.agg #[.int .i64 (qm p q 0), .int .i64 (qm p q 1), .int .i64 (qm p q 2), .int .i64 (qm p q 3)], .bool (qmB p q 0 || qmB p q 1 || qmB p q 2 || qmB p q 3)]) ∧ Below w.heap.size w w'
  obtain ⟨x0, hx0⟩ : ∃ z, qmB p q 0 = z := ⟨_, rfl⟩
  obtain ⟨x1, hx1⟩ : ∃ z, qmB p q 1 = z := ⟨_, rfl⟩
  obtain ⟨x2, hx2⟩ : ∃ z, qmB p q 2 = z := ⟨_, rfl⟩
  obtain ⟨x3, hx3⟩ : ∃ z, qmB p q 3 = z := ⟨_, rfl⟩
  simp only [hz0, hx0] at h0
  simp only [hz1, hx1] at h1
  simp only [hz2, hx2] at h2
  simp only [hz3, hx3] at h3
  rw [hz0, hz1, hz2, hz3, hx0, hx1, hx2, hx3]
  clear hz0 hz1 hz2 hz3 hx0 hx1 hx2 hx3
  have C2 : ∀ a, Below W.heap.size W a → _ := fun a ha => four_cells (keep ha g2)
  have C4 : ∀ a, Below W.heap.size W a → _ := fun a ha => four_cells (keep ha g4)
  have K2 : Hid _ := C2
  have K4 : Hid _ := C4
  clear C2 C4
  have ways : (x0 = true) ∨ (x0 = false ∧ x1 = true) ∨ (x0 = false ∧ x1 = false ∧ x2 = true) ∨ (x0 = false ∧ x1 = false ∧ x2 = false) := by cases x0 <;> cases x1 <;> cases x2 <;> simp
  rcases ways with rfl | ⟨rfl, rfl⟩ | ⟨rfl, rfl, rfl⟩ | ⟨rfl, rfl, rfl⟩
  all_goals
    go_enter Tryd.func12, Tryd.ntmps12
    go_wp2_with (first | (go_at_call_of 31 (Value.agg #[Value.bool false, Value.bool true, Value.bool true, Value.bool true]); refine (h0 _).mono ?_; rintro e wa ⟨rfl, ba⟩; rw [HW.out] at ba; obtain ⟨a0, a1, a2, a3, _⟩ := K2.out _ ba; obtain ⟨l0, l1, l2, l3, _⟩ := K4.out _ ba) | (go_at_call_of 31 (Value.agg #[Value.bool false, Value.bool false, Value.bool false, Value.bool true]); refine (h1 _).mono ?_; rintro e wb ⟨rfl, bb⟩; have bb := bt ba bb; obtain ⟨b0, b1, b2, b3, _⟩ := K2.out _ bb; obtain ⟨m0, m1, m2, m3, _⟩ := K4.out _ bb) | (go_at_call_of 31 (Value.agg #[Value.bool false, Value.bool true, Value.bool false, Value.bool false]); refine (h2 _).mono ?_; rintro e wc ⟨rfl, bc⟩; have bc := bt bb bc; obtain ⟨c0, c1, c2, c3, _⟩ := K2.out _ bc; obtain ⟨n0, n1, n2, n3, _⟩ := K4.out _ bc) | (go_at_call_of 31 (Value.agg #[Value.bool false, Value.bool false, Value.bool true, Value.bool false]); refine (h3 _).mono ?_; rintro e wd ⟨rfl, bd⟩; have bd := bt bc bd; obtain ⟨d0, d1, d2, d3, f0, f1, f2, f3⟩ := four_cells (keep bd g3)))
    refine bodyPost_ret (v := .tuple #[.agg #[.int .i64 z0, .int .i64 z1, .int .i64 z2, .int .i64 z3], .bool _]) (by simp [results, Tryd.results12, go_sem, d0, d1, d2, d3]; rfl) rfl ?_
    exact ⟨rfl, put4 (bt bW bd) (by omega) _ _ _ _⟩
end Go.Proofs.YtgekignonjfaiaaDoor
