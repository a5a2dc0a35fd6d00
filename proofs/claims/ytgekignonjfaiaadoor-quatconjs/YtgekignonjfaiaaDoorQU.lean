/-
  The contracts of quat.Unit, quat.Small, quat.Turn.
-/
import Derived.Test.YtgekignonjfaiaaDoorQN
import Derived.Test.YtgekignonjfaiaaDoorHalf
namespace Go.Proofs.YtgekignonjfaiaaDoor
open Go.RowKit Go.Sort Qm

set_option maxHeartbeats 1000000 in
theorem unit_any (p : Nat → Int) (w : World) :
    Calls Tryd.prog 15 #[.agg #[.int .i64 (p 0), .int .i64 (p 1), .int .i64 (p 2), .int .i64 (p 3)]] w fun e w' => e = .returned (.tuple #[.agg #[.int .i64 (un p 0), .int .i64 (un p 1), .int .i64 (un p 2), .int .i64 (un p 3)], .bool (unB p)]) ∧ Below w.heap.size w w' := by
  obtain ⟨W, hW⟩ : ∃ W, (w.alloc (.cells #[.int .i64 (p 0), .int .i64 (p 1), .int .i64 (p 2), .int .i64 (p 3)] 24)).alloc (.cells #[.int .i64 0, .int .i64 0, .int .i64 0, .int .i64 0] 24) = W := ⟨_, rfl⟩
  obtain ⟨g1, g2⟩ := allocs2 w (.cells #[.int .i64 (p 0), .int .i64 (p 1), .int .i64 (p 2), .int .i64 (p 3)] 24) (.cells #[.int .i64 0, .int .i64 0, .int .i64 0, .int .i64 0] 24)
  have bW := ball2 w (.cells #[.int .i64 (p 0), .int .i64 (p 1), .int .i64 (p 2), .int .i64 (p 3)] 24) (.cells #[.int .i64 0, .int .i64 0, .int .i64 0, .int .i64 0] 24)
  rw [hW] at g1 g2 bW
  have hn := norm_any p W
  rw [← hW] at hn
  have HW : Hid (_ = W) := hW
  clear hW
  unfold un unB
  obtain ⟨m, hm⟩ : ∃ m, nm p = m := ⟨_, rfl⟩
  obtain ⟨X, hX⟩ : ∃ X, nmB p = X := ⟨_, rfl⟩
  rw [hm, hX] at hn
  simp only [hm, hX]
  clear hm hX
  have hq : ∀ a, Calls Tryd.prog 33 #[.int .i64 m] a fun e w' => e = .returned (.tuple #[.int .i64 (sqrt m), .bool (sqrtB m)]) ∧ w' = a := fun a => sqrt_any m a
  obtain ⟨n, hn'⟩ : ∃ n, sqrt m = n := ⟨_, rfl⟩
  obtain ⟨Y, hY⟩ : ∃ Y, sqrtB m = Y := ⟨_, rfl⟩
  simp only [hn', hY] at hq ⊢
  clear hn' hY
  have ht : ∀ wx, Below W.heap.size W wx → Calls Tryd.prog 25 #[.func (.func 34) #[] #[.pointer (some ⟨w.heap.size, 0, none⟩), .pointer (some ⟨wx.heap.size, 0, none⟩)]] (wx.alloc (.cells #[.int .i64 n] 22)) fun e b =>
      e = .returned (.tuple #[.agg #[.int .i64 (div (p 0) n), .int .i64 (div (p 1) n), .int .i64 (div (p 2) n), .int .i64 (div (p 3) n)], .bool (anyB (fun k => divB (p k) n) 4)]) ∧ Below (wx.alloc (.cells #[.int .i64 n] 22)).heap.size (wx.alloc (.cells #[.int .i64 n] 22)) b := by
    intro wx bx
    refine told_any 34 enters34 #[.pointer (some ⟨w.heap.size, 0, none⟩), .pointer (some ⟨wx.heap.size, 0, none⟩)] (fun k => div (p k) n) (fun k => divB (p k) n) (wx.alloc (.cells #[.int .i64 n] 22)) ?_
    intro k a hk hb
    exact unit1_any k hk w.heap.size wx.heap.size p n a ((Box4.of g1).below (bt (bt bx (ball1 _ _)) hb)) (cell_of_one (keep hb (heap_new _ _)))
  obtain ⟨Z, hZ⟩ : ∃ Z, anyB (fun k => divB (p k) n) 4 = Z := ⟨_, rfl⟩
  simp only [hZ] at ht ⊢
  clear hZ g1
  by_cases h0 : n = 0
  · subst h0
    simp only [if_true, if_false, show ¬ (1 : Nat) = 0 by decide, show ¬ (2 : Nat) = 0 by decide, show ¬ (3 : Nat) = 0 by decide]
    clear ht
    go_enter Tryd.func15, Tryd.ntmps15
    go_wp2_with (first | (go_at_call 13; refine hn.mono ?_; rintro e wx ⟨rfl, bx⟩; rw [HW.out] at bx; obtain ⟨d0, d1, d2, d3, f0, f1, f2, f3⟩ := four_cells (heap_old (keep bx g2) (.cells #[.int .i64 0] 22))) | (go_at_call 33; refine (hq _).mono ?_; rintro e wy ⟨rfl, rfl⟩))
    refine bodyPost_ret (v := .tuple #[.agg #[.int .i64 16777216, .int .i64 0, .int .i64 0, .int .i64 0], .bool true]) (by simp [results, Tryd.results15, go_sem, d0, d1, d2, d3]) rfl ?_
    exact ⟨rfl, put4 ((bt bW bx).alloc ((bt bW bx).size) _) (by omega) _ _ _ _⟩
  · simp only [if_neg h0]
    have h1 : (n == 0) = false := by simpa using h0
    obtain ⟨z0, hz0⟩ : ∃ z, div (p 0) n = z := ⟨_, rfl⟩
    obtain ⟨z1, hz1⟩ : ∃ z, div (p 1) n = z := ⟨_, rfl⟩
    obtain ⟨z2, hz2⟩ : ∃ z, div (p 2) n = z := ⟨_, rfl⟩
    obtain ⟨z3, hz3⟩ : ∃ z, div (p 3) n = z := ⟨_, rfl⟩
    simp only [hz0, hz1, hz2, hz3] at ht ⊢
    clear hz0 hz1 hz2 hz3 h0
    cases X <;> cases Y
    all_goals
      go_enter Tryd.func15, Tryd.ntmps15
      go_wp2_with (first | (go_at_call 13; refine hn.mono ?_; rintro e wx ⟨rfl, bx⟩; rw [HW.out] at bx) | (go_at_call 33; refine (hq _).mono ?_; rintro e wy ⟨rfl, rfl⟩) | (go_at_call 25; refine (ht _ bx).mono ?_; rintro e wz ⟨rfl, bz⟩; obtain ⟨d0, d1, d2, d3, f0, f1, f2, f3⟩ := four_cells (heap_old (keep (bt (bt bx (ball1 _ _)) bz) g2) (.cells #[.int .i64 z0, .int .i64 z1, .int .i64 z2, .int .i64 z3] 23))))
      refine bodyPost_ret (v := .tuple #[.agg #[.int .i64 z0, .int .i64 z1, .int .i64 z2, .int .i64 z3], .bool _]) (by simp [results, Tryd.results15, go_sem, d0, d1, d2, d3]; rfl) rfl ?_
      have b9 := bt bW (bt (bt bx (ball1 _ _)) bz)
      exact ⟨rfl, put4 (b9.alloc b9.size _) (by omega) _ _ _ _⟩
end Go.Proofs.YtgekignonjfaiaaDoor
