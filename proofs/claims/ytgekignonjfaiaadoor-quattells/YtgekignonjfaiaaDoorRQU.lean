/-
  The contract of the document's Unit of quaternions.
-/
import Derived.Test.YtgekignonjfaiaaDoorRQN
namespace Go.Proofs.YtgekignonjfaiaaDoor
open Go.RowKit Go.Sort Qm

/-- was a bound met, ahead of it or at one of the first k? -/
def Qm.dB (b : Bool) (p : Nat → Int) (n : Int) (k : Nat) : Bool := b || anyB (fun j => divB (p j) n) k
theorem Qm.dB_next (b : Bool) (p : Nat → Int) (n : Int) (k : Nat) : dB b p n (k + 1) = (dB b p n k || divB (p k) n) := (Bool.or_assoc _ _ _).symm
/-- what the loop of Unit keeps: the quaternion, the result's block, the block that is filled -/
def UI (W : World) (P R D : Nat) (p g : Nat → Int) (k : Nat) (wr : World) : Prop :=
  Box4 wr P p ∧ wr.heap[R]? = some (.cells #[.int .i64 0, .int .i64 0, .int .i64 0, .int .i64 0] 24 (0, 0)) ∧ wr.heap[D]? = some (.cells (q4 g k) 24 (0, 0)) ∧ Below D W wr
theorem UI.step {W wr : World} {P R D : Nat} {p g : Nat → Int} {k : Nat} (h : UI W P R D p g k wr) (hk : k < 4) (hP : P ≠ D) (hR : R ≠ D) : UI W P R D p g (k + 1) (wr.setCell ⟨D, k, none⟩ (.int .i64 (g k))) := by
  refine ⟨fun j hj => ?_, set_other h.2.1 hR, q4_set h.2.2.1 hk, h.2.2.2.setCell (Nat.le_refl _) _⟩
  rw [World.cell?_of_block (w := wr) (Below.heap_setCell _ _ _ _ hP)]; exact h.1 j hj

set_option maxHeartbeats 2000000 in
theorem runit_any (p : Nat → Int) (w : World) :
    Calls Tryd.prog 16 #[.agg #[.int .i64 (p 0), .int .i64 (p 1), .int .i64 (p 2), .int .i64 (p 3)]] w fun e w' => e = .returned (.tuple #[.agg #[.int .i64 (un p 0), .int .i64 (un p 1), .int .i64 (un p 2), .int .i64 (un p 3)], .bool (unB p)]) ∧ Below w.heap.size w w' := by
  obtain ⟨W, hW⟩ : ∃ W, (w.alloc (.cells #[.int .i64 (p 0), .int .i64 (p 1), .int .i64 (p 2), .int .i64 (p 3)] 24)).alloc (.cells #[.int .i64 0, .int .i64 0, .int .i64 0, .int .i64 0] 24) = W := ⟨_, rfl⟩
  obtain ⟨g1, g2⟩ := allocs2 w (.cells #[.int .i64 (p 0), .int .i64 (p 1), .int .i64 (p 2), .int .i64 (p 3)] 24) (.cells #[.int .i64 0, .int .i64 0, .int .i64 0, .int .i64 0] 24)
  have bW := ball2 w (.cells #[.int .i64 (p 0), .int .i64 (p 1), .int .i64 (p 2), .int .i64 (p 3)] 24) (.cells #[.int .i64 0, .int .i64 0, .int .i64 0, .int .i64 0] 24)
  have sW : W.heap.size = w.heap.size + 2 := by rw [← hW]; simp
  rw [hW] at g1 g2 bW
  have hn := rnorm_any p W
  rw [← hW] at hn
  have HW : Hid (_ = W) := hW
  have SW : Hid _ := sW
  clear hW sW
  unfold un unB
  obtain ⟨m, hm⟩ : ∃ m, nm p = m := ⟨_, rfl⟩
  obtain ⟨X, hX⟩ : ∃ X, nmB p = X := ⟨_, rfl⟩
  rw [hm, hX] at hn
  simp only [hm, hX]
  clear hm hX
  have hq : ∀ a, Calls Tryd.prog 36 #[.int .i64 m] a fun e w' => e = .returned (.tuple #[.int .i64 (sqrt m), .bool (sqrtB m)]) ∧ w' = a := fun a => rsqrt_any m a
  obtain ⟨n, hn'⟩ : ∃ n, sqrt m = n := ⟨_, rfl⟩
  obtain ⟨Y, hY⟩ : ∃ Y, sqrtB m = Y := ⟨_, rfl⟩
  simp only [hn', hY] at hq ⊢
  clear hn' hY
  by_cases h0 : n = 0
  · subst h0
    simp only [if_true, if_false, show ¬ (1 : Nat) = 0 by decide, show ¬ (2 : Nat) = 0 by decide, show ¬ (3 : Nat) = 0 by decide]
    go_enter Tryd.func16, Tryd.ntmps16
    go_wp2_with (first | (go_at_call 14; refine hn.mono ?_; rintro e wx ⟨rfl, bx⟩; rw [HW.out] at bx; obtain ⟨d0, d1, d2, d3, f0, f1, f2, f3⟩ := four_cells (keep bx g2)) | (go_at_call 36; refine (hq _).mono ?_; rintro e wy ⟨rfl, rfl⟩))
    refine bodyPost_ret (v := .tuple #[.agg #[.int .i64 16777216, .int .i64 0, .int .i64 0, .int .i64 0], .bool true]) (by simp [results, Tryd.results16, go_sem, d0, d1, d2, d3]) rfl ?_
    exact ⟨rfl, put4 (bt bW bx) (by omega) _ _ _ _⟩
  · simp only [if_neg h0]
    have h1 : (n == 0) = false := by simpa using h0
    clear h0
    obtain ⟨B0, hB0⟩ : ∃ B0, (X || Y) = B0 := ⟨_, rfl⟩
    rw [hB0]
    change Calls Tryd.prog 16 _ w fun e w' => e = .returned (.tuple #[_, .bool (dB B0 p n 4)]) ∧ _
    have HB0 : Hid ((X || Y) = B0) := hB0
    clear hB0
    cases X <;> cases Y
    all_goals
      go_enter Tryd.func16, Tryd.ntmps16
      go_wp2_with (first | (go_at_call 14; refine hn.mono ?_; rintro e wx ⟨rfl, bx⟩; rw [HW.out] at bx) | (go_at_call 36; refine (hq _).mono ?_; rintro e wy ⟨rfl, rfl⟩))
      have start : UI wy w.heap.size (w.heap.size + 1) wy.heap.size p (fun j => div (p j) n) 0 (wy.alloc (.cells #[.int .i64 0, .int .i64 0, .int .i64 0, .int .i64 0] 24)) :=
        ⟨((Box4.of g1).below bx).below (ball1 _ _), heap_old (keep bx g2) _, heap_new _ _, ball1 _ _⟩
      have ne1 : Hid (w.heap.size ≠ wy.heap.size) := by have := bx.size; rw [SW.out] at this; show _ ≠ _; omega
      have ne2 : Hid (w.heap.size + 1 ≠ wy.heap.size) := by have := bx.size; rw [SW.out] at this; show _ ≠ _; omega
      go_loopw [5, 9] (fun o i wr => ∃ k : Nat, k ≤ 4 ∧ i = .int .i64 k ∧ o = .bool (dB B0 p n k) ∧ UI wy w.heap.size (w.heap.size + 1) wy.heap.size p (fun j => div (p j) n) k wr) (fun _ i _ => 4 - (intOf i).toNat)
      case atStart => exact ⟨0, Nat.zero_le _, rfl, by rw [← HB0.out]; rfl, start⟩
      case round =>
        clear start
        obtain ⟨k, hk, rfl, rfl, hui⟩ := hrel
        by_cases hlt : k < 4
        · have c1 := hui.1 k hlt
          have c2 := q4_cell hui.2.2.1 hlt
          have c3 := q4_free (k := k) hui.2.2.1
          have HN := dB_next B0 p n k
          have hst := hui.step hlt ne1.out ne2.out
          clear hui
          have hdv := fun a => rdiv_any (p k) n a
          obtain ⟨x, hx⟩ : ∃ x, p k = x := ⟨_, rfl⟩
          rw [hx] at c1 HN
          simp only [hx] at hst hdv
          clear hx
          obtain ⟨O, hO⟩ : ∃ O, dB B0 p n k = O := ⟨_, rfl⟩
          rw [hO] at HN
          simp only [hO]
          have HN' : Hid _ := HN
          clear HN hO
          cases O
          all_goals
            go_wp2_with (go_at_call 37; refine (hdv _).mono ?_; rintro e wz ⟨rfl, rfl⟩)
            go_roundw
            case rel => exact ⟨k + 1, by omega, by go_num, by rw [HN'.out]; rfl, hst⟩
            case measure => simp [intOf]; omega
        · have e : k = 4 := by omega
          subst e
          obtain ⟨a0, a1, a2, a3, f0, f1, f2, f3⟩ := four_cells hui.2.1
          obtain ⟨b0, b1, b2, b3, _, _, _, _⟩ := four_cells (q4_4 (fun j => div (p j) n) ▸ hui.2.2.1)
          have hb := hui.2.2.2
          have b9 := (bt bW bx).trans (hb.mono (bt bW bx).size)
          clear hui hb
          go_wp2
          refine bodyPost_ret (v := .tuple #[.agg #[.int .i64 (div (p 0) n), .int .i64 (div (p 1) n), .int .i64 (div (p 2) n), .int .i64 (div (p 3) n)], .bool (dB B0 p n 4)]) (by simp [results, Tryd.results16, go_sem, a0, a1, a2, a3]) rfl ?_
          exact ⟨rfl, put4 b9 (by omega) _ _ _ _⟩
end Go.Proofs.YtgekignonjfaiaaDoor
