/-
  The walk of TrigQuarters: it returns true.
-/
import Derived.Test.YtliebglildaneaaTShown
import Derived.OpenShut
namespace Go.Proofs.Ytliebglildaneaa
open Go.RowKit Qm Tm

namespace Tm
theorem atan_front {y x : Int} (h : 1 ≤ cl x) : atanv y x = zA (cl x * 4096) (cl y * 4096) % 4294967296 := by
  unfold atanv
  rw [if_neg (by omega), if_neg (by omega)]
theorem atan_back {y x : Int} (h : cl x < 0) : atanv y x = (2147483648 + zA (-(cl x) * 4096) (-(cl y) * 4096)) % 4294967296 := by
  unfold atanv
  rw [if_neg (by omega), if_pos h]
theorem wrap_front {z : Int} (h0 : -2147483648 ≤ z) (h1 : z < 2147483648) : wrapv (z % 4294967296) 0 = z := by unfold wrapv; omega
theorem wrap_back {z : Int} (h0 : -2147483648 ≤ z) (h1 : z < 2147483648) : wrapv ((2147483648 + z) % 4294967296) 2147483648 = z := by unfold wrapv; omega
/-- a number alone -/
theorem flat_front {x : Int} (h0 : 0 ≤ x) (h1 : x ≤ 4294967295) : -255 ≤ wrapv (atanv 0 (x + 16777216)) 0 ∧ wrapv (atanv 0 (x + 16777216)) 0 ≤ 255 := by
  have e : cl (x + 16777216) = x + 16777216 := cl_in (by omega) (by omega)
  have e0 : cl 0 = 0 := cl_in (by omega) (by omega)
  rw [atan_front (by omega), e, e0]
  have q := quart_flat (p := (x + 16777216) * 4096) (by omega)
  rw [show (0 : Int) * 4096 = 0 from rfl, wrap_front (by omega) (by omega)]
  exact q
theorem flat_back {x : Int} (h0 : 0 ≤ x) (h1 : x ≤ 4294967295) : -255 ≤ wrapv (atanv 0 (-16777216 - x)) 2147483648 ∧ wrapv (atanv 0 (-16777216 - x)) 2147483648 ≤ 255 := by
  have e : cl (-16777216 - x) = -16777216 - x := cl_in (by omega) (by omega)
  have e0 : cl 0 = 0 := cl_in (by omega) (by omega)
  rw [atan_back (by omega), e, e0]
  have q := quart_flat (p := -(-16777216 - x) * 4096) (by omega)
  rw [show -(0 : Int) * 4096 = 0 from rfl, wrap_back (by omega) (by omega)]
  exact q
theorem both_up {y x : Int} (y0 : 1 ≤ y) (y1 : y ≤ 4294967295) (x0 : 1 ≤ x) (x1 : x ≤ 4294967295) : -255 ≤ wrapv (atanv y x) 0 ∧ wrapv (atanv y x) 0 ≤ 1073742079 := by
  have e : cl x = x := cl_in (by omega) (by omega)
  have e0 : cl y = y := cl_in (by omega) (by omega)
  rw [atan_front (by omega), e, e0]
  have q := quart_up (p := x * 4096) (q := y * 4096) (by omega) (by omega)
  rw [wrap_front (by omega) (by omega)]
  exact q
theorem both_down {y x : Int} (y0 : 1 ≤ y) (y1 : y ≤ 4294967295) (x0 : 1 ≤ x) (x1 : x ≤ 4294967295) : -1073742079 ≤ wrapv (atanv (-y) x) 0 ∧ wrapv (atanv (-y) x) 0 ≤ 255 := by
  have e : cl x = x := cl_in (by omega) (by omega)
  have e0 : cl (-y) = -y := cl_in (by omega) (by omega)
  rw [atan_front (by omega), e, e0]
  have q := quart_down (p := x * 4096) (q := -y * 4096) (by omega) (by omega)
  rw [wrap_front (by omega) (by omega)]
  exact q
end Tm

set_option maxRecDepth 20000 in
set_option maxHeartbeats 1000000 in
theorem quarters_flat (a0 a1 : Int) (w : World) (v0 : 0 ≤ a1) (v1 : a1 ≤ 4294967295) (h : (a1 == 0) = true ∨ (a1 == 0) = false ∧ (a0 == 0) = true) :
    Calls Try.prog 8 #[.int .u32 a0, .int .u32 a1] w fun e w' => e = .returned (.bool true) ∧ Below w.heap.size w w' := by
  have b0 : Below w.heap.size w w := Below.refl _ _
  obtain ⟨f0, f1⟩ := flat_front v0 v1
  obtain ⟨g0, g1⟩ := flat_back v0 v1
  obtain ⟨A, hA⟩ : ∃ A, atanv 0 (a1 + 16777216) = A := ⟨_, rfl⟩
  obtain ⟨B, hB⟩ : ∃ B, atanv 0 (-16777216 - a1) = B := ⟨_, rfl⟩
  rw [hA] at f0 f1
  rw [hB] at g0 g1
  obtain ⟨C, hC⟩ : ∃ C, wrapv A 0 = C := ⟨_, rfl⟩
  obtain ⟨D, hD⟩ : ∃ D, wrapv B 2147483648 = D := ⟨_, rfl⟩
  rw [hC] at f0 f1
  rw [hD] at g0 g1
  have dd : decide (-256 < D) = true := by simp; omega
  rcases h with h | ⟨h, k⟩
  all_goals
    go_enter Try.func8, Try.ntmps8
    go_wp2_with (first | (go_at_call 9; refine (shown_from w _ (by assumption)).mono ?_; rintro e wx ⟨rfl, bx⟩) | (go_at_call 10; refine (sincos_from w _ _ (by omega) (by omega) (by assumption)).mono ?_; rintro e wx ⟨rfl, bx⟩) | (go_at_call 12; refine (atan_from w _ _ _ (by assumption)).mono ?_; rintro e wx ⟨rfl, bx⟩) | (go_at_call 16; refine (wrap_from w _ _ _ (by assumption)).mono ?_; rintro e wx ⟨rfl, bx⟩) | (go_at_call 14; refine (turn_from w _ _ (by assumption)).mono ?_; rintro e wx ⟨rfl, bx⟩))
    go_ret
    exact ⟨rfl, by assumption⟩

set_option maxRecDepth 20000 in
set_option maxHeartbeats 1000000 in
theorem quarters_both (a0 a1 : Int) (w : World) (u0 : 1 ≤ a0) (u1 : a0 ≤ 4294967295) (v0 : 1 ≤ a1) (v1 : a1 ≤ 4294967295) :
    Calls Try.prog 8 #[.int .u32 a0, .int .u32 a1] w fun e w' => e = .returned (.bool true) ∧ Below w.heap.size w w' := by
  have b0 : Below w.heap.size w w := Below.refl _ _
  have k0 : (a1 == 0) = false := by simp; omega
  have k1 : (a0 == 0) = false := by simp; omega
  obtain ⟨f0, f1⟩ := both_up u0 u1 v0 v1
  obtain ⟨g0, g1⟩ := both_down u0 u1 v0 v1
  obtain ⟨A, hA⟩ : ∃ A, atanv a0 a1 = A := ⟨_, rfl⟩
  obtain ⟨B, hB⟩ : ∃ B, atanv (-a0) a1 = B := ⟨_, rfl⟩
  rw [hA] at f0 f1
  rw [hB] at g0 g1
  obtain ⟨C, hC⟩ : ∃ C, wrapv A 0 = C := ⟨_, rfl⟩
  obtain ⟨D, hD⟩ : ∃ D, wrapv B 0 = D := ⟨_, rfl⟩
  rw [hC] at f0 f1
  rw [hD] at g0 g1
  have dd : decide (-1073742080 < D) = true := by simp; omega
  go_enter Try.func8, Try.ntmps8
  go_wp2_with (first | (go_at_call 9; refine (shown_from w _ (by assumption)).mono ?_; rintro e wx ⟨rfl, bx⟩) | (go_at_call 10; refine (sincos_from w _ _ (by omega) (by omega) (by assumption)).mono ?_; rintro e wx ⟨rfl, bx⟩) | (go_at_call 12; refine (atan_from w _ _ _ (by assumption)).mono ?_; rintro e wx ⟨rfl, bx⟩) | (go_at_call 16; refine (wrap_from w _ _ _ (by assumption)).mono ?_; rintro e wx ⟨rfl, bx⟩) | (go_at_call 14; refine (turn_from w _ _ (by assumption)).mono ?_; rintro e wx ⟨rfl, bx⟩))
  go_ret
  exact ⟨rfl, by assumption⟩

theorem trigQuarters_walk (a0 : Int) (a1 : Int) (w0 : (Lit.int .u32 a0).wf = true) (w1 : (Lit.int .u32 a1).wf = true) (w : World) :
    Calls Try.prog 8 #[.int .u32 a0, .int .u32 a1] w fun e w' => e = .returned (.bool true) ∧ Below w.heap.size w w' := by
  obtain ⟨u0, u1⟩ := bounds_u32 w0
  obtain ⟨v0, v1⟩ := bounds_u32 w1
  by_cases h : a1 = 0
  · exact quarters_flat a0 a1 w v0 v1 (Or.inl (by simpa using h))
  · by_cases k : a0 = 0
    · exact quarters_flat a0 a1 w v0 v1 (Or.inr ⟨by simpa using h, by simpa using k⟩)
    · exact quarters_both a0 a1 w (by omega) u1 (by omega) v1
end Go.Proofs.Ytliebglildaneaa
