/-
  The walk of TrigAngles: it returns true.
-/
import Derived.Test.YtliebglildaneaaTShown
import Derived.OpenShut
namespace Go.Proofs.Ytliebglildaneaa
open Go.RowKit Qm Tm

namespace Tm
/-- both numbers turned round -/
theorem atan_round {y x : Int} (y0 : -70368744177663 < y) (y1 : y < 70368744177663) (x0 : -70368744177663 < x) (x1 : x < 70368744177663) (hx : ¬ x = 0) : atanv y x = (atanv (-y) (-x) + 2147483648) % 4294967296 := by
  have e1 : cl x = x := cl_in (by omega) (by omega)
  have e2 : cl y = y := cl_in (by omega) (by omega)
  have e3 : cl (-x) = -x := cl_in (by omega) (by omega)
  have e4 : cl (-y) = -y := cl_in (by omega) (by omega)
  unfold atanv
  rw [e1, e2, e3, e4]
  rw [if_neg (show ¬ (x = 0 ∧ y = 0) by omega), if_neg (show ¬ (-x = 0 ∧ -y = 0) by omega)]
  by_cases h : x < 0
  · rw [if_pos h, if_neg (show ¬ -x < 0 by omega)]
    generalize zA (-x * 4096) (-y * 4096) = z
    omega
  · rw [if_neg h, if_pos (show -x < 0 by omega), Int.neg_neg, Int.neg_neg]
    generalize zA (x * 4096) (y * 4096) = z
    omega
theorem atan_bd (y x : Int) : 0 ≤ atanv y x ∧ atanv y x ≤ 4294967295 := by
  unfold atanv
  split
  · omega
  · split <;> omega
/-- the way there and back -/
theorem way_back {a b : Int} (h : ¬ wrapv b a = -2147483648) : wrapv a b = -(wrapv b a) := by unfold wrapv at *; omega
theorem way_half {a b : Int} (h : wrapv b a = -2147483648) : wrapv a b = -2147483648 := by unfold wrapv at *; omega
theorem way_there {a b : Int} (a0 : 0 ≤ a) (a1 : a ≤ 4294967295) : (b + wrapv a b % 4294967296) % 4294967296 = a := by unfold wrapv; omega
theorem wrapv_bd (a b : Int) : -2147483648 ≤ wrapv a b ∧ wrapv a b ≤ 2147483647 := by unfold wrapv; omega
end Tm

set_option maxRecDepth 20000 in
set_option maxHeartbeats 1000000 in
theorem angles_out (y x a b : Int) (w : World) (h : 70368744177663 ≤ y ∨ y < 70368744177663 ∧ y ≤ -70368744177663 ∨ -70368744177663 < y ∧ y < 70368744177663 ∧ 70368744177663 ≤ x ∨ -70368744177663 < y ∧ y < 70368744177663 ∧ x < 70368744177663 ∧ x ≤ -70368744177663) :
    Calls Try.prog 5 #[.agg #[.int .i64 y, .int .i64 x, .int .u32 a, .int .u32 b]] w fun e w' => e = .returned (.bool true) ∧ Below w.heap.size w w' := by
  have b0 : Below w.heap.size w (w.alloc (.cells #[.int .i64 y, .int .i64 x, .int .u32 a, .int .u32 b] 35)) := (Below.refl _ _).alloc (Nat.le_refl _) _
  rcases h with h | ⟨h, h'⟩ | ⟨h, h', h''⟩ | ⟨h, h', h'', h'''⟩
  all_goals
    go_enter Try.func5, Try.ntmps5
    go_wp2_with (first | (go_at_call 9; refine (shown_from w _ (by assumption)).mono ?_; rintro e wx ⟨rfl, bx⟩) | (go_at_call 10; refine (sincos_from w _ _ (by omega) (by omega) (by assumption)).mono ?_; rintro e wx ⟨rfl, bx⟩) | (go_at_call 12; refine (atan_from w _ _ _ (by assumption)).mono ?_; rintro e wx ⟨rfl, bx⟩) | (go_at_call 16; refine (wrap_from w _ _ _ (by assumption)).mono ?_; rintro e wx ⟨rfl, bx⟩) | (go_at_call 14; refine (turn_from w _ _ (by assumption)).mono ?_; rintro e wx ⟨rfl, bx⟩))
    go_ret
    exact ⟨rfl, by assumption⟩

set_option maxRecDepth 20000 in
set_option maxHeartbeats 2000000 in
theorem angles_in (y x a b : Int) (w : World) (y0 : -70368744177663 < y) (y1 : y < 70368744177663) (x0 : -70368744177663 < x) (x1 : x < 70368744177663) (a0 : 0 ≤ a) (a1 : a ≤ 4294967295) (_c0 : 0 ≤ b) (_c1 : b ≤ 4294967295) :
    Calls Try.prog 5 #[.agg #[.int .i64 y, .int .i64 x, .int .u32 a, .int .u32 b]] w fun e w' => e = .returned (.bool true) ∧ Below w.heap.size w w' := by
  have b0 : Below w.heap.size w (w.alloc (.cells #[.int .i64 y, .int .i64 x, .int .u32 a, .int .u32 b] 35)) := (Below.refl _ _).alloc (Nat.le_refl _) _
  have R : Hid (x = 0 ∨ atanv y x = (atanv (-y) (-x) + 2147483648) % 4294967296) := by
    by_cases h : x = 0
    · exact Or.inl h
    · exact Or.inr (atan_round y0 y1 x0 x1 h)
  obtain ⟨q0, q1⟩ := atan_bd (-y) (-x)
  obtain ⟨P, hP⟩ : ∃ P, atanv y x = P := ⟨_, rfl⟩
  obtain ⟨Q, hQ⟩ : ∃ Q, atanv (-y) (-x) = Q := ⟨_, rfl⟩
  rw [hP, hQ] at R
  rw [hQ] at q0 q1
  have wy := way_back (a := a) (b := b)
  have sym := way_half (a := a) (b := b)
  have wt := way_there (b := b) a0 a1
  have wb := wrapv_bd b a
  obtain ⟨V, hV⟩ : ∃ V, wrapv a b = V := ⟨_, rfl⟩
  obtain ⟨W, hW⟩ : ∃ W, wrapv b a = W := ⟨_, rfl⟩
  rw [hV, hW] at wy sym
  rw [hV] at wt
  rw [hW] at wb
  obtain ⟨wb0, wb1⟩ := wb
  by_cases c : W = -2147483648
  · have hv := sym c
    subst c
    subst hv
    have k1 : (b + 2147483648) % 4294967296 = a := by omega
    have k2 : IntKind.u32.wrap (b + 2147483648) = a := by rw [IntKind.wrap_u32]; exact k1
    have k5 : wrap32 2147483648 = -2147483648 := by unfold wrap32; omega
    clear wy wt sym wb0 wb1
    rcases R.out with h | h
    · have h' : (x == 0) = true := by simpa using h
      clear h R
      go_enter Try.func5, Try.ntmps5
      go_wp2_with (first | (go_at_call 9; refine (shown_from w _ (by assumption)).mono ?_; rintro e wx ⟨rfl, bx⟩) | (go_at_call 10; refine (sincos_from w _ _ (by omega) (by omega) (by assumption)).mono ?_; rintro e wx ⟨rfl, bx⟩) | (go_at_call 12; refine (atan_from w _ _ _ (by assumption)).mono ?_; rintro e wx ⟨rfl, bx⟩) | (go_at_call 16; refine (wrap_from w _ _ _ (by assumption)).mono ?_; rintro e wx ⟨rfl, bx⟩) | (go_at_call 14; refine (turn_from w _ _ (by assumption)).mono ?_; rintro e wx ⟨rfl, bx⟩))
      go_ret
      exact ⟨rfl, by assumption⟩
    · have k3 : IntKind.u32.wrap (Q + 2147483648) = P := by rw [IntKind.wrap_u32]; exact h.symm
      have k4 : (Q + 2147483648) % 4294967296 = P := h.symm
      clear h R
      go_enter Try.func5, Try.ntmps5
      go_wp2_with (first | (go_at_call 9; refine (shown_from w _ (by assumption)).mono ?_; rintro e wx ⟨rfl, bx⟩) | (go_at_call 10; refine (sincos_from w _ _ (by omega) (by omega) (by assumption)).mono ?_; rintro e wx ⟨rfl, bx⟩) | (go_at_call 12; refine (atan_from w _ _ _ (by assumption)).mono ?_; rintro e wx ⟨rfl, bx⟩) | (go_at_call 16; refine (wrap_from w _ _ _ (by assumption)).mono ?_; rintro e wx ⟨rfl, bx⟩) | (go_at_call 14; refine (turn_from w _ _ (by assumption)).mono ?_; rintro e wx ⟨rfl, bx⟩))
      all_goals go_ret
      all_goals exact ⟨rfl, by assumption⟩
  · have hv : V = -W := wy c
    subst hv
    have wb2 : -2147483647 ≤ W := by omega
    obtain ⟨U, hU⟩ : ∃ U, IntKind.u32.wrap (-W) = U := ⟨_, rfl⟩
    have hU' : -W % 4294967296 = U := by rw [← hU, IntKind.wrap_u32]
    have k1 : (b + U) % 4294967296 = a := by rw [← hU']; exact wt
    have k2 : IntKind.u32.wrap (b + U) = a := by rw [IntKind.wrap_u32]; exact k1
    clear wy wt sym c wb0
    rcases R.out with h | h
    · have h' : (x == 0) = true := by simpa using h
      clear h R
      go_enter Try.func5, Try.ntmps5
      go_wp2_with (first | (go_at_call 9; refine (shown_from w _ (by assumption)).mono ?_; rintro e wx ⟨rfl, bx⟩) | (go_at_call 10; refine (sincos_from w _ _ (by omega) (by omega) (by assumption)).mono ?_; rintro e wx ⟨rfl, bx⟩) | (go_at_call 12; refine (atan_from w _ _ _ (by assumption)).mono ?_; rintro e wx ⟨rfl, bx⟩) | (go_at_call 16; refine (wrap_from w _ _ _ (by assumption)).mono ?_; rintro e wx ⟨rfl, bx⟩) | (go_at_call 14; refine (turn_from w _ _ (by assumption)).mono ?_; rintro e wx ⟨rfl, bx⟩))
      go_ret
      exact ⟨rfl, by assumption⟩
    · have k3 : IntKind.u32.wrap (Q + 2147483648) = P := by rw [IntKind.wrap_u32]; exact h.symm
      have k4 : (Q + 2147483648) % 4294967296 = P := h.symm
      clear h R
      go_enter Try.func5, Try.ntmps5
      go_wp2_with (first | (go_at_call 9; refine (shown_from w _ (by assumption)).mono ?_; rintro e wx ⟨rfl, bx⟩) | (go_at_call 10; refine (sincos_from w _ _ (by omega) (by omega) (by assumption)).mono ?_; rintro e wx ⟨rfl, bx⟩) | (go_at_call 12; refine (atan_from w _ _ _ (by assumption)).mono ?_; rintro e wx ⟨rfl, bx⟩) | (go_at_call 16; refine (wrap_from w _ _ _ (by assumption)).mono ?_; rintro e wx ⟨rfl, bx⟩) | (go_at_call 14; refine (turn_from w _ _ (by assumption)).mono ?_; rintro e wx ⟨rfl, bx⟩))
      all_goals go_ret
      all_goals exact ⟨rfl, by assumption⟩

theorem trigAngles_walk (y x a b : Int) (w2 : (Lit.int .u32 a).wf = true) (w3 : (Lit.int .u32 b).wf = true) (w : World) :
    Calls Try.prog 5 #[.agg #[.int .i64 y, .int .i64 x, .int .u32 a, .int .u32 b]] w fun e w' => e = .returned (.bool true) ∧ Below w.heap.size w w' := by
  obtain ⟨u0, u1⟩ := bounds_u32 w2
  obtain ⟨v0, v1⟩ := bounds_u32 w3
  by_cases h : -70368744177663 < y ∧ y < 70368744177663 ∧ -70368744177663 < x ∧ x < 70368744177663
  · exact angles_in y x a b w h.1 h.2.1 h.2.2.1 h.2.2.2 u0 u1 v0 v1
  · exact angles_out y x a b w (by omega)
end Go.Proofs.Ytliebglildaneaa
