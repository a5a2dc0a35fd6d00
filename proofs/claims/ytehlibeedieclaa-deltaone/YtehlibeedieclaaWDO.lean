/-
  The walk of DeltaOne.
-/
import Derived.Test.YtehlibeedieclaaDA
import Derived.Test.YtehlibeedieclaaDO
namespace Go.Proofs.Ytehlibeedieclaa.Gr
open Go.RowKit Go.Sort Dm
set_option linter.unusedVariables false

set_option maxRecDepth 20000 in
set_option maxHeartbeats 2000000 in
theorem deltaOne_walk (va : Value) (b : List Int) (vb' : Value) (d : List Int) (w : World) (sa : SeesI w va b) (la : b.length ≤ 100000000000000) (ra : ∀ x ∈ b, -9223372036854775808 ≤ x ∧ x ≤ 9223372036854775807)
    (sb : SeesI w vb' d) (lb : d.length ≤ 100000000000000) (rb : ∀ x ∈ d, -9223372036854775808 ≤ x ∧ x ≤ 9223372036854775807) :
    Calls Try.prog 5 #[va, vb'] w fun e w' => e = .returned (.bool true) ∧ Below w.heap.size w w' := by
  clear ra rb
  by_cases h : b.length ≤ 600 ∧ d.length ≤ 1500
  · obtain ⟨h6, h15⟩ := h
    by_cases hU : upS b.length ≤ d.length
    · have cA := fun (u : World) (h : Below w.heap.size w u) => apply_yes va vb' b d u h6 hU lb (sa.below h) (sb.below h)
      by_cases hD : diffS b (rowOf b d) = d
      · have cD := fun (u : World) (h : Below w.heap.size w u) (v : Value) (sv : SeesI u v (rowOf b d)) => diff_yes va v b (rowOf b d) u (rowOf_len b d).symm (by rw [rowOf_len]; exact h6) (sa.below h) sv
        have cE := fun (u : World) (h : Below w.heap.size w u) (v : Value) (sv : SeesI u v d) => ints_any v vb' d d u (by omega) (by omega) sv (sb.below h)
        rw [hD] at cD
        have HD : Hid (diffS b (rowOf b d) = d) := hD
        have e1 : decide ((600 : Int) < (b.length : Int)) = false := by simp; omega
        have e2 : decide ((1500 : Int) < (d.length : Int)) = false := by simp; omega
        have e3 : decide (d = d) = true := decide_eq_true rfl
        rw [e3] at cE
        obtain ⟨ao, cap, rfl⟩ := sa.slice
        obtain ⟨bo, bcap, rfl⟩ := sb.slice
        generalize rowOf b d = R at *
        clear hD e3
        go_enter Try.func5, Try.ntmps5
        go_wp2_with (first
          | (go_at_call 9; refine (shown9 _).mono ?_; rintro e w1 ⟨rfl, b1⟩)
          | (go_at_call 12; go_must (refine (cA _ b1).mono ?_); rintro e w2 ⟨hy, hn, b2⟩; obtain ⟨v2, rfl, s2⟩ := hy HD.out; clear hy hn; have bb2 := bt b1 b2)
          | (go_at_call 10; go_must (refine (cD _ bb2 _ s2).mono ?_); rintro e w3 ⟨v3, rfl, ho3, b3⟩; have bb3 := bt bb2 b3)
          | (go_at_call 14; go_must (refine (cE _ bb3 _ (Row.own ho3)).mono ?_); rintro e w4 ⟨rfl, b4⟩))
        go_ret
        exact ⟨rfl, bt bb3 b4⟩
      · have HD : Hid (¬ diffS b (rowOf b d) = d) := hD
        have e1 : decide ((600 : Int) < (b.length : Int)) = false := by simp; omega
        have e2 : decide ((1500 : Int) < (d.length : Int)) = false := by simp; omega
        obtain ⟨ao, cap, rfl⟩ := sa.slice
        obtain ⟨bo, bcap, rfl⟩ := sb.slice
        generalize rowOf b d = R at *
        clear hD
        go_enter Try.func5, Try.ntmps5
        go_wp2_with (first
          | (go_at_call 9; refine (shown9 _).mono ?_; rintro e w1 ⟨rfl, b1⟩)
          | (go_at_call 12; go_must (refine (cA _ b1).mono ?_); rintro e w2 ⟨hy, hn, b2⟩; obtain rfl := hn HD.out; clear hy hn; have bb2 := bt b1 b2))
        go_ret
        exact ⟨rfl, bb2⟩
    · have e1 : decide ((600 : Int) < (b.length : Int)) = false := by simp; omega
      have e2 : decide ((1500 : Int) < (d.length : Int)) = false := by simp; omega
      obtain ⟨ao, cap, rfl⟩ := sa.slice
      obtain ⟨bo, bcap, rfl⟩ := sb.slice
      have cA := fun (u : World) => apply_more ao bo b.length d.length cap bcap h6 (by omega) u
      go_enter Try.func5, Try.ntmps5
      go_wp2_with (first
        | (go_at_call 9; refine (shown9 _).mono ?_; rintro e w1 ⟨rfl, b1⟩)
        | (go_at_call 12; go_must (refine (cA _).mono ?_); rintro e w2 ⟨rfl, b2⟩; have bb2 := bt b1 b2))
      go_ret
      exact ⟨rfl, bb2⟩
  · obtain ⟨ao, cap, rfl⟩ := sa.slice
    obtain ⟨bo, bcap, rfl⟩ := sb.slice
    by_cases h6 : b.length ≤ 600
    · have e1 : decide ((600 : Int) < (b.length : Int)) = false := by simp; omega
      have e2 : decide ((1500 : Int) < (d.length : Int)) = true := by simp; omega
      clear h
      go_enter Try.func5, Try.ntmps5
      go_wp2_with (go_at_call 9; refine (shown9 _).mono ?_; rintro e w1 ⟨rfl, b1⟩)
      go_ret
      exact ⟨rfl, b1⟩
    · have e1 : decide ((600 : Int) < (b.length : Int)) = true := by simp; omega
      clear h
      go_enter Try.func5, Try.ntmps5
      go_wp2_with (go_at_call 9; refine (shown9 _).mono ?_; rintro e w1 ⟨rfl, b1⟩)
      go_ret
      exact ⟨rfl, b1⟩
end Go.Proofs.Ytehlibeedieclaa.Gr
