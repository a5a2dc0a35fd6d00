/-
  The walk of NvramSums.
-/
import Derived.Test.YtcfobifldlkfnaaNSh
import Derived.Test.YtcfobifldlkfnaaNOp
namespace Go.Proofs.Ytcfobifldlkfnaa.Gr
open Go.RowKit Go.Sort Qm Nm
set_option linter.unusedVariables false

set_option maxRecDepth 20000 in
set_option maxHeartbeats 2000000 in
theorem nvramSums_walk (va : Value) (a : List Int) (vb' : Value) (b : List Int) (w : World) (sa : SeesI w va a) (la : a.length ≤ 100000000000000) (ra : ∀ x ∈ a, -9223372036854775808 ≤ x ∧ x ≤ 9223372036854775807)
    (sb : SeesI w vb' b) (lb : b.length ≤ 100000000000000) (rb : ∀ x ∈ b, -9223372036854775808 ≤ x ∧ x ≤ 9223372036854775807) :
    Calls Try.prog 8 #[va, vb'] w fun e w' => e = .returned (.bool true) ∧ Below w.heap.size w w' := by
  clear ra rb
  obtain ⟨ao, acap, rfl⟩ := sa.slice
  obtain ⟨bo, bcap, rfl⟩ := sb.slice
  by_cases h5 : 500 < a.length + b.length
  · have d5 : decide ((500 : Int) < (a.length : Int) + (b.length : Int)) = true := decide_eq_true (by omega)
    clear sa sb
    generalize a.length = n at *
    generalize b.length = m at *
    --[a
    go_enter Try.func8, Try.ntmps8
    go_wp2_with (go_at_call 10; refine (shown10 _).mono ?_; rintro e w1 ⟨rfl, b1⟩)
    go_ret
    exact ⟨rfl, b1⟩
    --]a
  · have d5 : decide ((500 : Int) < (a.length : Int) + (b.length : Int)) = false := decide_eq_false (by omega)
    have cA := fun (u : World) (h : Below w.heap.size w u) => commit_any _ a u (by omega) (sa.below h)
    have cB := fun (u : World) (h : Below w.heap.size w u) => commit_any _ b u (by omega) (sb.below h)
    have cI := fun (u : World) (h : Below w.heap.size w u) => ints_any _ _ a b u (by omega) (by omega) (sa.below h) (sb.below h)
    have cS := fun (u : World) (h : Below w.heap.size w u) => steps_any _ a u (by omega) (sa.below h)
    have g0 := comS_ge a
    have g1 := comS_lt a
    have g2 : decide ((4294967296 : Int) ≤ comS a) = true := decide_eq_true g0
    have g3 : decide (comS a < (8589934592 : Int)) = true := decide_eq_true g1
    have hl1 : (a.length : Int) ≤ 500 := by omega
    by_cases he : comS a = comS b
    · rw [← he] at cB
      generalize decide (a = b) = E at cI
      generalize comS a = X at *
      clear sa sb he g0 g1
      have e3 : (a.length : Int) + 3 = 3 + (a.length : Int) := Int.add_comm _ _
      generalize a.length = n at *
      generalize b.length = m at *
      --[b
      go_enter Try.func8, Try.ntmps8
      go_wp2_with (first
        | (go_at_call 10; refine (shown10 _).mono ?_; rintro e w1 ⟨rfl, b1⟩)
        | (have _ := b2; go_at_call 19; go_must (refine (cB _ b2).mono ?_); rintro e w3 ⟨rfl, b3'⟩; have b3 := bt b2 b3')
        | (go_at_call 19; go_must (refine (cA _ b1).mono ?_); rintro e w2 ⟨rfl, b2'⟩; have b2 := bt b1 b2')
        | (go_at_call 23; go_must (refine (cS _ b3).mono ?_); rintro e w4 ⟨rfl, rfl⟩))
      go_ret
      exact ⟨by simp, b3⟩
      --]b
    · have hab : decide (a = b) = false := decide_eq_false fun e => he (by rw [e])
      rw [hab] at cI
      have d9 : decide (comS a = comS b) = false := decide_eq_false he
      have d9' : (comS a == comS b) = false := by simpa using he
      generalize comS a = X at *
      generalize comS b = Y at *
      clear sa sb g0 g1 hab
      have e3 : (a.length : Int) + 3 = 3 + (a.length : Int) := Int.add_comm _ _
      generalize a.length = n at *
      generalize b.length = m at *
      --[c
      go_enter Try.func8, Try.ntmps8
      go_wp2_with (first
        | (go_at_call 10; refine (shown10 _).mono ?_; rintro e w1 ⟨rfl, b1⟩)
        | (have _ := b2; go_at_call 19; go_must (refine (cB _ b2).mono ?_); rintro e w3 ⟨rfl, b3'⟩; have b3 := bt b2 b3')
        | (go_at_call 19; go_must (refine (cA _ b1).mono ?_); rintro e w2 ⟨rfl, b2'⟩; have b2 := bt b1 b2')
        | (go_at_call 18; go_must (refine (cI _ b3).mono ?_); rintro e w5 ⟨rfl, b5'⟩; have b5 := bt b3 b5')
        | (have _ := b5; go_at_call 23; go_must (refine (cS _ b5).mono ?_); rintro e w4 ⟨rfl, rfl⟩))
      go_ret
      exact ⟨by simp, b5⟩
      --]c
end Go.Proofs.Ytcfobifldlkfnaa.Gr
