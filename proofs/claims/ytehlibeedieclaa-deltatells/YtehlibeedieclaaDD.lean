/-
  The code's upTo, Many and Diff.
-/
import Derived.Test.YtehlibeedieclaaDM
namespace Go.Proofs.Ytehlibeedieclaa.Gr
open Go.RowKit Go.Sort Dm

/-- how many pieces of a size -/
def piS (n : Int) (s : Int) : Int := if n < 1 then 0 else (n - 1) / s + 1
theorem piS_60 (n : Nat) : piS n 60 = (upS n : Nat) := by unfold piS upS; split <;> omega
theorem piS_8 (n : Nat) : piS n 8 = ((n + 7) / 8 : Nat) := by unfold piS; split <;> omega

set_option maxRecDepth 20000 in
set_option maxHeartbeats 400000 in
theorem upTo_any (n s : Int) (hn : n ≤ 9223372036854775807) (hn0 : -9223372036854775808 ≤ n) (hs : s = 60 ∨ s = 8) (w : World) :
    Calls Try.prog 18 #[.int .i64 n, .int .i64 s] w fun e w' => e = .returned (.int .i64 (piS n s)) ∧ Below w.heap.size w w' := by
  by_cases h : n < 1
  · have e : piS n s = 0 := by unfold piS; rw [if_pos h]
    rw [e]
    clear e hs
    go_enter Try.func18, Try.ntmps18
    go_wp2
    go_ret
    exact ⟨rfl, Below.refl _ _⟩
  · have e : piS n s = (n - 1) / s + 1 := by unfold piS; rw [if_neg h]
    have h0 : ¬ s = 0 := by omega
    have q1 : wrap64 (n - 1) = n - 1 := by unfold wrap64; omega
    have q2 : (n - 1).tdiv s = (n - 1) / s := Int.tdiv_eq_ediv_of_nonneg (by omega)
    have q5 : 0 ≤ (n - 1) / s ∧ (n - 1) / s ≤ n - 1 := ⟨Int.ediv_nonneg (by omega) (by omega), by rcases hs with rfl | rfl <;> omega⟩
    have q3 : wrap64 ((n - 1) / s) = (n - 1) / s := by unfold wrap64; omega
    have q4 : wrap64 ((n - 1) / s + 1) = (n - 1) / s + 1 := by
      unfold wrap64
      rcases hs with rfl | rfl <;> omega
    rw [e]
    clear e
    rcases hs with rfl | rfl
    · go_enter Try.func18, Try.ntmps18
      go_wp2
      go_ret
      exact ⟨rfl, Below.refl _ _⟩
    · go_enter Try.func18, Try.ntmps18
      go_wp2
      go_ret
      exact ⟨rfl, Below.refl _ _⟩
set_option maxRecDepth 20000 in
set_option maxHeartbeats 400000 in
theorem many_any (n : Int) (hn : n ≤ 9223372036854775807) (hn0 : -9223372036854775808 ≤ n) (w : World) :
    Calls Try.prog 17 #[.int .i64 n] w fun e w' => e = .returned (.int .i64 (piS n 8)) ∧ Below w.heap.size w w' := by
  have c := upTo_any n 8 hn hn0 (Or.inr rfl) w
  go_enter Try.func17, Try.ntmps17
  go_wp2_with (go_at_call 18; refine c.mono ?_; rintro e w1 ⟨rfl, b1⟩)
  go_ret
  exact ⟨rfl, b1⟩

set_option maxRecDepth 20000 in
set_option maxHeartbeats 400000 in
theorem diff_size (ao bo : Option Addr) (n m c d : Nat) (h : ¬ n = m) (w : World) :
    Calls Try.prog 10 #[.slice ao n c, .slice bo m d] w fun e w' => e = .returned (.tuple #[.slice none 0 0, .int .i64 9]) ∧ Below w.heap.size w w' := by
  have h1 : ¬ ((n : Int) = (m : Int)) := by omega
  have h2 : decide ((n : Int) = (m : Int)) = false := decide_eq_false h1
  go_enter Try.func10, Try.ntmps10
  go_wp2
  go_ret2
  exact ⟨rfl, Below.refl _ _⟩
set_option maxRecDepth 20000 in
set_option maxHeartbeats 400000 in
theorem diff_big (ao bo : Option Addr) (n c d : Nat) (h : 600 < n) (w : World) :
    Calls Try.prog 10 #[.slice ao n c, .slice bo n d] w fun e w' => e = .returned (.tuple #[.slice none 0 0, .int .i64 5]) ∧ Below w.heap.size w w' := by
  have h1 : (600 : Int) < (n : Int) := by omega
  have h2 : decide ((600 : Int) < (n : Int)) = true := decide_eq_true h1
  go_enter Try.func10, Try.ntmps10
  go_wp2
  go_ret2
  exact ⟨rfl, Below.refl _ _⟩
end Go.Proofs.Ytehlibeedieclaa.Gr
