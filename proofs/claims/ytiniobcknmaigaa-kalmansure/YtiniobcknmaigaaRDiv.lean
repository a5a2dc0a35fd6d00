/-
  The contract of the document's Div: bit by bit.
-/
import Derived.Test.YtiniobcknmaigaaRMul
import Derived.Test.YtiniobcknmaigaaMathC
namespace Go.Proofs.Ytiniobcknmaigaa
open Go.RowKit Qm

/-- what stands at the head of each bit -/
structure Bits (x y n r : Int) (j : Nat) : Prop where
  sum : n * y + r = x * 2 ^ j
  r0 : 0 ≤ r
  r1 : r < y
  n0 : 0 ≤ n
  n1 : n < 16777216 * 2 ^ j

theorem Bits.yes {x y n r : Int} {j : Nat} (h : Bits x y n r j) (c : y ≤ r * 2) : Bits x y (n * 2 + 1) (r * 2 - y) (j + 1) := by
  obtain ⟨s, r0, r1, n0, n1⟩ := h
  have e : (n * 2 + 1) * y = n * y * 2 + y := by rw [Int.add_mul, Int.one_mul, Int.mul_right_comm]
  have e2 : x * 2 ^ (j + 1) = x * 2 ^ j * 2 := by rw [Int.pow_succ, Int.mul_assoc]
  have e3 : (2 : Int) ^ (j + 1) = 2 ^ j * 2 := Int.pow_succ 2 j
  exact ⟨by omega, by omega, by omega, by omega, by omega⟩
theorem Bits.no {x y n r : Int} {j : Nat} (h : Bits x y n r j) (c : ¬ y ≤ r * 2) : Bits x y (n * 2) (r * 2) (j + 1) := by
  obtain ⟨s, r0, r1, n0, n1⟩ := h
  have e : n * 2 * y = n * y * 2 := by rw [Int.mul_right_comm]
  have e2 : x * 2 ^ (j + 1) = x * 2 ^ j * 2 := by rw [Int.pow_succ, Int.mul_assoc]
  have e3 : (2 : Int) ^ (j + 1) = 2 ^ j * 2 := Int.pow_succ 2 j
  exact ⟨by omega, by omega, by omega, by omega, by omega⟩
theorem pow24 (j : Nat) (h : j ≤ 24) : (2 : Int) ^ j ≤ 16777216 := by
  have h1 := Nat.pow_le_pow_right (n := 2) (by decide) h
  have h3 : ((2 ^ j : Nat) : Int) ≤ ((2 ^ 24 : Nat) : Int) := by omega
  simpa using h3

end Go.Proofs.Ytiniobcknmaigaa
