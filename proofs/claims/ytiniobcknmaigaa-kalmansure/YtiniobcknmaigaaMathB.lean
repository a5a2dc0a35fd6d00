/-
  Plain arithmetic: products by halves.
-/
import Derived.Test.YtiniobcknmaigaaMath
namespace Go.Proofs.Ytiniobcknmaigaa.Qm

theorem mul_bd {a b A B : Int} (ha : 0 ≤ a) (hA : a ≤ A) (hb : 0 ≤ b) (hB : b ≤ B) : 0 ≤ a * b ∧ a * b ≤ A * B :=
  ⟨Int.mul_nonneg ha hb, Int.mul_le_mul hA hB hb (by omega)⟩
/-- a product by halves of 24 bits -/
theorem halves (x y : Int) : x * y = (x / 16777216) * (y / 16777216) * 281474976710656 + (x / 16777216) * (y % 16777216) * 16777216 + (x % 16777216) * (y / 16777216) * 16777216 + (x % 16777216) * (y % 16777216) := by
  have ex : x = (x / 16777216) * 16777216 + x % 16777216 := by omega
  have ey : y = (y / 16777216) * 16777216 + y % 16777216 := by omega
  generalize x / 16777216 = x1 at *
  generalize x % 16777216 = x0 at *
  generalize y / 16777216 = y1 at *
  generalize y % 16777216 = y0 at *
  subst ex ey
  rw [Int.add_mul, Int.mul_add, Int.mul_add]
  have e1 : x1 * 16777216 * (y1 * 16777216) = x1 * y1 * 281474976710656 := by
    rw [Int.mul_assoc, Int.mul_left_comm 16777216 y1 16777216, ← Int.mul_assoc x1]
    generalize x1 * y1 = t
    omega
  have e2 : x1 * 16777216 * y0 = x1 * y0 * 16777216 := Int.mul_right_comm _ _ _
  have e3 : x0 * (y1 * 16777216) = x0 * y1 * 16777216 := (Int.mul_assoc _ _ _).symm
  rw [e1, e2, e3]
  omega
theorem ng_eq (a b : Int) : (!(decide (cl a < 0) == decide (cl b < 0))) = flip (flip false (cl a)) (cl b) := by
  by_cases h1 : cl a < 0 <;> by_cases h2 : cl b < 0 <;> simp [flip, h1, h2]

end Go.Proofs.Ytiniobcknmaigaa.Qm
