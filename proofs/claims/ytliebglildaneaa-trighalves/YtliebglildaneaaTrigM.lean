/-
  Plain arithmetic: turning, as the document's chapter 2 says it.
-/
namespace Go.Proofs.Ytliebglildaneaa.Tm

/-- the turns -/
def T (i : Nat) : Int := [536870912, 316933406, 167458907, 85004756, 42667331, 21354465, 10679838, 5340245, 2670163, 1335087, 667544, 333772, 166886, 83443, 41722, 20861, 10430, 5215, 2608, 1304, 652, 326, 163, 81, 41, 20, 10, 5, 3, 1].getD i 0
/-- one turn, towards the first axis; so many of them -/
def stA (i : Nat) (s : Int × Int × Int) : Int × Int × Int :=
  if s.2.1 < 0 then (s.1 - s.2.1 / 2 ^ i, s.2.1 + s.1 / 2 ^ i, s.2.2 - T i) else (s.1 + s.2.1 / 2 ^ i, s.2.1 - s.1 / 2 ^ i, s.2.2 + T i)
def runA (p q : Int) : Nat → Int × Int × Int
  | 0 => (p, q, 0)
  | n + 1 => stA n (runA p q n)
/-- one turn, by the angle that is left; so many of them -/
def stS (i : Nat) (s : Int × Int × Int) : Int × Int × Int :=
  if 0 ≤ s.2.2 then (s.1 - s.2.1 / 2 ^ i, s.2.1 + s.1 / 2 ^ i, s.2.2 - T i) else (s.1 + s.2.1 / 2 ^ i, s.2.1 - s.1 / 2 ^ i, s.2.2 + T i)
def runS (z : Int) : Nat → Int × Int × Int
  | 0 => (652032874, 0, z)
  | n + 1 => stS n (runS z n)
theorem stA_z (i : Nat) (s : Int × Int × Int) : s.2.2 - T i ≤ (stA i s).2.2 ∧ (stA i s).2.2 ≤ s.2.2 + T i ∨ T i < 0 := by
  unfold stA
  split <;> (simp only; omega)

end Go.Proofs.Ytliebglildaneaa.Tm
