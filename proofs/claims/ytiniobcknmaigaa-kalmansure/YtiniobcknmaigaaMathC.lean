/-
  Plain arithmetic: quotients.
-/
import Derived.Test.YtiniobcknmaigaaMathB
import Derived.Test.YtiniobcknmaigaaKnuthB
namespace Go.Proofs.Ytiniobcknmaigaa.Qm

/-- a quotient's whole and what is left, of sizes; rounded, ahead of its bounds -/
def dw (a b : Int) : Int := ab (cl a) * 16777216 / ab (cl b)
def dm (a b : Int) : Int := ab (cl a) * 16777216 % ab (cl b)
def divv (a b : Int) : Int := sg (ng a b) (near (dw a b) (dm a b) (ab (cl b)))
/-- what a number by 0 counts as -/
def none0 (a : Int) : Int := if 0 < a then 70368744177663 else if a < 0 then -70368744177664 else 0
def div (a b : Int) : Int := if cl b = 0 then none0 (cl a) else cl (divv a b)
def divB (a b : Int) : Bool := if cl b = 0 then true else (ob2 a b || ob (divv a b))
theorem div_z {a b : Int} (h : cl b = 0) : div a b = none0 (cl a) ∧ divB a b = true := by unfold div divB; rw [if_pos h, if_pos h]; exact ⟨rfl, rfl⟩
theorem div_nz {a b : Int} (h : ¬ cl b = 0) : div a b = cl (divv a b) ∧ divB a b = (ob2 a b || ob (divv a b)) := by unfold div divB; rw [if_neg h, if_neg h]; exact ⟨rfl, rfl⟩
theorem ab_nz {a : Int} (h : ¬ a = 0) : 1 ≤ ab a := by unfold ab; split <;> omega
theorem dw_bd (a b : Int) (h : 1 ≤ ab (cl b)) : 0 ≤ dw a b ∧ dw a b ≤ 1180591620717411303424 := by
  obtain ⟨h1, h2⟩ := ab_bd a
  unfold dw
  refine ⟨Int.ediv_nonneg (by omega) (by omega), ?_⟩
  exact Int.le_trans (Int.ediv_le_self _ (by omega)) (by omega)
theorem dm_bd (a b : Int) (h : 1 ≤ ab (cl b)) : 0 ≤ dm a b ∧ dm a b < ab (cl b) := by
  unfold dm
  exact ⟨Int.emod_nonneg _ (by omega), Int.emod_lt_of_pos _ (by omega)⟩

end Go.Proofs.Ytiniobcknmaigaa.Qm
