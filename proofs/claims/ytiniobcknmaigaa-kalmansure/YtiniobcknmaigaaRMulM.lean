/-
  The contract of the document's Mul of two matrices.
-/
import Derived.Test.YtiniobcknmaigaaRTrans
import Derived.Test.YtiniobcknmaigaaMulM
namespace Go.Proofs.Ytiniobcknmaigaa
open Go.RowKit Go.Sort Qm

namespace Qm
/-- what stands where place q is being summed up -/
def prt (t : Nat → Int) (q : Nat) (s : Int) : Nat → Int := fun p => if p = q then s else upto t q p
theorem prt_zero (t : Nat → Int) (q n p : Nat) (_ : p < n) : upto t q p = prt t q 0 p := by
  unfold prt
  by_cases h : p = q
  · subst h; rw [if_pos rfl]; simp [upto]
  · rw [if_neg h]
theorem prt_step (t : Nat → Int) (q : Nat) (s s' : Int) (n p : Nat) (_ : p < n) : (if p = q then s' else prt t q s p) = prt t q s' p := by
  unfold prt
  by_cases h : p = q
  · rw [if_pos h, if_pos h]
  · rw [if_neg h, if_neg h, if_neg h]
theorem prt_end (t : Nat → Int) (q n p : Nat) (h : p < n) : prt t q (t q) p = upto t (q + 1) p := by unfold prt; exact upto_succ t q n p h
theorem prt_at (t : Nat → Int) (q : Nat) (s : Int) : prt t q s q = s := by unfold prt; rw [if_pos rfl]
theorem or4 (a b c d : Bool) : (a || (b || c || d)) = (((a || b) || c) || d) := by cases a <;> cases b <;> cases c <;> rfl
end Qm

end Go.Proofs.Ytiniobcknmaigaa
