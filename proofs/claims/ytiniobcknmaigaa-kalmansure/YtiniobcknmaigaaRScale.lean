/-
  The contract of the document's Scale.
-/
import Derived.Test.YtiniobcknmaigaaRNone
import Derived.Test.YtiniobcknmaigaaRMul
import Derived.Test.YtiniobcknmaigaaScale
namespace Go.Proofs.Ytiniobcknmaigaa
open Go.RowKit Go.Sort Qm

/-- what stands where up to place k has been filled -/
def Qm.upto (t : Nat → Int) (k : Nat) : Nat → Int := fun p => if p < k then t p else 0
theorem Qm.upto_zero (t : Nat → Int) (n p : Nat) (_ : p < n) : (0 : Int) = upto t 0 p := by simp [upto]
theorem Qm.upto_succ (t : Nat → Int) (k n p : Nat) (_ : p < n) : (if p = k then t k else upto t k p) = upto t (k + 1) p := by
  unfold upto
  by_cases h : p = k
  · subst h; simp
  · rw [if_neg h]
    by_cases h2 : p < k
    · rw [if_pos h2, if_pos (by omega)]
    · rw [if_neg h2, if_neg (by omega)]
theorem Qm.upto_all (t : Nat → Int) (n : Nat) : tab (upto t n) n = tab t n := tab_congr fun p hp => by unfold upto; rw [if_pos hp]

theorem Sees.at {w : World} {ao : Option Addr} {n cap : Nat} {xs : List Int} (h : Sees w (.slice ao n cap) xs) (k : Nat) (hk : k < xs.length) : ∃ ad, ao = some ad ∧ w.cell? (ad.add k) = some (.int .i64 (ge xs k)) := by
  obtain ⟨ao', cap', he, hc⟩ := h
  simp only [Value.slice.injEq] at he
  obtain ⟨ad, h1, _, h2⟩ := hc k hk
  exact ⟨ad, he.1.trans h1, h2⟩
theorem new_at (g n cap : Nat) : New g (.slice (some ⟨g, 0, none⟩) n cap) := fun k e => by cases e; exact Nat.le_refl _

end Go.Proofs.Ytiniobcknmaigaa
