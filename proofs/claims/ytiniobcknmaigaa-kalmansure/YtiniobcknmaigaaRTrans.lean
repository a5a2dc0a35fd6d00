/-
  The contract of the document's Trans.
-/
import Derived.Test.YtiniobcknmaigaaRScale
import Derived.Test.YtiniobcknmaigaaEven
import Derived.StillTailTactics
namespace Go.Proofs.Ytiniobcknmaigaa
open Go.RowKit Go.Sort Qm

namespace Qm
theorem place_iff {r c i k p : Nat} (hi : i < r) (hk : k < c) (hp : p < c * r) : p = k * r + i ↔ (p % r) * c + p / r = i * c + k := by
  have hr : 0 < r := by omega
  have hpr : p / r < c := (Nat.div_lt_iff_lt_mul hr).2 hp
  have hd := Nat.div_add_mod p r
  constructor
  · rintro rfl
    rw [mod_of hi, div_of hi]
  · intro h
    have e1 := congrArg (· / c) h
    have e2 := congrArg (· % c) h
    simp only [div_of hpr, div_of hk, mod_of hpr, mod_of hk] at e1 e2
    rw [← hd, e1, e2, Nat.mul_comm]
/-- what stands where the first q numbers of a matrix have been turned -/
def tur (r c : Nat) (xs : List Int) (q : Nat) : Nat → Int := fun p => if (p % r) * c + p / r < q then ge xs ((p % r) * c + p / r) else 0
theorem tur_zero (r c : Nat) (xs : List Int) (n p : Nat) (_ : p < n) : (0 : Int) = tur r c xs 0 p := by simp [tur]
theorem tur_succ {r c i k : Nat} (xs : List Int) (hi : i < r) (hk : k < c) (p : Nat) (hp : p < c * r) : (if p = k * r + i then ge xs (i * c + k) else tur r c xs (i * c + k) p) = tur r c xs (i * c + k + 1) p := by
  have h := place_iff hi hk hp
  unfold tur
  by_cases e : p = k * r + i
  · rw [if_pos e, h.1 e, if_pos (by omega)]
  · rw [if_neg e]
    have : (p % r) * c + p / r ≠ i * c + k := fun e' => e (h.2 e')
    by_cases h2 : (p % r) * c + p / r < i * c + k
    · rw [if_pos h2, if_pos (by omega)]
    · rw [if_neg h2, if_neg (by omega)]
theorem tur_all {r c : Nat} (xs : List Int) (hr : 0 < r) : tab (tur r c xs (r * c)) (c * r) = trn r c xs := by
  unfold trn
  refine tab_congr fun p hp => ?_
  have hpr : p / r < c := (Nat.div_lt_iff_lt_mul hr).2 hp
  unfold tur
  rw [if_pos (at_lt (Nat.mod_lt p hr) hpr)]
end Qm

end Go.Proofs.Ytiniobcknmaigaa
