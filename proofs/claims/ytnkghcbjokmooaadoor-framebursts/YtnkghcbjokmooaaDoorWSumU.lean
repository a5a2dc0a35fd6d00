/-
  The walk of SumBursts.
-/
import Derived.Test.YtnkghcbjokmooaaDoorWSumL
namespace Go.Proofs.YtnkghcbjokmooaaDoor.Gr
open Go.RowKit Qm

namespace Qm
/-- a row of which k bytes from place a on were changed -/
def bur (Z : List (BitVec 8)) (f : Nat → BitVec 8) (a L k : Nat) : List (BitVec 8) := (List.range L).map fun j => Z.getD j 0#8 ^^^ (if a ≤ j ∧ j < a + k then f (j - a) else 0#8)
theorem bur_len (Z : List (BitVec 8)) (f : Nat → BitVec 8) (a L k : Nat) : (bur Z f a L k).length = L := by unfold bur; simp
theorem bur_zero {Z : List (BitVec 8)} (f : Nat → BitVec 8) (a : Nat) {L : Nat} (h : Z.length = L) : bur Z f a L 0 = Z := by
  unfold bur
  apply List.ext_getElem
  · simp; omega
  · intro i h1 h2
    simp only [List.getElem_map, List.getElem_range]
    rw [if_neg (by omega), BitVec.xor_zero, List.getD_eq_getElem?_getD, List.getElem?_eq_getElem h2]; rfl
theorem bur_get (Z : List (BitVec 8)) (f : Nat → BitVec 8) (a L k : Nat) (h : a + k < L) : (bur Z f a L k)[a + k]? = some (Z.getD (a + k) 0#8) := by
  unfold bur
  rw [List.getElem?_map, List.getElem?_range h]
  simp
theorem bur_succ (Z : List (BitVec 8)) (f : Nat → BitVec 8) (a L k : Nat) : (bur Z f a L k).set (a + k) (Z.getD (a + k) 0#8 ^^^ f k) = bur Z f a L (k + 1) := by
  unfold bur
  apply List.ext_getElem
  · simp
  · intro i h1 h2
    rw [List.getElem_set]
    simp only [List.getElem_map, List.getElem_range]
    by_cases e : a + k = i
    · subst e
      rw [if_pos rfl, if_pos (by omega)]
      congr 2
      omega
    · rw [if_neg e]
      by_cases hi : a ≤ i ∧ i < a + k
      · rw [if_pos hi, if_pos (by omega)]
      · rw [if_neg hi, if_neg (by omega)]
theorem bur_xor {Z : List (BitVec 8)} (f : Nat → BitVec 8) {a L k : Nat} (h : Z.length = L) (hk : a + k ≤ L) : bur Z f a L k = xorS Z (List.replicate a 0#8 ++ (List.range k).map f ++ List.replicate (L - a - k) 0#8) := by
  unfold bur xorS
  apply List.ext_getElem
  · simp; omega
  · intro i h1 h2
    have hi : i < L := by simpa using h1
    simp only [List.getElem_map, List.getElem_range, List.getElem_zipWith]
    rw [List.getD_eq_getElem?_getD, List.getElem?_eq_getElem (by omega)]
    congr 1
    by_cases h1 : i < a + k
    · rw [List.getElem_append_left (by simp; omega)]
      by_cases h0 : i < a
      · rw [List.getElem_append_left (by simp; omega), List.getElem_replicate, if_neg (by omega)]
      · rw [List.getElem_append_right (by simp; omega), List.getElem_map, List.getElem_range, if_pos (by omega), List.length_replicate]
    · rw [List.getElem_append_right (by simp; omega), List.getElem_replicate, if_neg (by omega)]
/-- was one of k other than 0? -/
def smB (f : Nat → BitVec 8) : Nat → Bool
  | 0 => false
  | k + 1 => smB f k || (f k != 0#8)
theorem smB_some {f : Nat → BitVec 8} {k : Nat} (h : smB f k = true) : ∃ x ∈ (List.range k).map f, x ≠ 0#8 := by
  induction k with
  | zero => cases h
  | succ k ih =>
    unfold smB at h
    rw [List.range_succ, List.map_append]
    cases hs : smB f k with
    | true =>
      obtain ⟨x, hx, hx0⟩ := ih hs
      exact ⟨x, List.mem_append_left _ hx, hx0⟩
    | false =>
      rw [hs, Bool.false_or] at h
      exact ⟨f k, List.mem_append_right _ (by simp), by simpa using h⟩
theorem smB_none {f : Nat → BitVec 8} {k : Nat} (h : smB f k = false) : ∀ j, j < k → f j = 0#8 := by
  induction k with
  | zero => intro j hj; omega
  | succ k ih =>
    unfold smB at h
    rw [Bool.or_eq_false_iff] at h
    intro j hj
    by_cases e : j = k
    · subst e; simpa using h.2
    · exact ih h.1 j (by omega)
theorem bur_same {Z : List (BitVec 8)} {f : Nat → BitVec 8} {a L k : Nat} (h : Z.length = L) (hs : smB f k = false) : bur Z f a L k = Z := by
  refine Eq.trans ?_ (bur_zero f a h)
  unfold bur
  apply List.map_congr_left
  intro j _
  congr 1
  by_cases hi : a ≤ j ∧ j < a + k
  · rw [if_pos hi, if_neg (by omega)]; exact smB_none hs _ (by omega)
  · rw [if_neg hi, if_neg (by omega)]
theorem bur_told {bs : List (BitVec 8)} {f : Nat → BitVec 8} {a k : Nat} (hk : k ≤ 4) (ha : a + k ≤ bs.length + 4) (hs : smB f k = true) : okS (bur (sealS bs) f a (bs.length + 4) k) = false := by
  rw [bur_xor f (sealS_len bs) ha]
  have hl : ((List.range k).map f).length = k := by simp
  refine burst (sealS bs) ((List.range k).map f) a (bs.length + 4 - a - k) (seal_ok bs) (by omega) ?_ (smB_some hs)
  rw [hl, sealS_len]; omega
end Qm

theorem iv_zero' {x : BitVec 8} (h : ¬ x = 0#8) : ¬ (iv x = 0) := fun e => h (iv_inj (e.trans (by decide)))
end Go.Proofs.YtnkghcbjokmooaaDoor.Gr
