/-
  Deltas, plain: what is told of a row's delta is the row.
-/
import Derived.Test.YtehlibeedieclaaDA
namespace Go.Proofs.Ytehlibeedieclaa.Gr
namespace Dm

theorem bitS_nat (m k : Nat) : bitS (m : Int) k = m.testBit k := by
  unfold bitS
  rw [Nat.testBit_eq_decide_div_mod_eq]
  have e : ((m : Int) / 2 ^ k % 2) = ((m / 2 ^ k % 2 : Nat) : Int) := by simp
  rw [e]
  apply decide_eq_decide.2
  omega
theorem bitM_mask (p : Nat → Bool) {U n i : Nat} (hi : i < n) (hU : i / 60 < U) : bitM (maskS p U n) i = p i := by
  unfold bitM
  rw [maskS_get p hU, bitS_nat, mwS_bit]
  have h1 : i % 60 < min 60 (n - 60 * (i / 60)) := by omega
  rw [decide_eq_true h1, Bool.true_and, (at_word i).2.2]
theorem other_prefix (b r : List Int) {i : Nat} : ∀ {n}, i ≤ n → ∃ t, otherS b r n = otherS b r i ++ t
  | 0, h => ⟨[], by have : i = 0 := by omega
                    subst this; simp⟩
  | n + 1, h => by
    by_cases e : i = n + 1
    · subst e; exact ⟨[], by simp⟩
    · obtain ⟨t, ht⟩ := other_prefix b r (i := i) (n := n) (by omega)
      exact ⟨t ++ (if dfS b r n then [r.getD n 0] else []), by rw [← List.append_assoc, ← ht]; rfl⟩
theorem used_other {b : Nat → Bool} {base r : List Int} {n : Nat} (hb : ∀ i, i < n → b i = dfS base r i) : ∀ i, i ≤ n → usedS b (otherS base r n).length i = (otherS base r i).length
  | 0, _ => rfl
  | i + 1, h => by
    have ih := used_other hb i (by omega)
    unfold usedS
    rw [ih, hb i (by omega)]
    obtain ⟨t, ht⟩ := other_prefix base r (i := i + 1) (n := n) h
    cases hd : dfS base r i
    · simp [otherS, hd]
    · have e : otherS base r (i + 1) = otherS base r i ++ [r.getD i 0] := by simp [otherS, hd]
      have hl : (otherS base r i).length < (otherS base r n).length := by rw [ht, e]; simp
      rw [decide_eq_true hl, e]; simp
theorem val_other {b : Nat → Bool} {base r : List Int} {n i : Nat} (hb : ∀ i, i < n → b i = dfS base r i) (hi : i < n) : valS b base (otherS base r n) i = r.getD i 0 := by
  unfold valS
  rw [used_other hb i (by omega), hb i hi]
  cases hd : dfS base r i
  · rw [Bool.and_false, if_neg (by decide)]
    have : r.getD i 0 = base.getD i 0 := by simpa [dfS] using hd
    exact this.symm
  · obtain ⟨t, ht⟩ := other_prefix base r (i := i + 1) (n := n) (by omega)
    have e : otherS base r (i + 1) = otherS base r i ++ [r.getD i 0] := by simp [otherS, hd]
    have hl : (otherS base r i).length < (otherS base r n).length := by rw [ht, e]; simp
    rw [decide_eq_true hl, Bool.and_true, if_pos rfl, ht, e, List.append_assoc, List.getD_eq_getElem?_getD, List.getElem?_append_right (Nat.le_refl _)]
    simp
/-- what is told of a row's delta is the row -/
theorem rowOf_diff {base r : List Int} (hl : r.length = base.length) : rowOf base (diffS base r) = r := by
  have hm : (maskS (dfS base r) (upS r.length) r.length).length = upS r.length := maskS_len _ _ _
  unfold rowOf diffS
  rw [← hl, List.take_append_of_le_length (by omega), List.take_of_length_le (by omega), List.drop_append_of_le_length (by omega), List.drop_of_length_le (by omega), List.nil_append]
  have hb : ∀ i, i < r.length → bitM (maskS (dfS base r) (upS r.length) r.length) i = dfS base r i := fun i hi => bitM_mask _ hi (by unfold upS; omega)
  apply List.ext_getElem
  · rw [toldS_len, hl]
  · intro i h1 h2
    have h3 : i < base.length := by omega
    simp only [toldS, List.getElem_map, List.getElem_range]
    rw [if_pos h2, val_other hb h2, List.getD_eq_getElem?_getD, List.getElem?_eq_getElem h2]
    rfl
theorem other_swap (a b : List Int) : ∀ i, (otherS a b i).length = (otherS b a i).length
  | 0 => rfl
  | i + 1 => by
    have ih := other_swap a b i
    have e : dfS a b i = dfS b a i := by unfold dfS; exact decide_eq_decide.2 ⟨fun h e => h e.symm, fun h e => h e.symm⟩
    unfold otherS
    rw [e]
    cases dfS b a i <;> simp [ih]
theorem diff_swap {a b : List Int} (h : a.length = b.length) : (diffS a b).length = (diffS b a).length := by
  rw [diffS_len, diffS_len, h, other_swap a b]
end Dm
end Go.Proofs.Ytehlibeedieclaa.Gr
