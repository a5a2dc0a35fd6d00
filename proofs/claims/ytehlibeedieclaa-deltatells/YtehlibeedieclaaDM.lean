/-
  Deltas, plain: masks and the words behind them.
-/
import Derived.Test.YtehlibeedieclaaDW
namespace Go.Proofs.Ytehlibeedieclaa.Gr
namespace Dm

/-- the first k bits of p as a number -/
def mwS (p : Nat → Bool) : Nat → Nat
  | 0 => 0
  | k + 1 => 2 ^ k * (if p k then 1 else 0) + mwS p k
theorem mwS_lt (p : Nat → Bool) : ∀ k, mwS p k < 2 ^ k
  | 0 => by simp [mwS]
  | k + 1 => by
    have ih := mwS_lt p k
    unfold mwS
    rw [Nat.pow_succ]
    split <;> omega
theorem mwS_congr {p q : Nat → Bool} : ∀ {k}, (∀ t, t < k → p t = q t) → mwS p k = mwS q k
  | 0, _ => rfl
  | k + 1, h => by
    unfold mwS
    rw [mwS_congr (k := k) (fun t ht => h t (by omega)), h k (by omega)]
theorem mwS_or {p : Nat → Bool} {k : Nat} (h : p k = true) : mwS p k ||| 2 ^ k = mwS p (k + 1) := by
  have := Nat.two_pow_add_eq_or_of_lt (mwS_lt p k) 1
  rw [Nat.mul_one] at this
  rw [Nat.or_comm, ← this]
  simp [mwS, h]
theorem mwS_no {p : Nat → Bool} {k : Nat} (h : p k = false) : mwS p (k + 1) = mwS p k := by simp [mwS, h]
theorem mwS_bit (p : Nat → Bool) : ∀ k t, (mwS p k).testBit t = (decide (t < k) && p t)
  | 0, t => by simp [mwS]
  | k + 1, t => by
    have ih := mwS_bit p k t
    have hlt := mwS_lt p k
    unfold mwS
    by_cases hk : t < k
    · have h1 : t < k + 1 := by omega
      rw [decide_eq_true hk, Bool.true_and] at ih
      rw [decide_eq_true h1, Bool.true_and, ← ih]
      split
      · rw [Nat.mul_one]; exact Nat.testBit_two_pow_add_gt hk _
      · rw [Nat.mul_zero, Nat.zero_add]
    · by_cases he : t = k
      · subst he
        rw [decide_eq_true (by omega : t < t + 1), Bool.true_and]
        have h0 : (mwS p t).testBit t = false := Nat.testBit_lt_two_pow hlt
        split
        · rename_i h; rw [Nat.mul_one, Nat.testBit_two_pow_add_eq, h0, h]; rfl
        · rename_i h; rw [Nat.mul_zero, Nat.zero_add, h0]; simpa using h
      · rw [decide_eq_false (by omega : ¬ t < k + 1), Bool.false_and]
        apply Nat.testBit_lt_two_pow
        have : 2 ^ (k + 1) ≤ 2 ^ t := Nat.pow_le_pow_right (by decide) (by omega)
        have h2 : 2 ^ k * (if p k = true then 1 else 0) + mwS p k < 2 ^ (k + 1) := mwS_lt p (k + 1)
        omega

/-- is the word at i another one? -/
def dfS (b n : List Int) (i : Nat) : Bool := decide (¬ n.getD i 0 = b.getD i 0)
/-- how many words a mask of n has -/
def upS (n : Nat) : Nat := (n + 59) / 60
/-- the mask, as far as the first i words go -/
def maskS (p : Nat → Bool) (U i : Nat) : List Int := (List.range U).map fun j => ((mwS (fun t => p (60 * j + t)) (min 60 (i - 60 * j)) : Nat) : Int)
theorem maskS_len (p : Nat → Bool) (U i : Nat) : (maskS p U i).length = U := by simp [maskS]
theorem maskS_zero (p : Nat → Bool) (U : Nat) : maskS p U 0 = List.replicate U 0 := by
  apply List.ext_getElem
  · simp [maskS]
  · intro j h1 h2; simp [maskS, mwS]
theorem maskS_get (p : Nat → Bool) {U i j : Nat} (h : j < U) : (maskS p U i).getD j 0 = ((mwS (fun t => p (60 * j + t)) (min 60 (i - 60 * j)) : Nat) : Int) := by
  rw [List.getD_eq_getElem?_getD, List.getElem?_eq_getElem (by rw [maskS_len]; exact h)]
  simp [maskS]
theorem at_word (i : Nat) : min 60 (i - 60 * (i / 60)) = i % 60 ∧ min 60 (i + 1 - 60 * (i / 60)) = i % 60 + 1 ∧ 60 * (i / 60) + i % 60 = i := by omega
theorem maskS_no (p : Nat → Bool) {U i : Nat} (h : p i = false) : maskS p U (i + 1) = maskS p U i := by
  obtain ⟨h1, h2, h3⟩ := at_word i
  apply List.ext_getElem
  · simp [maskS]
  · intro j q1 q2
    simp only [maskS, List.getElem_map, List.getElem_range]
    by_cases e : j = i / 60
    · subst e
      rw [h1, h2, mwS_no (by rw [h3]; exact h)]
    · have : min 60 (i + 1 - 60 * j) = min 60 (i - 60 * j) := by omega
      rw [this]
theorem maskS_yes (p : Nat → Bool) {U i : Nat} (h : p i = true) : (maskS p U i).set (i / 60) (((mwS (fun t => p (60 * (i / 60) + t)) (i % 60) ||| 2 ^ (i % 60) : Nat)) : Int) = maskS p U (i + 1) := by
  obtain ⟨h1, h2, h3⟩ := at_word i
  apply List.ext_getElem
  · simp [maskS]
  · intro j q1 q2
    rw [List.getElem_set]
    simp only [maskS, List.getElem_map, List.getElem_range]
    by_cases e : i / 60 = j
    · subst e
      rw [if_pos rfl, h2, mwS_or (by rw [h3]; exact h)]
    · have : min 60 (i + 1 - 60 * j) = min 60 (i - 60 * j) := by omega
      rw [if_neg e, this]
theorem or_i64 (m k : Nat) (hm : m < 2 ^ 60) (hk : k < 60) : bits .or .i64 (m : Int) (2 ^ k : Int) = ((m ||| 2 ^ k : Nat) : Int) := by
  have hp : (2 : Nat) ^ k < 2 ^ 60 := Nat.pow_lt_pow_right (by decide) hk
  have hor : m ||| 2 ^ k < 2 ^ 60 := Nat.or_lt_two_pow hm hp
  show IntKind.i64.wrap ((BitVec.ofInt 64 (m : Int) ||| BitVec.ofInt 64 (2 ^ k : Int)).toNat : Int) = _
  have e : (2 ^ k : Int) = ((2 ^ k : Nat) : Int) := by simp
  rw [e, BitVec.toNat_or, ofInt_u64 m (by omega), ofInt_u64 (2 ^ k) (by omega)]
  generalize m ||| 2 ^ k = x at hor
  simp [IntKind.wrap, IntKind.bits, IntKind.signed]
  omega
theorem shl_i64 (k : Nat) (hk : k < 60) : RowKit.wrap64 ((2 : Int) ^ k) = (2 ^ k : Int) := by
  have hp : (2 : Nat) ^ k < 2 ^ 60 := Nat.pow_lt_pow_right (by decide) hk
  have e2 : (2 ^ k : Int) = ((2 ^ k : Nat) : Int) := by simp
  rw [e2]
  generalize 2 ^ k = x at hp
  unfold RowKit.wrap64
  omega

/-- the words that are other ones, among the first i -/
def otherS (b n : List Int) : Nat → List Int
  | 0 => []
  | i + 1 => otherS b n i ++ if dfS b n i then [n.getD i 0] else []
theorem otherS_le (b n : List Int) : ∀ i, (otherS b n i).length ≤ i
  | 0 => Nat.le_refl _
  | i + 1 => by
    have := otherS_le b n i
    unfold otherS
    split <;> simp <;> omega
/-- a delta -/
def diffS (b n : List Int) : List Int := maskS (dfS b n) (upS n.length) n.length ++ otherS b n n.length
theorem diffS_len (b n : List Int) : (diffS b n).length = upS n.length + (otherS b n n.length).length := by simp [diffS, maskS_len]
/-- the row that is being built -/
def rowS (b n : List Int) (U i : Nat) : List Int := maskS (dfS b n) U i ++ otherS b n i
theorem rowS_no {b n : List Int} {U i : Nat} (h : dfS b n i = false) : rowS b n U (i + 1) = rowS b n U i := by
  unfold rowS; rw [maskS_no _ h]; simp [otherS, h]
theorem rowS_len (b n : List Int) (U i : Nat) : (rowS b n U i).length = U + (otherS b n i).length := by simp [rowS, maskS_len]
theorem rowS_yes {b n : List Int} {U i : Nat} (hi : i / 60 < U) (h : dfS b n i = true) : (rowS b n U i).set (i / 60) (((mwS (fun t => dfS b n (60 * (i / 60) + t)) (i % 60) ||| 2 ^ (i % 60) : Nat)) : Int) ++ [n.getD i 0] = rowS b n U (i + 1) := by
  unfold rowS
  rw [List.set_append_left _ _ (by rw [maskS_len]; exact hi), maskS_yes _ h]
  simp [otherS, h]
theorem rowS_at {b n : List Int} {U i : Nat} (hi : i / 60 < U) : (rowS b n U i).getD (i / 60) 0 = ((mwS (fun t => dfS b n (60 * (i / 60) + t)) (i % 60) : Nat) : Int) := by
  unfold rowS
  rw [List.getD_eq_getElem?_getD, List.getElem?_append_left (by rw [maskS_len]; exact hi), ← List.getD_eq_getElem?_getD, maskS_get _ hi, (at_word i).1]
theorem rowS_zero (b n : List Int) (U : Nat) : rowS b n U 0 = List.replicate U 0 := by unfold rowS; rw [maskS_zero]; simp [otherS]
/-- what stands in the cell of a mask that i falls into, told whole -/
theorem cell_or {b n : List Int} {i : Nat} : bits .or .i64 ((mwS (fun t => dfS b n (60 * (i / 60) + t)) (i % 60) : Nat) : Int) (2 ^ (i % 60) : Int) = ((mwS (fun t => dfS b n (60 * (i / 60) + t)) (i % 60) ||| 2 ^ (i % 60) : Nat) : Int) := by
  have hk : i % 60 < 60 := by omega
  have hp : (2 : Nat) ^ (i % 60) < 2 ^ 60 := Nat.pow_lt_pow_right (by decide) hk
  exact or_i64 _ _ (Nat.lt_trans (mwS_lt _ _) hp) hk
end Dm
end Go.Proofs.Ytehlibeedieclaa.Gr
