/-
  Frames as bytes, plain.
-/
import Derived.Test.YtnkghcbjokmooaaDoorCSh
namespace Go.Proofs.YtnkghcbjokmooaaDoor.Gr
open Go.RowKit Qm
namespace Qm
/-- how many numbers a kind of frame has -/
def longS (k : Int) : Nat := if k = 1 then 3 else if k = 2 then 8 else if k = 3 then 8 else if k = 4 then 5 else if k = 5 then 18 else if k = 6 then 4 else if k = 7 then 1 else if k = 8 then 15 else 0
def rightS (k : Int) (n : Nat) : Bool := decide (0 < longS k) && decide (n = longS k)
theorem longS_le (k : Int) : longS k ≤ 18 := by unfold longS; split <;> (try split) <;> (try split) <;> (try split) <;> (try split) <;> (try split) <;> (try split) <;> (try split) <;> omega
theorem longS_pos {k : Int} (h : 0 < longS k) : 1 ≤ k ∧ k ≤ 8 := by
  unfold longS at h
  by_cases h1 : k = 1; · omega
  by_cases h2 : k = 2; · omega
  by_cases h3 : k = 3; · omega
  by_cases h4 : k = 4; · omega
  by_cases h5 : k = 5; · omega
  by_cases h6 : k = 6; · omega
  by_cases h7 : k = 7; · omega
  by_cases h8 : k = 8; · omega
  simp [h1, h2, h3, h4, h5, h6, h7, h8] at h
theorem longS_out {k : Int} (h : k < 1 ∨ 8 < k) : longS k = 0 := by
  have := @longS_pos k
  omega
/-- a number of 64 bits, without its sign -/
def uo (x : Int) : Nat := (x % 18446744073709551616).toNat
theorem uo_lt (x : Int) : uo x < 18446744073709551616 := by unfold uo; omega
theorem uo_cast (x : Int) : (uo x : Int) = x % 18446744073709551616 := by unfold uo; omega
/-- and with it -/
def io (u : Nat) : Int := wrap64 (u : Int)
theorem io_uo {x : Int} (h : -9223372036854775808 ≤ x) (h' : x ≤ 9223372036854775807) : io (uo x) = x := by
  unfold io; rw [uo_cast]; unfold wrap64; omega
theorem uo_io {u : Nat} (h : u < 18446744073709551616) : uo (io u) = u := by
  unfold uo io wrap64; omega
theorem io_range (u : Nat) : -9223372036854775808 ≤ io u ∧ io u ≤ 9223372036854775807 := by unfold io wrap64; omega
/-- the k-th byte, the highest first -/
def dig (u k : Nat) : BitVec 8 := BitVec.ofNat 8 (u / 256 ^ (7 - k))
def be8 (u : Nat) : List (BitVec 8) := (List.range 8).map (dig u)
theorem be8_len (u : Nat) : (be8 u).length = 8 := by simp [be8]
def numN (bs : List (BitVec 8)) : Nat := bs.foldl (fun n x => n * 256 + x.toNat) 0
theorem be8_eq (u : Nat) : be8 u = [dig u 0, dig u 1, dig u 2, dig u 3, dig u 4, dig u 5, dig u 6, dig u 7] := rfl
theorem dig_nat (u k : Nat) : (dig u k).toNat = u / 256 ^ (7 - k) % 256 := by unfold dig; rw [BitVec.toNat_ofNat]
theorem num_be8 {u : Nat} (h : u < 18446744073709551616) : numN (be8 u) = u := by
  rw [be8_eq]
  simp only [numN, List.foldl, dig_nat]
  simp only [Nat.reduceSub, Nat.reducePow, Nat.pow_zero, Nat.div_one]
  omega
theorem be8_num (a b c d e f g i : BitVec 8) : be8 (numN [a, b, c, d, e, f, g, i]) = [a, b, c, d, e, f, g, i] := by
  have := a.isLt; have := b.isLt; have := c.isLt; have := d.isLt; have := e.isLt; have := f.isLt; have := g.isLt; have := i.isLt
  rw [be8_eq]
  simp only [numN, List.foldl]
  simp only [List.cons.injEq, and_true]
  refine ⟨?_, ?_, ?_, ?_, ?_, ?_, ?_, ?_⟩ <;> (apply BitVec.eq_of_toNat_eq; rw [dig_nat]; simp only [Nat.reduceSub, Nat.reducePow, Nat.pow_zero, Nat.div_one]; omega)
theorem num_lt (a b c d e f g i : BitVec 8) : numN [a, b, c, d, e, f, g, i] < 18446744073709551616 := by
  have := a.isLt; have := b.isLt; have := c.isLt; have := d.isLt; have := e.isLt; have := f.isLt; have := g.isLt; have := i.isLt
  simp only [numN, List.foldl]
  omega
/-- numbers as bytes -/
def layS (xs : List Int) : List (BitVec 8) := xs.flatMap fun x => be8 (uo x)
theorem layS_len (xs : List Int) : (layS xs).length = 8 * xs.length := by
  induction xs with
  | nil => rfl
  | cons x xs ih => unfold layS at *; rw [List.flatMap_cons, List.length_append, ih, be8_len, List.length_cons]; omega
theorem layS_snoc (xs : List Int) (x : Int) : layS (xs ++ [x]) = layS xs ++ be8 (uo x) := by unfold layS; rw [List.flatMap_append]; simp
/-- the i-th eight bytes -/
def prt (bs : List (BitVec 8)) (i : Nat) : List (BitVec 8) := (bs.drop (8 * i)).take 8
theorem prt_len {bs : List (BitVec 8)} {i n : Nat} (h : bs.length = 8 * n) (hi : i < n) : (prt bs i).length = 8 := by unfold prt; rw [List.length_take, List.length_drop]; omega
def wordsS (bs : List (BitVec 8)) (n : Nat) : List Int := (List.range n).map fun i => io (numN (prt bs i))
theorem wordsS_len (bs : List (BitVec 8)) (n : Nat) : (wordsS bs n).length = n := by simp [wordsS]
theorem wordsS_succ (bs : List (BitVec 8)) (n : Nat) : wordsS bs (n + 1) = wordsS bs n ++ [io (numN (prt bs n))] := by unfold wordsS; rw [List.range_succ, List.map_append]; rfl
theorem prt_lay (xs : List Int) (i : Nat) (hi : i < xs.length) : prt (layS xs) i = be8 (uo (xs.getD i 0)) := by
  induction xs generalizing i with
  | nil => simp at hi
  | cons x xs ih =>
    unfold prt layS
    rw [List.flatMap_cons]
    cases i with
    | zero => rw [Nat.mul_zero, List.drop_zero, List.take_left' (be8_len _)]; rfl
    | succ i =>
      have e : 8 * (i + 1) = (be8 (uo x)).length + 8 * i := by rw [be8_len]; omega
      rw [e, List.drop_append]
      simp only [List.drop_eq_nil_of_le (Nat.le_add_right _ _), List.nil_append, Nat.add_sub_cancel_left]
      have := ih i (by simpa using hi)
      unfold prt layS at this
      rw [this]; rfl
theorem words_lay {xs : List Int} (h : ∀ x ∈ xs, -9223372036854775808 ≤ x ∧ x ≤ 9223372036854775807) : wordsS (layS xs) xs.length = xs := by
  apply List.ext_getElem
  · rw [wordsS_len]
  · intro i h1 h2
    have e : (wordsS (layS xs) xs.length)[i] = io (numN (prt (layS xs) i)) := by simp [wordsS]
    rw [e, prt_lay xs i h2, num_be8 (uo_lt _), List.getD_eq_getElem?_getD, List.getElem?_eq_getElem h2]
    exact io_uo (h _ (List.getElem_mem h2)).1 (h _ (List.getElem_mem h2)).2
theorem eight {l : List (BitVec 8)} (h : l.length = 8) : be8 (numN l) = l ∧ numN l < 18446744073709551616 := by
  match l, h with
  | [a, b, c, d, e, f, g, i], _ => exact ⟨be8_num a b c d e f g i, num_lt a b c d e f g i⟩
theorem take_prt (bs : List (BitVec 8)) (k : Nat) : bs.take (8 * (k + 1)) = bs.take (8 * k) ++ prt bs k := by
  unfold prt
  have e : 8 * (k + 1) = 8 * k + 8 := by omega
  rw [e, List.take_add]
theorem lay_words {bs : List (BitVec 8)} {n : Nat} (h : bs.length = 8 * n) : layS (wordsS bs n) = bs := by
  have key : ∀ k, k ≤ n → layS (wordsS bs k) = bs.take (8 * k) := by
    intro k
    induction k with
    | zero => intro _; rfl
    | succ k ih =>
      intro hk
      have h8 := prt_len h (show k < n by omega)
      rw [wordsS_succ, layS_snoc, ih (by omega), take_prt, uo_io (eight h8).2, (eight h8).1]
  rw [key n (Nat.le_refl _), ← h, List.take_length]
theorem words_range (bs : List (BitVec 8)) (n : Nat) : ∀ x ∈ wordsS bs n, -9223372036854775808 ≤ x ∧ x ≤ 9223372036854775807 := by
  intro x hx
  obtain ⟨i, _, rfl⟩ := List.mem_map.1 hx
  exact io_range _
/-- a frame as bytes, ahead of its sum -/
def bytS (k : Int) (xs : List Int) : List (BitVec 8) := BitVec.ofInt 8 k :: layS xs
theorem bytS_len (k : Int) (xs : List Int) : (bytS k xs).length = 1 + 8 * xs.length := by unfold bytS; rw [List.length_cons, layS_len]; omega
def encS (k : Int) (xs : List Int) : List (BitVec 8) := sealS (bytS k xs)
theorem encS_len (k : Int) (xs : List Int) : (encS k xs).length = 5 + 8 * xs.length := by unfold encS; rw [sealS_len, bytS_len]; omega
/-- the kind that is told of what lay ahead of a sum; how many numbers -/
def hdK (in' : List (BitVec 8)) : Int := iv (in'.getD 0 0#8)
def decE (bs : List (BitVec 8)) : Int :=
  if openE bs ≠ 0 then openE bs else if (openS bs).length = 0 then 2 else if longS (hdK (openS bs)) = 0 ∨ (openS bs).length ≠ 1 + 8 * longS (hdK (openS bs)) then 2 else 0
def decK (bs : List (BitVec 8)) : Int := if decE bs = 0 then hdK (openS bs) else 0
def decN (bs : List (BitVec 8)) : List Int := if decE bs = 0 then wordsS ((openS bs).drop 1) (longS (hdK (openS bs))) else []
theorem right_bounds {k : Int} {n : Nat} (h : rightS k n = true) : 1 ≤ k ∧ k ≤ 8 ∧ n = longS k ∧ n ≤ 18 ∧ 0 < n := by
  unfold rightS at h
  simp only [Bool.and_eq_true, decide_eq_true_eq] at h
  have := longS_pos h.1
  have := longS_le k
  omega
theorem hd_byt {k : Int} (h0 : 1 ≤ k) (h1 : k ≤ 8) (xs : List Int) : hdK (bytS k xs) = k := by
  unfold hdK bytS
  show iv (BitVec.ofInt 8 k) = k
  exact iv8 _ (by omega) (by omega)
theorem dec_enc {k : Int} {xs : List Int} (h : rightS k xs.length = true) (hr : ∀ x ∈ xs, -9223372036854775808 ≤ x ∧ x ≤ 9223372036854775807) : decE (encS k xs) = 0 ∧ decK (encS k xs) = k ∧ decN (encS k xs) = xs := by
  obtain ⟨h0, h1, hn, hn18, hpos⟩ := right_bounds h
  have o := open_seal (bytS k xs)
  have hE : decE (encS k xs) = 0 := by
    unfold decE encS
    rw [o.1, o.2, hd_byt h0 h1, bytS_len, ← hn]
    rw [if_neg (by simp), if_neg (by omega), if_neg (by omega)]
  refine ⟨hE, ?_, ?_⟩
  · unfold decK
    rw [if_pos hE]
    unfold encS
    rw [o.1, hd_byt h0 h1]
  · unfold decN
    rw [if_pos hE]
    unfold encS
    rw [o.1, hd_byt h0 h1, ← hn]
    exact words_lay hr
theorem open_ok {bs : List (BitVec 8)} (h : openE bs = 0) : bs = sealS (openS bs) := by
  unfold openE at h
  split at h
  · simp at h
  · split at h
    · rename_i h4 hok
      have e : openS bs = bs.take (bs.length - 4) := by unfold openS; rw [if_pos hok]
      rw [e]
      unfold okS at hok
      simp only [Bool.and_eq_true, decide_eq_true_eq] at hok
      unfold sealS
      rw [← hok.2, List.take_append_drop]
    · simp at h
theorem enc_dec {bs : List (BitVec 8)} (h : decE bs = 0) : rightS (decK bs) (decN bs).length = true ∧ encS (decK bs) (decN bs) = bs ∧ ∀ x ∈ decN bs, -9223372036854775808 ≤ x ∧ x ≤ 9223372036854775807 := by
  have hk : decK bs = hdK (openS bs) := by unfold decK; rw [if_pos h]
  have hn : decN bs = wordsS ((openS bs).drop 1) (longS (hdK (openS bs))) := by unfold decN; rw [if_pos h]
  unfold decE at h
  split at h
  · rename_i h1; exact absurd h h1
  · rename_i h1
    have h1 : openE bs = 0 := by simpa using h1
    split at h
    · simp at h
    · rename_i h2
      split at h
      · simp at h
      · rename_i h3
        have h3 : ¬ longS (hdK (openS bs)) = 0 ∧ (openS bs).length = 1 + 8 * longS (hdK (openS bs)) := by
          constructor
          · intro e; exact h3 (.inl e)
          · exact Classical.byContradiction fun e => h3 (.inr e)
        rw [hk, hn]
        refine ⟨?_, ?_, words_range _ _⟩
        · unfold rightS; rw [wordsS_len]; simp; omega
        · unfold encS bytS
          rw [lay_words (by rw [List.length_drop]; omega)]
          have e := open_ok h1
          have e2 : BitVec.ofInt 8 (hdK (openS bs)) :: (openS bs).drop 1 = openS bs := by
            unfold hdK
            rw [ofInt_iv]
            cases hO : openS bs with
            | nil => rw [hO] at h2; simp at h2
            | cons x l => rfl
          rw [e2, ← e]
end Qm
end Go.Proofs.YtnkghcbjokmooaaDoor.Gr
