/-
  Words as bytes, the highest first, plain.
-/
import Derived.Test.YtcfobifldlkfnaaGR
namespace Go.Proofs.Ytcfobifldlkfnaa.Gr
open Go.RowKit
namespace Qm
/-- a number of 64 bits, without its sign -/
def uo (x : Int) : Nat := (x % 18446744073709551616).toNat
theorem uo_lt (x : Int) : uo x < 18446744073709551616 := by unfold uo; omega
theorem uo_cast (x : Int) : (uo x : Int) = x % 18446744073709551616 := by unfold uo; omega
/-- and with it -/
def io (u : Nat) : Int := wrap64 (u : Int)
theorem io_uo {x : Int} (h : -9223372036854775808 ≤ x) (h' : x ≤ 9223372036854775807) : io (uo x) = x := by
  unfold io; rw [uo_cast]; unfold wrap64; omega
theorem uo_io {u : Nat} (h : u < 18446744073709551616) : uo (io u) = u := by
  unfold uo io wrap64; omega
theorem io_range (u : Nat) : -9223372036854775808 ≤ io u ∧ io u ≤ 9223372036854775807 := by unfold io wrap64; omega
/-- the k-th byte, the highest first -/
def dig (u k : Nat) : BitVec 8 := BitVec.ofNat 8 (u / 256 ^ (7 - k))
def be8 (u : Nat) : List (BitVec 8) := (List.range 8).map (dig u)
theorem be8_len (u : Nat) : (be8 u).length = 8 := by simp [be8]
def numN (bs : List (BitVec 8)) : Nat := bs.foldl (fun n x => n * 256 + x.toNat) 0
theorem be8_eq (u : Nat) : be8 u = [dig u 0, dig u 1, dig u 2, dig u 3, dig u 4, dig u 5, dig u 6, dig u 7] := rfl
theorem dig_nat (u k : Nat) : (dig u k).toNat = u / 256 ^ (7 - k) % 256 := by unfold dig; rw [BitVec.toNat_ofNat]
theorem num_be8 {u : Nat} (h : u < 18446744073709551616) : numN (be8 u) = u := by
  rw [be8_eq]
  simp only [numN, List.foldl, dig_nat]
  simp only [Nat.reduceSub, Nat.reducePow, Nat.pow_zero, Nat.div_one]
  omega
theorem be8_num (a b c d e f g i : BitVec 8) : be8 (numN [a, b, c, d, e, f, g, i]) = [a, b, c, d, e, f, g, i] := by
  have := a.isLt; have := b.isLt; have := c.isLt; have := d.isLt; have := e.isLt; have := f.isLt; have := g.isLt; have := i.isLt
  rw [be8_eq]
  simp only [numN, List.foldl]
  simp only [List.cons.injEq, and_true]
  refine ⟨?_, ?_, ?_, ?_, ?_, ?_, ?_, ?_⟩ <;> (apply BitVec.eq_of_toNat_eq; rw [dig_nat]; simp only [Nat.reduceSub, Nat.reducePow, Nat.pow_zero, Nat.div_one]; omega)
theorem num_lt (a b c d e f g i : BitVec 8) : numN [a, b, c, d, e, f, g, i] < 18446744073709551616 := by
  have := a.isLt; have := b.isLt; have := c.isLt; have := d.isLt; have := e.isLt; have := f.isLt; have := g.isLt; have := i.isLt
  simp only [numN, List.foldl]
  omega
/-- numbers as bytes -/
def layS (xs : List Int) : List (BitVec 8) := xs.flatMap fun x => be8 (uo x)
theorem layS_len (xs : List Int) : (layS xs).length = 8 * xs.length := by
  induction xs with
  | nil => rfl
  | cons x xs ih => unfold layS at *; rw [List.flatMap_cons, List.length_append, ih, be8_len, List.length_cons]; omega
theorem layS_snoc (xs : List Int) (x : Int) : layS (xs ++ [x]) = layS xs ++ be8 (uo x) := by unfold layS; rw [List.flatMap_append]; simp
/-- the i-th eight bytes -/
def prt (bs : List (BitVec 8)) (i : Nat) : List (BitVec 8) := (bs.drop (8 * i)).take 8
theorem prt_len {bs : List (BitVec 8)} {i n : Nat} (h : bs.length = 8 * n) (hi : i < n) : (prt bs i).length = 8 := by unfold prt; rw [List.length_take, List.length_drop]; omega
def wordsS (bs : List (BitVec 8)) (n : Nat) : List Int := (List.range n).map fun i => io (numN (prt bs i))
theorem wordsS_len (bs : List (BitVec 8)) (n : Nat) : (wordsS bs n).length = n := by simp [wordsS]
theorem wordsS_succ (bs : List (BitVec 8)) (n : Nat) : wordsS bs (n + 1) = wordsS bs n ++ [io (numN (prt bs n))] := by unfold wordsS; rw [List.range_succ, List.map_append]; rfl
theorem prt_lay (xs : List Int) (i : Nat) (hi : i < xs.length) : prt (layS xs) i = be8 (uo (xs.getD i 0)) := by
  induction xs generalizing i with
  | nil => simp at hi
  | cons x xs ih =>
    unfold prt layS
    rw [List.flatMap_cons]
    cases i with
    | zero => rw [Nat.mul_zero, List.drop_zero, List.take_left' (be8_len _)]; rfl
    | succ i =>
      have e : 8 * (i + 1) = (be8 (uo x)).length + 8 * i := by rw [be8_len]; omega
      rw [e, List.drop_append]
      simp only [List.drop_eq_nil_of_le (Nat.le_add_right _ _), List.nil_append, Nat.add_sub_cancel_left]
      have := ih i (by simpa using hi)
      unfold prt layS at this
      rw [this]; rfl
theorem words_lay {xs : List Int} (h : ∀ x ∈ xs, -9223372036854775808 ≤ x ∧ x ≤ 9223372036854775807) : wordsS (layS xs) xs.length = xs := by
  apply List.ext_getElem
  · rw [wordsS_len]
  · intro i h1 h2
    have e : (wordsS (layS xs) xs.length)[i] = io (numN (prt (layS xs) i)) := by simp [wordsS]
    rw [e, prt_lay xs i h2, num_be8 (uo_lt _), List.getD_eq_getElem?_getD, List.getElem?_eq_getElem h2]
    exact io_uo (h _ (List.getElem_mem h2)).1 (h _ (List.getElem_mem h2)).2
theorem eight {l : List (BitVec 8)} (h : l.length = 8) : be8 (numN l) = l ∧ numN l < 18446744073709551616 := by
  match l, h with
  | [a, b, c, d, e, f, g, i], _ => exact ⟨be8_num a b c d e f g i, num_lt a b c d e f g i⟩
theorem take_prt (bs : List (BitVec 8)) (k : Nat) : bs.take (8 * (k + 1)) = bs.take (8 * k) ++ prt bs k := by
  unfold prt
  have e : 8 * (k + 1) = 8 * k + 8 := by omega
  rw [e, List.take_add]
theorem lay_words {bs : List (BitVec 8)} {n : Nat} (h : bs.length = 8 * n) : layS (wordsS bs n) = bs := by
  have key : ∀ k, k ≤ n → layS (wordsS bs k) = bs.take (8 * k) := by
    intro k
    induction k with
    | zero => intro _; rfl
    | succ k ih =>
      intro hk
      have h8 := prt_len h (show k < n by omega)
      rw [wordsS_succ, layS_snoc, ih (by omega), take_prt, uo_io (eight h8).2, (eight h8).1]
  rw [key n (Nat.le_refl _), ← h, List.take_length]
theorem words_range (bs : List (BitVec 8)) (n : Nat) : ∀ x ∈ wordsS bs n, -9223372036854775808 ≤ x ∧ x ≤ 9223372036854775807 := by
  intro x hx
  obtain ⟨i, _, rfl⟩ := List.mem_map.1 hx
  exact io_range _
end Qm
end Go.Proofs.Ytcfobifldlkfnaa.Gr
