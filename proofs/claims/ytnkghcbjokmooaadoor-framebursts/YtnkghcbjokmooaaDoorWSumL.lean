/-
  The walk of SumLines.
-/
import Derived.Test.YtnkghcbjokmooaaDoorCSh
import Derived.StillTailTactics
namespace Go.Proofs.YtnkghcbjokmooaaDoor.Gr
open Go.RowKit Qm

namespace Qm
/-- three rows, exclusive-or, as far as k -/
def mix (a b c : List (BitVec 8)) (n k : Nat) : List (BitVec 8) := (List.range n).map fun i => if i < k then a.getD i 0#8 ^^^ b.getD i 0#8 ^^^ c.getD i 0#8 else 0#8
theorem mix_len (a b c : List (BitVec 8)) (n k : Nat) : (mix a b c n k).length = n := by unfold mix; simp
theorem mix_zero (a b c : List (BitVec 8)) (n : Nat) : mix a b c n 0 = List.replicate n 0#8 := by
  unfold mix
  apply List.ext_getElem
  · simp
  · intro i h1 h2; simp
theorem mix_succ (a b c : List (BitVec 8)) (n k : Nat) : (mix a b c n k).set k (a.getD k 0#8 ^^^ b.getD k 0#8 ^^^ c.getD k 0#8) = mix a b c n (k + 1) := by
  unfold mix
  apply List.ext_getElem
  · simp
  · intro i h1 h2
    rw [List.getElem_set]
    simp only [List.getElem_map, List.getElem_range]
    by_cases e : k = i
    · subst e; rw [if_pos rfl, if_pos (by omega)]
    · rw [if_neg e]
      by_cases hi : i < k
      · rw [if_pos hi, if_pos (by omega)]
      · rw [if_neg hi, if_neg (by omega)]
theorem mix_all {a b c : List (BitVec 8)} {n : Nat} (ha : a.length = n) (hb : b.length = n) (hc : c.length = n) : mix a b c n n = xorS (xorS a b) c := by
  unfold mix xorS
  apply List.ext_getElem
  · simp; omega
  · intro i h1 h2
    have hi : i < n := by simpa using h1
    simp only [List.getElem_map, List.getElem_range, List.getElem_zipWith, if_pos hi]
    rw [List.getD_eq_getElem?_getD, List.getD_eq_getElem?_getD, List.getD_eq_getElem?_getD, List.getElem?_eq_getElem (by omega), List.getElem?_eq_getElem (by omega), List.getElem?_eq_getElem (by omega)]
    rfl
end Qm
/-- 'make' of a row of bytes -/
theorem make8 {ops : Array Oper} {rest : List Oper} {o : Oper} {a : Act} {Q : Exit → Act → World → Prop} {w : World} (hg : o.guard = none) (l c : Operand) (hop : o.op = Op.makeSlice 25 l c) (n : Nat)
    (hl : a.eval l = .int .i64 n) (hc : a.eval c = .int .i64 n) (hn : n ≤ 100000)
    (hK : ∀ w', w'.ownsRow w.heap.size 5 1 (.slice (some ⟨w.heap.size, 0, none⟩) n n) n ((List.replicate n 0#8).map vb) → Below w.heap.size w w' → wpList Tryd.prog ops Q rest (a.put o.dst (.slice (some ⟨w.heap.size, 0, none⟩) n n)) w') :
    wpList Tryd.prog ops Q (o :: rest) a w := by
  obtain ⟨i0, hi, hz0, hz1, hz2⟩ := info_parts info5
  refine wpList_make_full _ hg l c 25 hop w.heap.size 5 i0 (.int .u8 0) 1 under23 hi hz0 hz1 .i64 .i64 n n n hl hc rfl rfl (by rw [hz2]; omega) (by unfold maxLen; omega) (Nat.le_refl _) fun w' h1 h2 => hK w' ?_ (gb_none h2)
  have e : (madeCells (Value.int .u8 0).cells (n * 1)).toList = (List.replicate n 0#8).map vb := by
    rw [Nat.mul_one]
    show (madeCells #[Value.int .u8 0] n).toList = _
    rw [toList_madeCells_one, List.map_replicate]; rfl
  rw [← e]; exact h1
theorem xor3 (a b c : BitVec 8) : bits .xor .u8 (bits .xor .u8 (iv a) (iv b)) (iv c) = iv (a ^^^ b ^^^ c) := by rw [xor_iv8, xor_iv8]
theorem xor3w (a b c : BitVec 32) : bits .xor .u32 (bits .xor .u32 (iv a) (iv b)) (iv c) = iv (a ^^^ b ^^^ c) := by rw [xor_iv32, xor_iv32]

end Go.Proofs.YtnkghcbjokmooaaDoor.Gr
