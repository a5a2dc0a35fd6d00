/-
  The frame of bytes: numbers of eight bytes.
-/
import Derived.Test.YtnkghcbjokmooaaDoorFE3
import Derived.Laws.BitsAllLaws
namespace Go.Proofs.YtnkghcbjokmooaaDoor.Gr
open Go.RowKit Go.Sort Qm

theorem num_snoc (bs : List (BitVec 8)) (x : BitVec 8) : numN (bs ++ [x]) = numN bs * 256 + x.toNat := by unfold numN; rw [List.foldl_append]; rfl
theorem take_snoc {bs : List (BitVec 8)} {k : Nat} (h : k < bs.length) : bs.take (k + 1) = bs.take k ++ [bs.getD k 0#8] := by
  rw [List.take_add_one, List.getD_eq_getElem?_getD, List.getElem?_eq_getElem h]; rfl
theorem num_take_lt (bs : List (BitVec 8)) : ∀ k, k ≤ bs.length → numN (bs.take k) < 256 ^ k
  | 0, _ => by simp [numN]
  | k + 1, h => by
    have ih := num_take_lt bs k (by omega)
    rw [take_snoc (by omega), num_snoc, Nat.pow_succ]
    have := (bs.getD k 0#8).isLt
    omega
theorem num_step {bs : List (BitVec 8)} {k : Nat} (h : k < bs.length) (h8 : k < 8) : bits BinOp.or IntKind.u64 (IntKind.u64.wrap ((numN (bs.take k) : Int) * 256)) (IntKind.u64.wrap (iv (bs.getD k 0#8))) = (numN (bs.take (k + 1)) : Int) ∧
    IntKind.u64.wrap (IntKind.u64.wrap ((numN (bs.take k) : Int) * 256) + IntKind.u64.wrap (iv (bs.getD k 0#8))) = (numN (bs.take (k + 1)) : Int) := by
  have hlt := num_take_lt bs k (by omega)
  have hp : (256 : Nat) ^ k ≤ 256 ^ 7 := Nat.pow_le_pow_right (by decide) (by omega)
  have h7 : (256 : Nat) ^ 7 = 72057594037927936 := rfl
  rw [take_snoc h, num_snoc]
  have hx := (bs.getD k 0#8).isLt
  have e1 : IntKind.u64.wrap ((numN (bs.take k) : Int) * 256) = ((numN (bs.take k) * 256 : Nat) : Int) := by rw [wrap_u64']; omega
  have e2 : IntKind.u64.wrap (iv (bs.getD k 0#8)) = (((bs.getD k 0#8).toNat : Nat) : Int) := by rw [wrap_u64']; unfold iv; omega
  rw [e1, e2]
  constructor
  · rw [u64_or_nat _ _ (by omega) (by omega), nat_join 8 _ _ (by omega) (by omega)]
  · rw [wrap_u64']; omega

set_option maxRecDepth 20000 in
set_option maxHeartbeats 1000000 in
theorem number_any (v : Value) (bs : List (BitVec 8)) (hn : bs.length = 8) (w : World) (hs : SeesB w v bs) :
    Calls Tryd.prog 32 #[v] w fun e w' => e = .returned (.int .i64 (io (numN bs))) ∧ w' = w := by
  obtain ⟨ao, cap, rfl⟩ := hs.slice
  rw [hn]
  rw [hn] at hs
  have HN : Hid (bs.length = 8) := hn
  clear hn
  go_enter Tryd.func32, Tryd.ntmps32
  go_wp2
  go_loop [3, 8] (fun n i => ∃ k : Nat, k ≤ 8 ∧ i = .int .i64 k ∧ n = .int .u64 (numN (bs.take k) : Nat)) (fun _ i => 8 - (intOf i).toNat)
  case atStart => exact ⟨0, by omega, rfl, rfl⟩
  case round =>
    obtain ⟨k, hk, rfl, rfl⟩ := hrel
    by_cases hlt : k < 8
    · obtain ⟨ad, hao, la, ca⟩ := hs.at k (by rw [HN.out]; exact hlt)
      cases hao
      have hst := (num_step (bs := bs) (k := k) (by rw [HN.out]; exact hlt) hlt).1
      generalize bs.getD k 0#8 = x at ca hst
      unfold vb at ca
      go_wp2
      exact ⟨⟨k + 1, by omega, by go_num, rfl⟩, by simp [intOf]; omega⟩
    · obtain rfl : k = 8 := by omega
      have e : bs.take 8 = bs := List.take_of_length_le (by rw [HN.out]; exact Nat.le_refl _)
      rw [e]
      go_wp2
      go_ret
      exact ⟨rfl, rfl⟩
end Go.Proofs.YtnkghcbjokmooaaDoor.Gr
