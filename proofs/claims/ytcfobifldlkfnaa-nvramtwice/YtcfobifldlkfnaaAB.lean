/-
  Bytes appended to an own row; the bytes of a word, one by one.
-/
import Derived.Test.YtcfobifldlkfnaaCT
import Derived.Test.YtcfobifldlkfnaaBY
import Derived.Test.YtcfobifldlkfnaaDW
import Derived.Lib.AppendZerosOnto
namespace Go.Proofs.Ytcfobifldlkfnaa.Gr
open Go.RowKit Go.Sort Qm
set_option linter.unusedVariables false

theorem bs_one (bs : List (BitVec 8)) : ∀ u ∈ bs.map vb, u.oneCell' = true := by
  intro u hu
  obtain ⟨x, _, rfl⟩ := List.mem_map.1 hu
  rfl
theorem sees_cells {w : World} {ad : Addr} {n cap : Nat} {bs : List (BitVec 8)} (h : SeesB w (.slice (some ad) n cap) bs) : ∀ (j : Nat) (u : Value), (bs.map vb)[j]? = some u → w.cell? (ad.add j) = some u := by
  intro j u hj
  obtain ⟨ad', e, _, hc⟩ := Row.at h hj
  cases e
  exact hc
/-- 'append' of a row of bytes, whatever it is, to a row that the call made -/
theorem app8 {ops : Array Oper} {rest : List Oper} {o : Oper} {a : Act} {Q : Exit → Act → World → Prop} {w : World} (hg : o.guard = none) (s x : Operand)
    (hop : o.op = Op.call { callee := Callee.builtin Builtin.append, args := #[s, x], argTypes := #[55, 55] }) (base : Nat) (v : Value) (n : Nat) (xs : List Value)
    (hs : a.eval s = v) (hown : w.ownsRow base 5 1 v n xs) (hb : base ≤ w.heap.size) (ad : Addr) (c m : Nat) (bs : List (BitVec 8)) (hx : a.eval x = .slice (some ad) m c) (sx : SeesB w (.slice (some ad) m c) bs) (hl : n + bs.length ≤ 100000)
    (hK : ∀ v' w', w'.ownsRow base 5 1 v' (n + bs.length) (xs ++ bs.map vb) → w.grownBy w' v.ownBlock → wpList Try.prog ops Q rest (a.put o.dst v') w') : wpList Try.prog ops Q (o :: rest) a w := by
  obtain ⟨i0, hi, hz0, hz1, hz2⟩ := info_parts info5
  obtain rfl : m = bs.length := sx.le.2
  exact wpList_append_own _ hg _ _ 55 hop base 5 i0 (.int .u8 0) 1 1 under23 hi hz0 hz1 hz2 rfl (by decide) _ _ _ hs hown ad bs.length c (bs.map vb) hx (by simp) (sees_cells sx) (bs_one bs) (by unfold maxLen; omega) (by omega) hb (fun v' w' h1 h2 _ => hK v' w' h1 h2)
theorem one8 (w : World) (b : BitVec 8) : SeesB (w.alloc (.cells #[.int .u8 (iv b)] 5)) (.slice (some ⟨w.heap.size, 0, none⟩) 1 1) [b] := by
  refine ⟨some ⟨w.heap.size, 0, none⟩, 1, rfl, ⟨Nat.le_refl _, fun e => by cases e⟩, fun k u hu => ⟨_, rfl, by simp, ?_⟩⟩
  have hk : k = 0 := by have := (List.getElem?_eq_some_iff.1 hu).1; simp at this; omega
  subst hk
  have ha : (⟨w.heap.size, 0, none⟩ : Addr).add 0 = ⟨w.heap.size, 0, none⟩ := by unfold Addr.add; split <;> simp_all
  rw [ha, cell_of_tab (heap_new w _)]
  simpa using hu
/-- 'make' of an empty row of bytes -/
theorem make80 {ops : Array Oper} {rest : List Oper} {o : Oper} {a : Act} {Q : Exit → Act → World → Prop} {w : World} (hg : o.guard = none) (l c : Operand) (hop : o.op = Op.makeSlice 55 l c) (C : Int) (n : Nat)
    (hl : a.eval l = .int .i64 0) (hc : a.eval c = .int .i64 C) (hC : C = (n : Int)) (hn : n ≤ 100000)
    (hK : ∀ w', w'.ownsRow w.heap.size 5 1 (.slice (some ⟨w.heap.size, 0, none⟩) 0 n) 0 [] → Below w.heap.size w w' → wpList Try.prog ops Q rest (a.put o.dst (.slice (some ⟨w.heap.size, 0, none⟩) 0 n)) w') :
    wpList Try.prog ops Q (o :: rest) a w := by
  obtain ⟨i0, hi, hz0, hz1, hz2⟩ := info_parts info5
  exact wpList_make_own w hg l c 55 hop w.heap.size 5 i0 (.int .u8 0) 1 under23 hi hz0 hz1 .i64 .i64 C n hl hc hC (by rw [hz2]; omega) (by unfold maxLen; omega) (Nat.le_refl _) fun w' h1 h2 => hK w' h1 (gb_none h2)
theorem wrap_u64' (n : Int) : IntKind.u64.wrap n = n % 18446744073709551616 := by simp [IntKind.wrap, IntKind.bits, IntKind.signed]
/-- as many of a number's bytes -/
def some8 (x : Int) (k : Nat) : List (BitVec 8) := (List.range k).map (dig (uo x))
theorem some8_succ (x : Int) (k : Nat) : some8 x (k + 1) = some8 x k ++ [dig (uo x) k] := by unfold some8; rw [List.range_succ, List.map_append]; rfl
theorem shr8 (x : Int) (k : Nat) (hk : k < 8) : IntKind.u8.wrap (IntKind.u64.wrap x / (2 : Int) ^ ((56 - 8 * (k : Int)).toNat)) = iv (dig (uo x) k) := by
  rw [IntKind.wrap_u8', wrap_u64']
  unfold iv
  rw [dig_nat]
  have e : (56 - 8 * (k : Int)).toNat = 8 * (7 - k) := by omega
  rw [e, ← uo_cast]
  have : (256 : Nat) ^ (7 - k) = 2 ^ (8 * (7 - k)) := by rw [Nat.pow_mul]
  rw [this]
  simp only [Int.natCast_emod, Int.natCast_ediv, Int.natCast_pow]
  rfl
theorem shr8' (x : Int) (k : Nat) (hk : k < 8) : IntKind.u64.wrap x / (2 : Int) ^ (56 - 8 * k) % 256 = iv (dig (uo x) k) := by
  have h := shr8 x k hk
  rw [IntKind.wrap_u8'] at h
  have e : (56 - 8 * (k : Int)).toNat = 56 - 8 * k := by omega
  rw [e] at h
  exact h
end Go.Proofs.Ytcfobifldlkfnaa.Gr
