/-
  A frame as bytes: the code's Encode.
-/
import Derived.Test.YtnkghcbjokmooaaDoorFL
import Derived.Deep.RegionLaw
import Derived.RangeFuncBox
namespace Go.Proofs.YtnkghcbjokmooaaDoor.Gr
open Go.RowKit Go.Sort Qm

/-- 'append' of a row of bytes to an own row, as a step of a region that draws -/
theorem step8 {ops : Array Oper} {o : Oper} {a : Act} {w : World} {K : Act → World → Prop} {Q : Exit → Act → World → Prop} {E : Prop} (hg : o.guard = none) (s x : Operand)
    (hop : o.op = Op.call { callee := Callee.builtin Builtin.append, args := #[s, x], argTypes := #[25, 25] }) (base : Nat) (v : Value) (n : Nat) (xs : List Value)
    (hs : a.eval s = v) (hown : w.ownsRow base 5 1 v n xs) (hb : base ≤ w.heap.size) (ad : Addr) (m c : Nat) (bs : List (BitVec 8)) (hx : a.eval x = .slice (some ad) m c) (sx : SeesB w (.slice (some ad) m c) bs) (hl : n + bs.length ≤ 100000)
    (hK : ∀ v' w', w'.ownsRow base 5 1 v' (n + bs.length) (xs ++ bs.map vb) → w.grownBy w' v.ownBlock → K (a.put o.dst v') w') :
    if Region.wanted o (yielded ops a.tmps) = true then Oper.wp Tryd.prog o a w K Q else E := by
  have hw : Region.wanted o (yielded ops a.tmps) = true := by simp [Region.wanted, hg]
  rw [if_pos hw]
  obtain ⟨i0, hi, hz0, hz1, hz2⟩ := info_parts info5
  obtain rfl : m = bs.length := sx.le.2
  obtain ⟨v', w', hrun, r1, r2, _⟩ := run_append_own (P := Tryd.prog) w base 25 o.type 5 i0 (.int .u8 0) 1 1 under23 hi hz0 hz1 hz2 rfl (by decide) v n xs hown ad bs.length c (bs.map vb) (by simp) (sees_cells sx) (bs_one bs) (by unfold maxLen; omega) (by omega) hb
  unfold Oper.wp
  simp [execOp, hop, resolve, invoke, builtin, hs, hx, hrun, Result.andThen]
  exact hK v' w' r1 r2
theorem SeesB.drew {w : World} {v : Value} {bs : List (BitVec 8)} (h : SeesB w v bs) : SeesB w.drew v bs := h
theorem gb_of_drew {w w' : World} {row : Option Nat} (h : w.drew.grownBy w' row) : w.grownBy w' row := ⟨h.os, h.tape, h.output, h.size, h.block⟩
theorem SeesI.drew {w : World} {v : Value} {xs : List Int} (h : SeesI w v xs) : SeesI w.drew v xs := h
theorem step64 {ops : Array Oper} {o : Oper} {a : Act} {w : World} {K : Act → World → Prop} {Q : Exit → Act → World → Prop} {E : Prop} (hg : o.guard = none) (s x : Operand)
    (hop : o.op = Op.call { callee := Callee.builtin Builtin.append, args := #[s, x], argTypes := #[22, 22] }) (base : Nat) (v : Value) (n : Nat) (xs : List Value)
    (hs : a.eval s = v) (hown : w.ownsRow base 2 1 v n xs) (hb : base ≤ w.heap.size) (ad : Addr) (m c : Nat) (zs : List Int) (hx : a.eval x = .slice (some ad) m c) (sx : SeesI w (.slice (some ad) m c) zs) (hl : n + zs.length ≤ 100000)
    (hK : ∀ v' w', w'.ownsRow base 2 1 v' (n + zs.length) (xs ++ zs.map vw) → w.grownBy w' v.ownBlock → K (a.put o.dst v') w') :
    if Region.wanted o (yielded ops a.tmps) = true then Oper.wp Tryd.prog o a w K Q else E := by
  have hw : Region.wanted o (yielded ops a.tmps) = true := by simp [Region.wanted, hg]
  rw [if_pos hw]
  obtain ⟨i0, hi, hz0, hz1, hz2⟩ := info_parts info2
  obtain rfl : m = zs.length := sx.le.2
  obtain ⟨v', w', hrun, r1, r2, _⟩ := run_append_own (P := Tryd.prog) w base 22 o.type 2 i0 (.int .i64 0) 1 8 under22 hi hz0 hz1 hz2 rfl (by decide) v n xs hown ad zs.length c (zs.map vw) (by simp) (seesI_cells sx) (ws_one zs) (by unfold maxLen; omega) (by omega) hb
  unfold Oper.wp
  simp [execOp, hop, resolve, invoke, builtin, hs, hx, hrun, Result.andThen]
  exact hK v' w' r1 r2

theorem wrap_u64' (n : Int) : IntKind.u64.wrap n = n % 18446744073709551616 := by simp [IntKind.wrap, IntKind.bits, IntKind.signed]
theorem le_alloc {B : Nat} {w : World} (h : B ≤ w.heap.size) (o : Obj) : B ≤ (w.alloc o).heap.size := Nat.le_trans h (box_below w o).size
theorem one8' (w : World) (b : BitVec 8) (z : Nat) (h : z = w.heap.size) : SeesB (w.alloc (.cells #[.int .u8 (iv b)] 5)) (.slice (some ⟨z, 0, none⟩) 1 1) [b] := by subst h; exact one8 w b
theorem one64' (w : World) (x : Int) (z : Nat) (h : z = w.heap.size) : SeesI (w.alloc (.cells #[.int .i64 x] 2)) (.slice (some ⟨z, 0, none⟩) 1 1) [x] := by subst h; exact one64 w x
/-- as many of a number's bytes -/
def some8 (x : Int) (k : Nat) : List (BitVec 8) := (List.range k).map (dig (uo x))
theorem some8_succ (x : Int) (k : Nat) : some8 x (k + 1) = some8 x k ++ [dig (uo x) k] := by unfold some8; rw [List.range_succ, List.map_append]; rfl
theorem shr8 (x : Int) (k : Nat) (hk : k < 8) : IntKind.u8.wrap (IntKind.u64.wrap x / (2 : Int) ^ ((56 - 8 * (k : Int)).toNat)) = iv (dig (uo x) k) := by
  rw [IntKind.wrap_u8', wrap_u64']
  unfold iv
  rw [dig_nat]
  have e : (56 - 8 * (k : Int)).toNat = 8 * (7 - k) := by omega
  rw [e, ← uo_cast]
  have : (256 : Nat) ^ (7 - k) = 2 ^ (8 * (7 - k)) := by rw [Nat.pow_mul]
  rw [this]
  simp only [Int.natCast_emod, Int.natCast_ediv, Int.natCast_pow]
  rfl
set_option maxRecDepth 20000 in
set_option maxHeartbeats 1000000 in
theorem lay1_any (x : Int) (B base n : Nat) (vals : List Value) (v : Value) (w : World) (hB : Boxed w B 25 v) (hown : w.ownsRow base 5 1 v n vals) (hb : base ≤ w.heap.size) (hle : base ≤ B) (hn : n ≤ 90000) :
    Calls Tryd.prog 27 #[.int .i64 x, .pointer (some ⟨B, 0, none⟩)] w fun e w' => (∃ r, e = .returned r) ∧ ∃ v', Boxed w' B 25 v' ∧ w'.ownsRow base 5 1 v' (n + 8) (vals ++ (be8 (uo x)).map vb) ∧ Below base w w' := by
  have own0 : w.ownsRow base 5 1 v (n + 0) (vals ++ (some8 x 0).map vb) := by simpa [some8] using hown
  have e8 : some8 x 8 = be8 (uo x) := rfl
  have hs := shr8 x
  clear hown
  go_enter Tryd.func27, Tryd.ntmps27
  go_wp2
  go_loopw [3] (fun i wr => ∃ k : Nat, k ≤ 8 ∧ i = .int .i64 (56 - 8 * (k : Int)) ∧ ∃ v', Boxed wr B 25 v' ∧ wr.ownsRow base 5 1 v' (n + k) (vals ++ (some8 x k).map vb) ∧ Below base w wr) (fun i _ => (intOf i + 8).toNat)
  case atStart => exact ⟨0, by omega, rfl, v, hB, own0, Below.refl _ _⟩
  case round =>
    clear hB own0
    obtain ⟨k, hk, rfl, v', hBx, hown, hbl⟩ := hrel
    by_cases hlt : k < 8
    · have hs' := hs k hlt
      have hc := hBx.cell
      have hf := hBx.frozen
      have d0 : decide ((0 : Int) ≤ 56 - 8 * (k : Int)) = true := by simp; omega
      have HX : Hid (some8 x (k + 1) = some8 x k ++ [dig (uo x) k]) := some8_succ x k
      generalize dig (uo x) k = D at hs' HX
      clear hs
      go_wp2
      have hsz : base ≤ wr.heap.size := Nat.le_trans hb hbl.size
      have hcA := fun o => (hBx.alloc o).cell
      go_region_law (first
        | (refine step8 rfl _ _ rfl base v' (n + k) _ rfl (hown.alloc _) (Nat.le_trans hsz (box_below wr (.cells #[.int .u8 (iv D)] 5)).size) _ 1 1 [D] rfl (one8 wr D).drew (by simp; omega) ?_; intro v2 w2 ho2 hg2; obtain ⟨g2, c2, rfl⟩ := ownsRow_succ ho2; obtain ⟨q1, q2, q3, q4, q5⟩ := hBx.appended (tmp := .cells #[.int .u8 (iv D)] 5) (by decide) hown hsz hle ho2 (gb_of_drew hg2); have hc1 := q1.cell; have hf1 := q1.frozen))
      · go_wp2
        go_roundw
        case rel => exact ⟨k + 1, by omega, by congr 1; omega, _, q2, by rw [HX.out, List.map_append, ← List.append_assoc]; exact q3, hbl.trans q5⟩
        case measure => simp [intOf]; omega
      · go_wp2
        go_roundw
        case rel => exact ⟨k + 1, by omega, by congr 1; omega, _, q2, by rw [HX.out, List.map_append, ← List.append_assoc]; exact q3, hbl.trans q5⟩
        case measure => simp [intOf]; omega
    · obtain rfl : k = 8 := by omega
      rw [e8] at hown
      go_wp2
      go_end0
      exact ⟨⟨_, rfl⟩, v', hBx, hown, hbl⟩
/-- 'make' of an empty row of bytes -/
theorem make80 {ops : Array Oper} {rest : List Oper} {o : Oper} {a : Act} {Q : Exit → Act → World → Prop} {w : World} (hg : o.guard = none) (l c : Operand) (hop : o.op = Op.makeSlice 25 l c) (C : Int) (n : Nat)
    (hl : a.eval l = .int .i64 0) (hc : a.eval c = .int .i64 C) (hC : C = (n : Int)) (hn : n ≤ 100000)
    (hK : ∀ w', w'.ownsRow w.heap.size 5 1 (.slice (some ⟨w.heap.size, 0, none⟩) 0 n) 0 [] → Below w.heap.size w w' → wpList Tryd.prog ops Q rest (a.put o.dst (.slice (some ⟨w.heap.size, 0, none⟩) 0 n)) w') :
    wpList Tryd.prog ops Q (o :: rest) a w := by
  obtain ⟨i0, hi, hz0, hz1, hz2⟩ := info_parts info5
  exact wpList_make_own w hg l c 25 hop w.heap.size 5 i0 (.int .u8 0) 1 under23 hi hz0 hz1 .i64 .i64 C n hl hc hC (by rw [hz2]; omega) (by unfold maxLen; omega) (Nat.le_refl _) fun w' h1 h2 => hK w' h1 (gb_none h2)
theorem enters_lay : ∀ (args : Array Value) (a : World), Sem.run Tryd.prog (callFunc 27 args) a = Result.ok (Next.enter 27 args) a := by
  intro args a
  simp [callFunc, Tryd.func27, go_sem]
  rfl
end Go.Proofs.YtnkghcbjokmooaaDoor.Gr
