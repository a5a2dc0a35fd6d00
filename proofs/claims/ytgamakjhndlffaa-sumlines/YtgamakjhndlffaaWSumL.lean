/-
  The walk of SumLines.
-/
import Derived.Test.YtgamakjhndlffaaCSh
import Derived.StillTailTactics
namespace Go.Proofs.Ytgamakjhndlffaa.Gr
open Go.RowKit Qm

namespace Qm
/-- three rows, exclusive-or, as far as k -/
def mix (a b c : List (BitVec 8)) (n k : Nat) : List (BitVec 8) := (List.range n).map fun i => if i < k then a.getD i 0#8 ^^^ b.getD i 0#8 ^^^ c.getD i 0#8 else 0#8
theorem mix_len (a b c : List (BitVec 8)) (n k : Nat) : (mix a b c n k).length = n := by unfold mix; simp
theorem mix_zero (a b c : List (BitVec 8)) (n : Nat) : mix a b c n 0 = List.replicate n 0#8 := by
  unfold mix
  apply List.ext_getElem
  · simp
  · intro i h1 h2; simp
theorem mix_succ (a b c : List (BitVec 8)) (n k : Nat) : (mix a b c n k).set k (a.getD k 0#8 ^^^ b.getD k 0#8 ^^^ c.getD k 0#8) = mix a b c n (k + 1) := by
  unfold mix
  apply List.ext_getElem
  · simp
  · intro i h1 h2
    rw [List.getElem_set]
    simp only [List.getElem_map, List.getElem_range]
    by_cases e : k = i
    · subst e; rw [if_pos rfl, if_pos (by omega)]
    · rw [if_neg e]
      by_cases hi : i < k
      · rw [if_pos hi, if_pos (by omega)]
      · rw [if_neg hi, if_neg (by omega)]
theorem mix_all {a b c : List (BitVec 8)} {n : Nat} (ha : a.length = n) (hb : b.length = n) (hc : c.length = n) : mix a b c n n = xorS (xorS a b) c := by
  unfold mix xorS
  apply List.ext_getElem
  · simp; omega
  · intro i h1 h2
    have hi : i < n := by simpa using h1
    simp only [List.getElem_map, List.getElem_range, List.getElem_zipWith, if_pos hi]
    rw [List.getD_eq_getElem?_getD, List.getD_eq_getElem?_getD, List.getD_eq_getElem?_getD, List.getElem?_eq_getElem (by omega), List.getElem?_eq_getElem (by omega), List.getElem?_eq_getElem (by omega)]
    rfl
end Qm
/-- 'make' of a row of bytes -/
theorem make8 {ops : Array Oper} {rest : List Oper} {o : Oper} {a : Act} {Q : Exit → Act → World → Prop} {w : World} (hg : o.guard = none) (l c : Operand) (hop : o.op = Op.makeSlice 23 l c) (n : Nat)
    (hl : a.eval l = .int .i64 n) (hc : a.eval c = .int .i64 n) (hn : n ≤ 100000)
    (hK : ∀ w', w'.ownsRow w.heap.size 5 1 (.slice (some ⟨w.heap.size, 0, none⟩) n n) n ((List.replicate n 0#8).map vb) → Below w.heap.size w w' → wpList Try.prog ops Q rest (a.put o.dst (.slice (some ⟨w.heap.size, 0, none⟩) n n)) w') :
    wpList Try.prog ops Q (o :: rest) a w := by
  obtain ⟨i0, hi, hz0, hz1, hz2⟩ := info_parts info5
  refine wpList_make_full _ hg l c 23 hop w.heap.size 5 i0 (.int .u8 0) 1 under23 hi hz0 hz1 .i64 .i64 n n n hl hc rfl rfl (by rw [hz2]; omega) (by unfold maxLen; omega) (Nat.le_refl _) fun w' h1 h2 => hK w' ?_ (gb_none h2)
  have e : (madeCells (Value.int .u8 0).cells (n * 1)).toList = (List.replicate n 0#8).map vb := by
    rw [Nat.mul_one]
    show (madeCells #[Value.int .u8 0] n).toList = _
    rw [toList_madeCells_one, List.map_replicate]; rfl
  rw [← e]; exact h1
theorem xor3 (a b c : BitVec 8) : bits .xor .u8 (bits .xor .u8 (iv a) (iv b)) (iv c) = iv (a ^^^ b ^^^ c) := by rw [xor_iv8, xor_iv8]
theorem xor3w (a b c : BitVec 32) : bits .xor .u32 (bits .xor .u32 (iv a) (iv b)) (iv c) = iv (a ^^^ b ^^^ c) := by rw [xor_iv32, xor_iv32]

set_option maxRecDepth 20000 in
set_option maxHeartbeats 4000000 in
theorem sumLines_walk (va : Value) (xs : List (BitVec 8)) (vb' : Value) (ys : List (BitVec 8)) (vc : Value) (zs : List (BitVec 8)) (w : World) (ha : SeesB w va xs) (hb : SeesB w vb' ys) (hc : SeesB w vc zs) :
    Calls Try.prog 6 #[va, vb', vc] w fun e w' => e = .returned (.bool true) ∧ Below w.heap.size w w' := by
  obtain ⟨ao, acap, rfl⟩ := ha.slice
  obtain ⟨bo, bcap, rfl⟩ := hb.slice
  obtain ⟨co, ccap, rfl⟩ := hc.slice
  obtain ⟨n, hn⟩ : ∃ n, xs.length = n := ⟨_, rfl⟩
  obtain ⟨m, hm⟩ : ∃ m, ys.length = m := ⟨_, rfl⟩
  obtain ⟨q, hq⟩ : ∃ q, zs.length = q := ⟨_, rfl⟩
  rw [hn] at ha ⊢
  rw [hm] at hb ⊢
  rw [hq] at hc ⊢
  by_cases h1 : 500 < n
  · have h1' : decide ((500 : Int) < (n : Int)) = true := by simp; omega
    go_enter Try.func6, Try.ntmps6
    go_wp2_with (go_at_call 8; refine (shown_any _).mono ?_; rintro e w1 ⟨rfl, b1⟩)
    go_ret
    exact ⟨rfl, b1⟩
  · have h1' : decide ((500 : Int) < (n : Int)) = false := by simp; omega
    by_cases h2 : m = n
    · subst h2
      by_cases h3 : q = m
      · subst h3
        have kA := fun (u : World) (h : Below w.heap.size w u) => of_any _ xs u (by omega) (ha.below h)
        have kB := fun (u : World) (h : Below w.heap.size w u) => of_any _ ys u (by omega) (hb.below h)
        have kC := fun (u : World) (h : Below w.heap.size w u) => of_any _ zs u (by omega) (hc.below h)
        have kD := fun (u : World) (v : Value) (h : SeesB u v (mix xs ys zs q q)) => of_any v _ u (by rw [mix_len]; omega) h
        rw [mix_all hn hm hq, ← of_lines xs ys zs (by omega) (by omega)] at kD
        have hx := xor3w (ofS xs) (ofS ys) (ofS zs)
        generalize ofS xs ^^^ ofS ys ^^^ ofS zs = X at kD hx
        generalize ofS xs = A at kA hx
        generalize ofS ys = B at kB hx
        generalize ofS zs = C at kC hx
        have e1 : (500 : Int) < (q : Int) ↔ False := by simp; omega
        go_enter Try.func6, Try.ntmps6
        go_upto_region 5 with (first
          | (go_at_call 8; refine (shown_any _).mono ?_; rintro e w1 ⟨rfl, b1⟩)
          | (refine make8 rfl _ _ rfl q rfl rfl (by omega) ?_; intro w2 ho2 b2))
        obtain ⟨g, hg⟩ : ∃ g, w1.heap.size = g := ⟨_, rfl⟩
        have hgw := b1.size
        have b12 := bt b1 b2
        rw [hg] at ho2 hgw ⊢
        rw [← mix_zero xs ys zs q] at ho2
        have HD : Hid (∀ (b : World) (v : Value), b.ownsRow g 5 1 v q ((mix xs ys zs q q).map vb) → SeesB b v (mix xs ys zs q q)) := fun b v h => Row.own h
        have HN : Hid (xs.length = q ∧ ys.length = q ∧ zs.length = q) := ⟨hn, hm, hq⟩
        have HM : Hid (mix xs ys zs q q = xorS (xorS xs ys) zs) := mix_all hn hm hq
        have hqb : q ≤ 500 := by omega
        clear hg hn hm hq b1 b2
        go_wp2
        go_loopw [9] (fun i wr => ∃ k : Nat, k ≤ q ∧ i = .int .i64 k ∧ wr.ownsRow g 5 1 (.slice (some ⟨g, 0, none⟩) q q) q ((mix xs ys zs q k).map vb) ∧ Below w.heap.size w wr) (fun i _ => q - (intOf i).toNat)
        case atStart => exact ⟨0, Nat.zero_le _, rfl, ho2, b12⟩
        case round =>
          clear ho2 b12
          obtain ⟨k, hk, rfl, hown, hbl⟩ := hrel
          by_cases hlt : k < q
          · obtain ⟨ad, rfl, _, ca⟩ := (ha.below hbl).at k (by rw [HN.out.1]; exact hlt)
            obtain ⟨bd, rfl, _, cb⟩ := (hb.below hbl).at k (by rw [HN.out.2.1]; exact hlt)
            obtain ⟨cd, rfl, _, cc⟩ := (hc.below hbl).at k (by rw [HN.out.2.2]; exact hlt)
            have hcell := hown.cellAt k (by omega)
            rw [List.getElem?_map, List.getElem?_eq_getElem (by rw [mix_len]; exact hlt)] at hcell
            have hf := hown.frozenAt k
            have hst := (hown.drew.stored k (vb (xs.getD k 0#8 ^^^ ys.getD k 0#8 ^^^ zs.getD k 0#8)))
            rw [← List.map_set, mix_succ] at hst
            have hb2 : Below w.heap.size w (wr.drew.setCell ⟨g, k, none⟩ (vb (xs.getD k 0#8 ^^^ ys.getD k 0#8 ^^^ zs.getD k 0#8))) := hbl.drew.grown hst.2 hbl.drew.size (fun m e => by cases e; exact hgw)
            generalize (mix xs ys zs q k)[k]'(by rw [mix_len]; exact hlt) = o at hcell
            generalize xs.getD k 0#8 = x at ca hst hb2
            generalize ys.getD k 0#8 = y at cb hst hb2
            generalize zs.getD k 0#8 = z at cc hst hb2
            have x1 := xor_iv8 x y
            have x2 := xor_iv8 (x ^^^ y) z
            have hkq : (k : Int) < (q : Int) := by omega
            have hk0 : (0 : Int) ≤ (k : Int) := by omega
            go_wp2
            go_still_tail 17, (by kernel_rfl)
            change wpList Try.prog _ _ _ _ wr.drew
            go_wp2
            go_roundw
            case rel => exact ⟨k + 1, by omega, by go_num, hst.1, hb2⟩
            case measure => simp [intOf]; omega
          · have e : k = q := by omega
            subst e
            have hs := HD.out wr _ hown
            rw [HM.out] at hs
            go_wp2_with (first
              | (have _ := b6; go_at_call 15; refine (kD _ _ (hs.below (bt b4 (bt b5 b6)))).mono ?_; rintro e w7 ⟨rfl, b7⟩)
              | (have _ := b5; go_at_call 15; refine (kC _ (bt hbl (bt b4 b5))).mono ?_; rintro e w6 ⟨rfl, b6⟩)
              | (have _ := b4; go_at_call 15; refine (kB _ (bt hbl b4)).mono ?_; rintro e w5 ⟨rfl, b5⟩)
              | (go_at_call 15; refine (kA _ hbl).mono ?_; rintro e w4 ⟨rfl, b4⟩))
            go_ret
            exact ⟨rfl, bt hbl (bt b4 (bt b5 (bt b6 b7)))⟩
      · have h3' : ((q : Int) == (m : Int)) = false := by simp; omega
        go_enter Try.func6, Try.ntmps6
        go_wp2_with (go_at_call 8; refine (shown_any _).mono ?_; rintro e w1 ⟨rfl, b1⟩)
        go_ret
        exact ⟨rfl, b1⟩
    · have h2' : ((m : Int) == (n : Int)) = false := by simp; omega
      go_enter Try.func6, Try.ntmps6
      go_wp2_with (go_at_call 8; refine (shown_any _).mono ?_; rintro e w1 ⟨rfl, b1⟩)
      go_ret
      exact ⟨rfl, b1⟩
end Go.Proofs.Ytgamakjhndlffaa.Gr
