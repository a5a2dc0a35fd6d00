/-
  The walk of SumBursts.
-/
import Derived.Test.YtgamakjhndlffaaWSumL
namespace Go.Proofs.Ytgamakjhndlffaa.Gr
open Go.RowKit Qm

namespace Qm
/-- a row of which k bytes from place a on were changed -/
def bur (Z : List (BitVec 8)) (f : Nat → BitVec 8) (a L k : Nat) : List (BitVec 8) := (List.range L).map fun j => Z.getD j 0#8 ^^^ (if a ≤ j ∧ j < a + k then f (j - a) else 0#8)
theorem bur_len (Z : List (BitVec 8)) (f : Nat → BitVec 8) (a L k : Nat) : (bur Z f a L k).length = L := by unfold bur; simp
theorem bur_zero {Z : List (BitVec 8)} (f : Nat → BitVec 8) (a : Nat) {L : Nat} (h : Z.length = L) : bur Z f a L 0 = Z := by
  unfold bur
  apply List.ext_getElem
  · simp; omega
  · intro i h1 h2
    simp only [List.getElem_map, List.getElem_range]
    rw [if_neg (by omega), BitVec.xor_zero, List.getD_eq_getElem?_getD, List.getElem?_eq_getElem h2]; rfl
theorem bur_get (Z : List (BitVec 8)) (f : Nat → BitVec 8) (a L k : Nat) (h : a + k < L) : (bur Z f a L k)[a + k]? = some (Z.getD (a + k) 0#8) := by
  unfold bur
  rw [List.getElem?_map, List.getElem?_range h]
  simp
theorem bur_succ (Z : List (BitVec 8)) (f : Nat → BitVec 8) (a L k : Nat) : (bur Z f a L k).set (a + k) (Z.getD (a + k) 0#8 ^^^ f k) = bur Z f a L (k + 1) := by
  unfold bur
  apply List.ext_getElem
  · simp
  · intro i h1 h2
    rw [List.getElem_set]
    simp only [List.getElem_map, List.getElem_range]
    by_cases e : a + k = i
    · subst e
      rw [if_pos rfl, if_pos (by omega)]
      congr 2
      omega
    · rw [if_neg e]
      by_cases hi : a ≤ i ∧ i < a + k
      · rw [if_pos hi, if_pos (by omega)]
      · rw [if_neg hi, if_neg (by omega)]
theorem bur_xor {Z : List (BitVec 8)} (f : Nat → BitVec 8) {a L k : Nat} (h : Z.length = L) (hk : a + k ≤ L) : bur Z f a L k = xorS Z (List.replicate a 0#8 ++ (List.range k).map f ++ List.replicate (L - a - k) 0#8) := by
  unfold bur xorS
  apply List.ext_getElem
  · simp; omega
  · intro i h1 h2
    have hi : i < L := by simpa using h1
    simp only [List.getElem_map, List.getElem_range, List.getElem_zipWith]
    rw [List.getD_eq_getElem?_getD, List.getElem?_eq_getElem (by omega)]
    congr 1
    by_cases h1 : i < a + k
    · rw [List.getElem_append_left (by simp; omega)]
      by_cases h0 : i < a
      · rw [List.getElem_append_left (by simp; omega), List.getElem_replicate, if_neg (by omega)]
      · rw [List.getElem_append_right (by simp; omega), List.getElem_map, List.getElem_range, if_pos (by omega), List.length_replicate]
    · rw [List.getElem_append_right (by simp; omega), List.getElem_replicate, if_neg (by omega)]
/-- was one of k other than 0? -/
def smB (f : Nat → BitVec 8) : Nat → Bool
  | 0 => false
  | k + 1 => smB f k || (f k != 0#8)
theorem smB_some {f : Nat → BitVec 8} {k : Nat} (h : smB f k = true) : ∃ x ∈ (List.range k).map f, x ≠ 0#8 := by
  induction k with
  | zero => cases h
  | succ k ih =>
    unfold smB at h
    rw [List.range_succ, List.map_append]
    cases hs : smB f k with
    | true =>
      obtain ⟨x, hx, hx0⟩ := ih hs
      exact ⟨x, List.mem_append_left _ hx, hx0⟩
    | false =>
      rw [hs, Bool.false_or] at h
      exact ⟨f k, List.mem_append_right _ (by simp), by simpa using h⟩
theorem smB_none {f : Nat → BitVec 8} {k : Nat} (h : smB f k = false) : ∀ j, j < k → f j = 0#8 := by
  induction k with
  | zero => intro j hj; omega
  | succ k ih =>
    unfold smB at h
    rw [Bool.or_eq_false_iff] at h
    intro j hj
    by_cases e : j = k
    · subst e; simpa using h.2
    · exact ih h.1 j (by omega)
theorem bur_same {Z : List (BitVec 8)} {f : Nat → BitVec 8} {a L k : Nat} (h : Z.length = L) (hs : smB f k = false) : bur Z f a L k = Z := by
  refine Eq.trans ?_ (bur_zero f a h)
  unfold bur
  apply List.map_congr_left
  intro j _
  congr 1
  by_cases hi : a ≤ j ∧ j < a + k
  · rw [if_pos hi, if_neg (by omega)]; exact smB_none hs _ (by omega)
  · rw [if_neg hi, if_neg (by omega)]
theorem bur_told {bs : List (BitVec 8)} {f : Nat → BitVec 8} {a k : Nat} (hk : k ≤ 4) (ha : a + k ≤ bs.length + 4) (hs : smB f k = true) : okS (bur (sealS bs) f a (bs.length + 4) k) = false := by
  rw [bur_xor f (sealS_len bs) ha]
  have hl : ((List.range k).map f).length = k := by simp
  refine burst (sealS bs) ((List.range k).map f) a (bs.length + 4 - a - k) (seal_ok bs) (by omega) ?_ (smB_some hs)
  rw [hl, sealS_len]; omega
end Qm

theorem iv_zero' {x : BitVec 8} (h : ¬ x = 0#8) : ¬ (iv x = 0) := fun e => h (iv_inj (e.trans (by decide)))
set_option maxRecDepth 20000 in
set_option maxHeartbeats 4000000 in
theorem sumBursts_walk (v : Value) (bs : List (BitVec 8)) (at' : Int) (f : Nat → BitVec 8) (w : World) (hs : SeesB w v bs) :
    Calls Try.prog 5 #[v, .int .i64 at', .agg #[vb (f 0), vb (f 1), vb (f 2), vb (f 3)]] w fun e w' => e = .returned (.bool true) ∧ Below w.heap.size w w' := by
  obtain ⟨ao, cap, rfl⟩ := hs.slice
  obtain ⟨W, hW⟩ : ∃ W, w.alloc (.cells #[vb (f 0), vb (f 1), vb (f 2), vb (f 3)] 38) = W := ⟨_, rfl⟩
  obtain ⟨p, hp⟩ : ∃ p, w.heap.size = p := ⟨_, rfl⟩
  have hx := heap_new w (.cells #[vb (f 0), vb (f 1), vb (f 2), vb (f 3)] 38)
  have bW := box_below w (.cells #[vb (f 0), vb (f 1), vb (f 2), vb (f 3)] 38)
  rw [hW] at hx bW
  rw [hp] at hx
  have hsW := hs.below bW
  have hpl := lt_of_block hx
  have HF : Hid (∀ u, Below W.heap.size W u → ∀ k, k < 4 → u.cell? ⟨p, k, none⟩ = some (vb (f k))) := fun u hu k hk => by
    rw [hu.cell (p := ⟨p, k, none⟩) hpl, cell_of_tab hx]
    rcases (by omega : k = 0 ∨ k = 1 ∨ k = 2 ∨ k = 3) with rfl | rfl | rfl | rfl <;> rfl
  clear hs
  by_cases hl : 2000 < bs.length
  · generalize bs.length = n at *
    have hl' : (2000 : Int) < (n : Int) := by omega
    go_enter Try.func5, Try.ntmps5
    go_wp2_with (go_at_call 8; refine (shown_any _).mono ?_; rintro e w1 ⟨rfl, b1⟩)
    go_ret
    exact ⟨rfl, bt bW b1⟩
  · have kS := fun (u : World) (h : Below W.heap.size W u) => seal_any _ bs (by omega) u (hsW.below h)
    have hL : (sealS bs).length = bs.length + 4 := sealS_len bs
    have HO : Hid (∀ (b : World) (v : Value) B k, b.ownsRow B 5 1 v (bs.length + 4) ((bur (sealS bs) f at'.toNat (bs.length + 4) k).map vb) → SeesB b v (bur (sealS bs) f at'.toNat (bs.length + 4) k)) := fun b v B k h => Row.own h
    have kO := fun k (u : World) (v : Value) (h : SeesB u v (bur (sealS bs) f at'.toNat (bs.length + 4) k)) => open_any v _ (by rw [bur_len]; omega) u h
    have HT : Hid (∀ k, k ≤ 4 → at'.toNat + k ≤ bs.length + 4 → smB f k = true → openE (bur (sealS bs) f at'.toNat (bs.length + 4) k) = 3 ∧ openS (bur (sealS bs) f at'.toNat (bs.length + 4) k) = []) := fun k h1 h2 h3 => by
      have := bur_told (bs := bs) h1 h2 h3
      unfold openE openS
      rw [this, if_neg (by rw [bur_len]; omega)]
      exact ⟨rfl, rfl⟩
    have HU : Hid (∀ k, smB f k = false → openE (bur (sealS bs) f at'.toNat (bs.length + 4) k) = 0 ∧ openS (bur (sealS bs) f at'.toNat (bs.length + 4) k) = bs) := fun k h => by
      rw [bur_same hL h]
      exact ⟨(open_seal bs).2, (open_seal bs).1⟩
    have kE := fun (u : World) (v : Value) (h : SeesB u v bs) (h2 : Below W.heap.size W u) => rsame_any v _ bs bs u (by omega) (by omega) h (hsW.below h2)
    have d1 : decide (bs = bs) = true := by simp
    rw [d1] at kE
    have HZ : Hid (bur (sealS bs) f at'.toNat (bs.length + 4) 0 = sealS bs) := bur_zero f _ hL
    generalize sealS bs = Z at kS HO kO HT HU HZ hL
    have hnn : bs.length ≤ 2000 := by omega
    clear hl
    generalize hn : bs.length = n at *
    have hw4 : wrap64 ((n : Int) + 4) = (n : Int) + 4 := by unfold wrap64; omega
    have hl' : ¬ ((2000 : Int) < (n : Int)) := by omega
    have hne : ((n : Int) + 4 == (n : Int) + 4) = true := by simp
    clear hn hL d1 hx
    by_cases h0 : at' < 0
    · have h0' : decide (at' < 0) = true := by simpa using h0
      go_enter Try.func5, Try.ntmps5
      go_wp2_with (first
        | (go_at_call 8; refine (shown_any _).mono ?_; rintro e w1 ⟨rfl, b1⟩)
        | (go_at_call 18; refine (kS _ b1).mono ?_; rintro e w2 ⟨g, G, rfl, ho, b2⟩))
      go_ret
      exact ⟨rfl, bt bW (bt b1 b2)⟩
    · obtain ⟨a, rfl⟩ := Int.eq_ofNat_of_zero_le (by omega : 0 ≤ at')
      simp only [Int.toNat_natCast] at HO kO HT HU HZ
      have h0' : decide ((a : Int) < 0) = false := by simp
      by_cases h9 : n + 4 ≤ a
      · have h9' : (n : Int) + 4 ≤ (a : Int) := by omega
        go_enter Try.func5, Try.ntmps5
        go_wp2_with (first
          | (go_at_call 8; refine (shown_any _).mono ?_; rintro e w1 ⟨rfl, b1⟩)
          | (go_at_call 18; refine (kS _ b1).mono ?_; rintro e w2 ⟨g, G, rfl, ho, b2⟩))
        go_ret
        exact ⟨rfl, bt bW (bt b1 b2)⟩
      · have hd2 : decide ((n : Int) + 4 ≤ (a : Int)) = false := by simp; omega
        have hd1 : decide ((2000 : Int) < (n : Int)) = false := by simp; omega
        clear hl' hne
        go_enter Try.func5, Try.ntmps5
        go_upto_region 9 with (first
          | (go_at_call 8; refine (shown_any _).mono ?_; rintro e w1 ⟨rfl, b1⟩)
          | (go_at_call 18; refine (kS _ b1).mono ?_; rintro e w2 ⟨g, G, rfl, ho, b2⟩))
        have ho2 := own_mono ho b1.size
        have hgW := Nat.le_trans b1.size (ho.lt g rfl).1
        have b12 := bt b1 b2
        rw [← HZ.out] at ho2
        clear ho b1 b2 kS hW hp
        go_wp2
        go_loopw [10, 9] (fun i s wr => ∃ k : Nat, k ≤ 4 ∧ a + k ≤ n + 4 ∧ i = .int .i64 k ∧ s = .bool (smB f k) ∧
          wr.ownsRow W.heap.size 5 1 (.slice (some ⟨g, 0, none⟩) (n + 4) G) (n + 4) ((bur Z f a (n + 4) k).map vb) ∧ Below W.heap.size W wr) (fun i _ _ => 4 - (intOf i).toNat)
        case atStart => exact ⟨0, Nat.zero_le _, by omega, rfl, rfl, ho2, b12⟩
        case round =>
          clear ho2 b12
          obtain ⟨k, hk, hka, rfl, rfl, hown, hbl⟩ := hrel
          by_cases hk4 : k < 4
          · by_cases hak : a + k < n + 4
            · have hkq : (k : Int) < 4 := by omega
              have hk0 : (0 : Int) ≤ (k : Int) := by omega
              have hlA : (a : Int) + (k : Int) < (n : Int) + 4 := by omega
              have hzA : (0 : Int) ≤ (a : Int) + (k : Int) := by omega
              have htA : ((a : Int) + (k : Int)).toNat = a + k := by omega
              have hwA : wrap64 ((a : Int) + (k : Int)) = (a : Int) + (k : Int) := by unfold wrap64; omega
              have hwB : IntKind.i64.wrap ((a : Int) + (k : Int)) = (a : Int) + (k : Int) := by rw [IntKind.wrap_i64]; omega
              have hcell := hown.cellAt (a + k) (by omega)
              rw [List.getElem?_map, bur_get Z f a (n + 4) k hak] at hcell
              have hcell' : wr.cell? ⟨g, a + k, none⟩ = some (.int .u8 (iv (Z.getD (a + k) 0#8))) := hcell
              have hf := hown.frozenAt (a + k)
              have hst := (hown.drew.stored (a + k) (vb (Z.getD (a + k) 0#8 ^^^ f k)))
              rw [← List.map_set, bur_succ] at hst
              have hb2 : Below W.heap.size W (wr.drew.setCell ⟨g, a + k, none⟩ (vb (Z.getD (a + k) 0#8 ^^^ f k))) := hbl.drew.grown hst.2 hbl.drew.size (fun m e => by cases e; exact hgW)
              have hp1 := HF.out wr hbl k hk4
              have hp2 := HF.out _ hb2 k hk4
              have x1 := xor_iv8 (Z.getD (a + k) 0#8) (f k)
              have hsS : smB f (k + 1) = (smB f k || (f k != 0#8)) := rfl
              have HS : Hid (smB f (k + 1) = (smB f k || (f k != 0#8))) := hsS
              clear hcell hsS
              unfold vb at hst hb2 hp1 hp2
              generalize Z.getD (a + k) 0#8 = x at hcell' hst hb2 hp2 x1
              generalize iv (x ^^^ f k) = X at hst hb2 hp2 x1
              cases hsm : smB f k with
              | true =>
                rw [hsm] at HS
                clear hp2
                generalize iv (f k) = Y at hp1 x1
                go_wp2
                go_still_tail 15, (by kernel_rfl)
                change wpList Try.prog _ _ _ _ wr.drew
                go_wp2
                go_roundw
                case rel => exact ⟨k + 1, by omega, by omega, by go_num, by rw [HS.out]; rfl, hst.1, hb2⟩
                case measure => simp [intOf]; omega
              | false =>
                rw [hsm] at HS
                by_cases hy : f k = 0#8
                · have hy0 : iv (f k) = 0 := by rw [hy]; decide
                  have HY : Hid ((f k != 0#8) = false) := by unfold Hid; rw [hy]; rfl
                  rw [hy0] at hp1 hp2 x1
                  clear hy0
                  go_wp2
                  go_still_tail 15, (by kernel_rfl)
                  change wpList Try.prog _ _ _ _ wr.drew
                  go_wp2
                  go_roundw
                  case rel => exact ⟨k + 1, by omega, by omega, by go_num, by rw [HS.out, HY.out]; rfl, hst.1, hb2⟩
                  case measure => simp [intOf]; omega
                · have hy0 := iv_zero' hy
                  have HY : Hid ((f k != 0#8) = true) := by unfold Hid; simpa using hy
                  have hyb : (iv (f k) == 0) = false := by simpa using hy0
                  clear hy
                  generalize iv (f k) = Y at hp1 hp2 x1 hy0 hyb
                  go_wp2
                  go_still_tail 15, (by kernel_rfl)
                  change wpList Try.prog _ _ _ _ wr.drew
                  go_wp2
                  go_roundw
                  case rel => exact ⟨k + 1, by omega, by omega, by go_num, by rw [HS.out, HY.out]; show Value.bool (!(Y == 0)) = _; rw [hyb]; rfl, hst.1, hb2⟩
                  case measure => simp [intOf]; omega
            · have hkq : (k : Int) < 4 := by omega
              have hlA : (n : Int) + 4 ≤ (a : Int) + (k : Int) := by omega
              have hlB : decide ((a : Int) + (k : Int) < (n : Int) + 4) = false := by simp; omega
              have hwA : wrap64 ((a : Int) + (k : Int)) = (a : Int) + (k : Int) := by unfold wrap64; omega
              have hs := HO.out wr _ _ k hown
              have kO' := kO k
              cases hsm : smB f k with
              | true =>
                obtain ⟨e1, e2⟩ := HT.out k hk hka hsm
                rw [e1, e2] at kO'
                generalize bur Z f a (n + 4) k = R at hs kO'
                clear kO HO HT HU HZ hown
                go_wp2_with (go_at_call 9; refine (kO' _ _ hs).mono ?_; rintro e w4 ⟨x, rfl, hx, b4⟩; obtain ⟨xo, xc, rfl⟩ := hx.slice)
                go_ret
                exact ⟨rfl, bt bW (bt hbl b4)⟩
              | false =>
                obtain ⟨e1, e2⟩ := HU.out k hsm
                rw [e1, e2] at kO'
                generalize bur Z f a (n + 4) k = R at hs kO'
                clear kO HO HT HU HZ hown
                go_wp2_with (first
                  | (go_at_call 9; refine (kO' _ _ hs).mono ?_; rintro e w4 ⟨x, rfl, hx, b4⟩)
                  | (go_at_call 17; refine (kE _ _ hx (bt hbl b4)).mono ?_; rintro e w5 ⟨rfl, b5⟩))
                go_ret
                exact ⟨rfl, bt bW (bt hbl (bt b4 b5))⟩
          · have e : k = 4 := by omega
            subst e
            have hd4 : decide ((4 : Int) < 4) = false := by decide
            have hs := HO.out wr _ _ 4 hown
            have kO' := kO 4
            cases hsm : smB f 4 with
            | true =>
              obtain ⟨e1, e2⟩ := HT.out 4 hk hka hsm
              rw [e1, e2] at kO'
              generalize bur Z f a (n + 4) 4 = R at hs kO'
              clear kO HO HT HU HZ hown
              go_wp2_with (go_at_call 9; refine (kO' _ _ hs).mono ?_; rintro e w4 ⟨x, rfl, hx, b4⟩; obtain ⟨xo, xc, rfl⟩ := hx.slice)
              go_ret
              exact ⟨rfl, bt bW (bt hbl b4)⟩
            | false =>
              obtain ⟨e1, e2⟩ := HU.out 4 hsm
              rw [e1, e2] at kO'
              generalize bur Z f a (n + 4) 4 = R at hs kO'
              clear kO HO HT HU HZ hown
              go_wp2_with (first
                | (go_at_call 9; refine (kO' _ _ hs).mono ?_; rintro e w4 ⟨x, rfl, hx, b4⟩)
                | (go_at_call 17; refine (kE _ _ hx (bt hbl b4)).mono ?_; rintro e w5 ⟨rfl, b5⟩))
              go_ret
              exact ⟨rfl, bt bW (bt hbl (bt b4 b5))⟩
end Go.Proofs.Ytgamakjhndlffaa.Gr
