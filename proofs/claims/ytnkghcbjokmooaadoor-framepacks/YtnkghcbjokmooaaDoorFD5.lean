/-
  The frame of bytes: the document's Decode, where the bytes are a frame's.
-/
import Derived.Test.YtnkghcbjokmooaaDoorFD4
namespace Go.Proofs.YtnkghcbjokmooaaDoor.Gr
open Go.RowKit Go.Sort Qm
set_option linter.unusedVariables false

theorem idx_lt {j m L n : Nat} (hj : j < L) (hm : m < 8) (hn : 1 + 8 * L = n) : 1 + 8 * j + m < n := by omega
set_option maxRecDepth 20000 in
set_option maxHeartbeats 2000000 in
theorem rdecode_yes (v : Value) (bs : List (BitVec 8)) (hn : bs.length ≤ 3500) (hE : decE bs = 0) (w : World) (hs : SeesB w v bs) :
    Calls Tryd.prog 14 #[v] w fun e b => ∃ v', e = .returned (.tuple #[.agg #[.int .i64 (decK bs), v'], .int .i64 0]) ∧ SeesI b v' (decN bs) ∧ Below w.heap.size w b := by
  have bz := box_below w (.cells #[.int .i64 0, .slice none 0 0] 24)
  have cO := ropen_any v bs hn _ (hs.below bz)
  have hfr := heap_new w (.cells #[.int .i64 0, .slice none 0 0] 24)
  obtain ⟨hE0, hLp, hlen, hk, hnn⟩ := dec_zero hE
  rw [hE0] at cO
  rw [hk, hnn]
  clear hE0 hk hnn hE
  generalize openS bs = in' at hLp hlen cO ⊢
  have cL := fun (u : World) => rlong_any (hdK in') u
  obtain ⟨K, hK⟩ : ∃ K, hdK in' = K := ⟨_, rfl⟩
  have hK' : iv (in'.getD 0 0#8) = K := hK
  have hKw : IntKind.i64.wrap K = K := by rw [← hK']; exact wrap_small (iv_lt8 _).1 (iv_lt8 _).2
  rw [hK] at cL hLp hlen ⊢
  have hL18 := longS_le K
  generalize longS K = L at cL hLp hlen hL18 ⊢
  have HN : Hid (in'.length = 1 + 8 * L) := hlen
  have hc0 : ∀ (u : World) (ao : Option Addr) (cap : Nat), SeesB u (.slice ao (1 + 8 * L) cap) in' → ∃ ad, ao = some ad ∧ ad.block < u.heap.size ∧ u.cell? ad = some (.int .u8 (iv (in'.getD 0 0#8))) := fun u ao cap sv => sv.at 0 (by rw [HN.out]; omega)
  rw [hK'] at hc0
  clear hlen hs hK hK'
  obtain ⟨n, hn'⟩ : ∃ n, 1 + 8 * L = n := ⟨_, rfl⟩
  have HL : Hid (1 + 8 * L = n) := hn'
  rw [hn'] at hc0 HN
  have l1 : (1 : Int) ≤ (n : Int) := by omega
  have l0 : (0 : Int) < (n : Int) := by omega
  have ln0 : 0 < n := by omega
  have ln1 : 1 ≤ n := by omega
  have d0 : decide ((n : Int) = 0) = false := by simp; omega
  have d0' : ((n : Int) == 0) = false := by simp; omega
  have m8 : wrap64 (8 * (L : Int)) = 8 * (L : Int) := by unfold wrap64; omega
  have m9 : wrap64 (1 + 8 * (L : Int)) = 1 + 8 * (L : Int) := by unfold wrap64; omega
  have d6 : ((n : Int) == 1 + 8 * (L : Int)) = true := by simp; omega
  have d7 : decide ((n : Int) = 1 + 8 * (L : Int)) = true := by simp; omega
  have d8 : ((n : Int) != 1 + 8 * (L : Int)) = false := by simp; omega
  have d1 : decide ((L : Int) = 0) = false := by simp; omega
  have d4 : ((L : Int) == 0) = false := by simp; omega
  clear hn'
  go_enter Tryd.func14, Tryd.ntmps14
  go_wp2_with (first
    | (go_at_call 33; refine cO.mono ?_; rintro e w1 ⟨v', rfl, sv, b1⟩; obtain ⟨xo, xc, rfl⟩ := sv.slice; rw [HN.out] at sv ⊢; obtain ⟨ad, rfl, _, ca⟩ := hc0 _ _ _ sv)
    | (go_at_call 18; refine (cL _).mono ?_; rintro e w4 ⟨rfl, b4⟩))
  have hq6 : w4.heap[w1.heap.size]? = some (.cells #[.int .i64 K, .slice none 0 0] 24 (0, 0)) := keep b4 (heap_new w1 _)
  have hq5 : w4.heap[w.heap.size]? = some (.cells #[.int .i64 0, .slice none 0 0] 24 (0, 0)) := keep b4 (heap_old (keep b1 hfr) _)
  have hlt1 : w.heap.size < w1.heap.size := lt_of_block (keep b1 hfr)
  have hb14 := bt (box_below w1 _) b4
  have hlt4 := lt_of_block hq6
  have B1 := bt bz b1
  obtain ⟨g, hg⟩ : ∃ g, w1.heap.size = g := ⟨_, rfl⟩
  have hbt : ∀ (V : World) (j : Nat), Below g w1 V → j < n → V.cell? (ad.add j) = some (.int .u8 (iv (in'.getD j 0#8))) := fun V j hb hj => by
    obtain ⟨ad', e, hl, hc⟩ := sv.at j (by rw [HN.out]; exact hj)
    cases e
    rw [hb.cell (by rw [add_block, ← hg]; exact hl)]
    exact hc
  rw [hg] at hq6 hlt1 hb14 hlt4 ⊢
  have HP : Hid (∀ i k, i < L → k < 8 → in'.getD (1 + 8 * i + k) 0#8 = (prt (in'.drop 1) i).getD k 0#8) := fun i k hi hk => by
    unfold prt
    rw [List.getD_eq_getElem?_getD, List.getD_eq_getElem?_getD, List.getElem?_take, if_pos hk, List.getElem?_drop, List.getElem?_drop]
    congr 2
    omega
  have HPL : Hid (∀ i, i < L → (prt (in'.drop 1) i).length = 8) := fun i hi => by
    unfold prt
    rw [List.length_take, List.length_drop, List.length_drop, HN.out]
    have := HL.out
    omega
  clear cL hc0 cO hfr bz b1 b4 ca
  generalize hrest : in'.drop 1 = rest at HP HPL
  have HR : Hid (in'.drop 1 = rest) := hrest
  clear hrest
  obtain ⟨base, hbase⟩ : ∃ b, w4.heap.size = b := ⟨_, rfl⟩
  rw [hbase] at hlt4
  go_loopw [8] (fun i wr => ∃ j : Nat, j ≤ L ∧ i = .int .i64 j ∧ (∃ v2, FBox wr g K v2 ∧ wr.ownsRow base 2 1 v2 j ((wordsS rest j).map vw)) ∧ base ≤ wr.heap.size ∧ Below g w4 wr) (fun i _ => L - (intOf i).toNat)
  case atStart => exact ⟨0, by omega, rfl, ⟨_, hq6, World.ownsRow_nil _ _ _ _⟩, by omega, Below.refl _ _⟩
  case round =>
    obtain ⟨j, hj, rfl, ⟨v2, hv, hrow⟩, hgV, hB⟩ := hrel
    by_cases hlt : j < L
    · have hB1 := hb14.trans hB
      have hR : Hid (wordsS rest (j + 1) = wordsS rest j ++ [io (numN (prt rest j))]) := wordsS_succ rest j
      have e8 : Hid ((prt rest j).take 8 = prt rest j) := List.take_of_length_le (by rw [HPL.out j hlt]; exact Nat.le_refl _)
      have hst := fun (k : Nat) (hk : k < 8) => (num_step (bs := prt rest j) (k := k) (by rw [HPL.out j hlt]; exact hk) hk).2
      have hby := fun (k : Nat) (hk : k < 8) => hbt wr (1 + 8 * j + k) hB1 (by have := HL.out; omega)
      have hby' : ∀ k, k < 8 → wr.cell? (ad.add (1 + 8 * j + k)) = some (.int .u8 (iv ((prt rest j).getD k 0#8))) := fun k hk => by rw [hby k hk, HP.out j k hlt hk]
      generalize prt rest j = P at hR e8 hst hby'
      obtain ⟨q0, q1, p0, p1⟩ := two_cells (show wr.heap[g]? = some (.cells #[.int .i64 K, v2] 24 (0, 0)) from hv)
      have q1a := fun o => (two_cells (heap_old hv o)).2.1
      clear hby hbt HP HPL hq5 hq6 hb14 B1
      go_wp2
      generalize wr = V at *
      go_loopw [9, 10] (fun x k wr => ∃ m : Nat, m ≤ 8 ∧ k = .int .i64 m ∧ x = .int .u64 (numN (P.take m) : Nat) ∧ wr = V) (fun _ k _ => 8 - (intOf k).toNat)
      case atStart => exact ⟨0, by omega, rfl, rfl, rfl⟩
      case round =>
        obtain ⟨m, hm, rfl, rfl, hwr⟩ := hrel
        subst wr
        by_cases hl8 : m < 8
        · have hs1 := hst m hl8
          have hb1 := hby' m hl8
          generalize P.getD m 0#8 = x at hs1 hb1
          clear hst hby'
          have ia := idx_lt hlt hl8 HL.out
          clear d0 d0' d1 d4 d6 d7 m8 m9 l0 l1 ln0 ln1 q1a
          obtain ⟨N1, hN1⟩ : ∃ N1, numN (P.take (m + 1)) = N1 := ⟨_, rfl⟩
          have HN1 : Hid (numN (P.take (m + 1)) = N1) := hN1
          rw [hN1] at hs1
          clear hN1
          generalize numN (P.take m) = N0 at hs1 ⊢
          generalize iv x = xi at hs1 hb1
          go_wp2
          exact ⟨⟨m + 1, by omega, by go_num, by rw [HN1.out], trivial⟩, by simp [intOf]; omega⟩
        · obtain rfl : m = 8 := by omega
          rw [e8.out]
          have hle5 : g ≤ base := by omega
          clear d0 d0' d1 d4 d6 d7 m8 m9 l0 l1 ln0 ln1 hst hby'
          go_wp2_with (at_builtin; refine app64 rfl _ _ rfl base v2 j _ rfl (hrow.alloc _) (le_alloc hgV _) _ [io (numN P)] rfl (one64' _ _ _ rfl) (by simp; omega) ?_; intro v5 w5 ho5 hg5; obtain ⟨g5, c5, rfl⟩ := ownsRow_succ ho5; obtain ⟨z1, z2, z3, z4, z5, z6⟩ := hv.appended hrow hgV (Nat.le_refl _) hle5 ho5 hg5; obtain ⟨y0, y1, y2, y3⟩ := two_cells (show w5.heap[g]? = some (.cells #[.int .i64 K, v2] 24 (0, 0)) from z1))
          go_roundw
          case rel => exact ⟨j + 1, by omega, by go_num, ⟨_, z2, by rw [hR.out, List.map_append]; exact z3⟩, by have := z5.size; omega, hB.trans z5⟩
          case measure => simp [intOf]; omega
    · obtain rfl : j = L := by omega
      have e : j = (j - 1) + 1 := by omega
      have hrow' := hrow
      rw [e] at hrow
      obtain ⟨g5, c5, rfl⟩ := ownsRow_succ hrow
      rw [← e] at hv hrow'
      obtain ⟨q0, q1, p0, p1⟩ := two_cells (show wr.heap[g]? = some (.cells #[.int .i64 K, .slice (some ⟨g5, 0, none⟩) j c5] 24 (0, 0)) from hv)
      have hV5 : wr.heap[w.heap.size]? = some (.cells #[.int .i64 0, .slice none 0 0] 24 (0, 0)) := (hB.block _ hlt1).trans hq5
      obtain ⟨y0, y1, m0, m1⟩ := two_cells hV5
      have hset := set_two (x' := .int .i64 K) (y' := .slice (some ⟨g5, 0, none⟩) j c5) hV5
      have hown1 := hrow'.kept (gb_setCell1 wr w.heap.size 0 (.int .i64 K)) (.inr fun e => by have := (hrow'.lt _ e).1; omega)
      have hown2 := hown1.kept (gb_setCell1 _ w.heap.size 1 (.slice (some ⟨g5, 0, none⟩) j c5)) (.inr fun e => by have := (hown1.lt _ e).1; omega)
      have hb3 := put2 (B1.trans ((hb14.trans hB).mono (Nat.le_of_lt hlt1))) (Nat.le_refl _) (.int .i64 K) (.slice (some ⟨g5, 0, none⟩) j c5)
      obtain ⟨r0, r1, _, _⟩ := two_cells hset
      clear d0 d0' d1 d4 d6 d7 m8 m9 l0 l1 ln0 ln1 e
      go_wp2
      refine bodyPost_ret (v := .tuple #[.agg #[.int .i64 K, .slice (some ⟨g5, 0, none⟩) j c5], .int .i64 0]) (by simp [results, Tryd.results14, go_sem, r0, r1]) rfl ?_
      exact ⟨_, rfl, by rw [HR.out]; exact Row.own hown2, hb3⟩
end Go.Proofs.YtnkghcbjokmooaaDoor.Gr
