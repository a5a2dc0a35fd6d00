/-
  The frame of bytes: the code's Decode.
-/
import Derived.Test.YtnkghcbjokmooaaDoorFR
import Derived.Deep.RegionHeld3
namespace Go.Proofs.YtnkghcbjokmooaaDoor.Gr
open Go.RowKit Go.Sort Qm

theorem put2 {B D : Nat} {w a : World} (h : Below B w a) (hD : B ≤ D) (x y : Value) : Below B w ((a.setCell ⟨D, 0, none⟩ x).setCell ⟨D, 1, none⟩ y) := (h.setCell hD x).setCell hD y

theorem wrap_small {x : Int} (h0 : 0 ≤ x) (h1 : x < 256) : IntKind.i64.wrap x = x := by
  simp [IntKind.wrap, IntKind.bits, IntKind.signed]
  split <;> omega
theorem two_cells {w : World} {b : Nat} {x y : Value} {t : TypeId} (h : w.heap[b]? = some (.cells #[x, y] t (0, 0))) : w.cell? ⟨b, 0, none⟩ = some x ∧ w.cell? ⟨b, 1, none⟩ = some y ∧ w.frozen? ⟨b, 0, none⟩ = false ∧ w.frozen? ⟨b, 1, none⟩ = false := by
  refine ⟨?_, ?_, ?_, ?_⟩ <;> simp [World.cell?, World.frozen?, h]
theorem set_two {w : World} {b : Nat} {x y x' y' : Value} {t : TypeId} (h : w.heap[b]? = some (.cells #[x, y] t (0, 0))) : ((w.setCell ⟨b, 0, none⟩ x').setCell ⟨b, 1, none⟩ y').heap[b]? = some (.cells #[x', y'] t (0, 0)) :=
  setCell_heap (setCell_heap h x') y'
set_option maxRecDepth 20000 in
set_option maxHeartbeats 1000000 in
theorem decode_no (v : Value) (bs : List (BitVec 8)) (hn : bs.length ≤ 3500) (hE : decE bs ≠ 0) (w : World) (hs : SeesB w v bs) (hG : Longs w) :
    Calls Tryd.prog 13 #[v] w fun e b => e = .returned (.tuple #[.agg #[.int .i64 0, .slice none 0 0], .int .i64 (decE bs)]) ∧ Below w.heap.size w b := by
  have bz := box_below w (.cells #[.int .i64 0, .slice none 0 0] 24)
  have cO := open_any v bs hn _ (hs.below bz)
  have hfr := heap_new w (.cells #[.int .i64 0, .slice none 0 0] 24)
  unfold decE at hE ⊢
  generalize openE bs = E at hE cO ⊢
  by_cases h1 : E = 0
  · subst h1
    rw [if_neg (by simp)] at hE ⊢
    generalize openS bs = in' at hE cO ⊢
    by_cases h2 : in'.length = 0
    · rw [if_pos h2] at hE ⊢
      clear hE hs hG
      go_enter Tryd.func13, Tryd.ntmps13
      go_wp2_with (go_at_call 30; refine cO.mono ?_; rintro e w1 ⟨v', rfl, sv, b1⟩; obtain ⟨xo, xc, rfl⟩ := sv.slice; obtain ⟨c0, c1, f0, f1⟩ := two_cells (keep b1 hfr))
      obtain ⟨r0, r1, _, _⟩ := two_cells (set_two (x' := .int .i64 0) (y' := .slice none 0 0) (keep b1 hfr))
      refine bodyPost_ret (v := .tuple #[.agg #[.int .i64 0, .slice none 0 0], .int .i64 2]) (by simp [results, Tryd.results13, go_sem, r0, r1]) rfl ?_
      exact ⟨rfl, put2 (bt bz b1) (Nat.le_refl _) _ _⟩
    · rw [if_neg h2] at hE ⊢
      by_cases h3 : longS (hdK in') = 0 ∨ in'.length ≠ 1 + 8 * longS (hdK in')
      · rw [if_pos h3] at hE ⊢
        have cL := fun (u : World) (h : Below w.heap.size w u) => long_any (hdK in') u (hG.below h)
        obtain ⟨K, hK⟩ : ∃ K, hdK in' = K := ⟨_, rfl⟩
        have hK' : iv (in'.getD 0 0#8) = K := hK
        obtain ⟨n, hn'⟩ : ∃ n, in'.length = n := ⟨_, rfl⟩
        have HN : Hid (in'.length = n) := hn'
        have hL18 := longS_le K
        have hKw : IntKind.i64.wrap K = K := by rw [← hK']; exact wrap_small (iv_lt8 _).1 (iv_lt8 _).2
        rw [hK] at cL h3
        rw [hn'] at h2 h3
        generalize longS K = L at cL h3 hL18
        have hc0 : ∀ (u : World) (ao : Option Addr) (cap : Nat), SeesB u (.slice ao n cap) in' → ∃ ad, ao = some ad ∧ ad.block < u.heap.size ∧ u.cell? ad = some (.int .u8 (iv (in'.getD 0 0#8))) := fun u ao cap sv => sv.at 0 (by rw [HN.out]; omega)
        rw [hK'] at hc0
        clear hE hs hG hn' hK hK'
        have l1 : (1 : Int) ≤ (n : Int) := by omega
        have l0 : (0 : Int) < (n : Int) := by omega
        have hnn : (n : Int) - 1 = ((n - 1 : Nat) : Int) := by omega
        have ln0 : 0 < n := by omega
        have ln1 : 1 ≤ n := by omega
        have d0 : decide ((n : Int) = 0) = false := by simp; omega
        by_cases hL : L = 0
        · subst hL
          go_enter Tryd.func13, Tryd.ntmps13
          go_wp2_with (first
            | (go_at_call 30; refine cO.mono ?_; rintro e w1 ⟨v', rfl, sv, b1⟩; obtain ⟨xo, xc, rfl⟩ := sv.slice; rw [HN.out] at sv ⊢; obtain ⟨ad, rfl, _, ca⟩ := hc0 _ _ _ sv; obtain ⟨c0, c1, f0, f1⟩ := two_cells (keep b1 hfr); have le1 : n ≤ xc := Nat.le_trans (Nat.le_of_eq HN.out.symm) sv.le.1; have le2 : (n : Int) ≤ (xc : Int) := (by omega); have le3 : 1 ≤ xc := (by omega); have le4 : (1 : Int) ≤ (xc : Int) := (by omega))
            | fail)
          go_region_held3 (fun u => u.cell? ad = some (.int .u8 K)) (go_keep) (fail)
          have hfr2 := keep b1 hfr
          have b2 := box_below w1 (.cells #[.int .i64 K, .slice none 0 0] 24)
          have hfr3 := heap_old hfr2 (.cells #[.int .i64 K, .slice none 0 0] 24)
          have hfr4 := heap_new w1 (.cells #[.int .i64 K, .slice none 0 0] 24)
          have B1 := bt bz b1
          obtain ⟨W, hW⟩ : ∃ W, (w1.alloc (.cells #[.int .i64 K, .slice none 0 0] 24)).drew = W := ⟨_, rfl⟩
          have b3 : Below w1.heap.size w1 W := by rw [← hW]; exact b2.drew
          have hfr5 : W.heap[w.heap.size]? = some (.cells #[.int .i64 0, .slice none 0 0] 24 (0, 0)) := by rw [← hW]; exact hfr3
          have hfr6 : W.heap[w1.heap.size]? = some (.cells #[.int .i64 K, .slice none 0 0] 24 (0, 0)) := by rw [← hW]; exact hfr4
          rw [hW]
          obtain ⟨e0, e1, g0, g1⟩ := two_cells hfr5
          obtain ⟨e2, e3, g2, g3⟩ := two_cells hfr6
          clear b2 hfr2 hfr3 hfr4 hW c0 c1 f0 f1
          go_wp2_with (go_at_call 17; refine (cL _ (bt B1 b3)).mono ?_; rintro e w4 ⟨rfl, b4⟩; obtain ⟨y0, y1, m0, m1⟩ := two_cells (keep b4 hfr5))
          all_goals
            obtain ⟨r0, r1, _, _⟩ := two_cells (set_two (x' := .int .i64 0) (y' := .slice none 0 0) (keep b4 hfr5))
            refine bodyPost_ret (v := .tuple #[.agg #[.int .i64 0, .slice none 0 0], .int .i64 2]) (by simp [results, Tryd.results13, go_sem, r0, r1]) rfl ?_
            exact ⟨rfl, put2 (bt (bt B1 b3) b4) (Nat.le_refl _) _ _⟩
        · have hne : ¬ (n - 1 = 8 * L) := by omega
          have m8 : wrap64 (8 * (L : Int)) = 8 * (L : Int) := by unfold wrap64; omega
          have d1 : decide ((L : Int) = 0) = false := by simp; omega
          have d2 : ¬ (((n - 1 : Nat) : Int) = 8 * (L : Int)) := by omega
          have d3 : (((n - 1 : Nat) : Int) == 8 * (L : Int)) = false := by simpa using d2
          have d4 : ((L : Int) == 0) = false := by simpa using hL
          go_enter Tryd.func13, Tryd.ntmps13
          go_wp2_with (first
            | (go_at_call 30; refine cO.mono ?_; rintro e w1 ⟨v', rfl, sv, b1⟩; obtain ⟨xo, xc, rfl⟩ := sv.slice; rw [HN.out] at sv ⊢; obtain ⟨ad, rfl, _, ca⟩ := hc0 _ _ _ sv; obtain ⟨c0, c1, f0, f1⟩ := two_cells (keep b1 hfr); have le1 : n ≤ xc := Nat.le_trans (Nat.le_of_eq HN.out.symm) sv.le.1; have le2 : (n : Int) ≤ (xc : Int) := (by omega); have le3 : 1 ≤ xc := (by omega); have le4 : (1 : Int) ≤ (xc : Int) := (by omega))
            | fail)
          go_region_held3 (fun u => u.cell? ad = some (.int .u8 K)) (go_keep) (fail)
          have hfr2 := keep b1 hfr
          have b2 := box_below w1 (.cells #[.int .i64 K, .slice none 0 0] 24)
          have hfr3 := heap_old hfr2 (.cells #[.int .i64 K, .slice none 0 0] 24)
          have hfr4 := heap_new w1 (.cells #[.int .i64 K, .slice none 0 0] 24)
          have B1 := bt bz b1
          obtain ⟨W, hW⟩ : ∃ W, (w1.alloc (.cells #[.int .i64 K, .slice none 0 0] 24)).drew = W := ⟨_, rfl⟩
          have b3 : Below w1.heap.size w1 W := by rw [← hW]; exact b2.drew
          have hfr5 : W.heap[w.heap.size]? = some (.cells #[.int .i64 0, .slice none 0 0] 24 (0, 0)) := by rw [← hW]; exact hfr3
          have hfr6 : W.heap[w1.heap.size]? = some (.cells #[.int .i64 K, .slice none 0 0] 24 (0, 0)) := by rw [← hW]; exact hfr4
          rw [hW]
          obtain ⟨e0, e1, g0, g1⟩ := two_cells hfr5
          obtain ⟨e2, e3, g2, g3⟩ := two_cells hfr6
          clear b2 hfr2 hfr3 hfr4 hW c0 c1 f0 f1
          go_wp2_with (go_at_call 17; refine (cL _ (bt B1 b3)).mono ?_; rintro e w4 ⟨rfl, b4⟩; obtain ⟨y0, y1, m0, m1⟩ := two_cells (keep b4 hfr5))
          all_goals
            obtain ⟨r0, r1, _, _⟩ := two_cells (set_two (x' := .int .i64 0) (y' := .slice none 0 0) (keep b4 hfr5))
            refine bodyPost_ret (v := .tuple #[.agg #[.int .i64 0, .slice none 0 0], .int .i64 2]) (by simp [results, Tryd.results13, go_sem, r0, r1]) rfl ?_
            exact ⟨rfl, put2 (bt (bt B1 b3) b4) (Nat.le_refl _) _ _⟩
      · rw [if_neg h3] at hE
        exact absurd rfl hE
  · rw [if_pos h1] at hE ⊢
    clear hE hs hG
    have d1 : decide (E = 0) = false := by simpa using h1
    have d2 : (E == 0) = false := by simpa using h1
    go_enter Tryd.func13, Tryd.ntmps13
    go_wp2_with (go_at_call 30; refine cO.mono ?_; rintro e w1 ⟨v', rfl, sv, b1⟩; obtain ⟨xo, xc, rfl⟩ := sv.slice; obtain ⟨c0, c1, f0, f1⟩ := two_cells (keep b1 hfr))
    obtain ⟨r0, r1, _, _⟩ := two_cells (set_two (x' := .int .i64 0) (y' := .slice none 0 0) (keep b1 hfr))
    refine bodyPost_ret (v := .tuple #[.agg #[.int .i64 0, .slice none 0 0], .int .i64 E]) (by simp [results, Tryd.results13, go_sem, r0, r1]) rfl ?_
    exact ⟨rfl, put2 (bt bz b1) (Nat.le_refl _) _ _⟩
end Go.Proofs.YtnkghcbjokmooaaDoor.Gr
