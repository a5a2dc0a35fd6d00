/-
  The walk of FrameBursts.
-/
import Derived.Test.YtnkghcbjokmooaaDoorFA
import Derived.Test.YtnkghcbjokmooaaDoorWSumU
namespace Go.Proofs.YtnkghcbjokmooaaDoor.Gr
open Go.RowKit Go.Sort Qm
set_option linter.unusedVariables false

theorem bur_tells {k : Int} {xs : List Int} {f : Nat → BitVec 8} {a c : Nat} (hr : rightS k xs.length = true) (rx : ∀ x ∈ xs, -9223372036854775808 ≤ x ∧ x ≤ 9223372036854775807) (hc : c ≤ 4) (ha : a + c ≤ 5 + 8 * xs.length) :
    (smB f c = true → decE (bur (encS k xs) f a (5 + 8 * xs.length) c) = 3) ∧ (smB f c = false → decE (bur (encS k xs) f a (5 + 8 * xs.length) c) = 0 ∧ decK (bur (encS k xs) f a (5 + 8 * xs.length) c) = k ∧ decN (bur (encS k xs) f a (5 + 8 * xs.length) c) = xs) := by
  have hl : (bytS k xs).length + 4 = 5 + 8 * xs.length := by rw [bytS_len]; omega
  constructor
  · intro h
    have := bur_told (bs := bytS k xs) (a := a) hc (by omega) h
    have e : openE (bur (encS k xs) f a (5 + 8 * xs.length) c) = 3 := by
      unfold openE
      rw [if_neg (by rw [bur_len]; omega)]
      rw [← hl]
      unfold encS
      rw [this]
      rfl
    unfold decE
    rw [e, if_pos (by decide)]
  · intro h
    rw [bur_same (encS_len k xs) h]
    exact dec_enc hr rx
set_option maxRecDepth 20000 in
set_option maxHeartbeats 4000000 in
theorem frameBursts_walk (k : Int) (v : Value) (xs : List Int) (at' : Int) (f : Nat → BitVec 8) (w : World) (hG : Longs w)
    (sx : SeesI w v xs) (lx : xs.length ≤ 140737488351232) (kb : -9223372036854775808 ≤ k ∧ k ≤ 9223372036854775807) (rx : ∀ x ∈ xs, -9223372036854775808 ≤ x ∧ x ≤ 9223372036854775807) :
    Calls Tryd.prog 6 #[.agg #[.int .i64 k, v], .int .i64 at', .agg #[vb (f 0), vb (f 1), vb (f 2), vb (f 3)]] w fun e w' => e = .returned (.bool true) ∧ Below w.heap.size w w' := by
  obtain ⟨ao, acap, rfl⟩ := sx.slice
  obtain ⟨W, hW⟩ : ∃ W, (w.alloc (.cells #[.int .i64 k, .slice ao xs.length acap] 24)).alloc (.cells #[vb (f 0), vb (f 1), vb (f 2), vb (f 3)] 54) = W := ⟨_, rfl⟩
  have hF0 := heap_old (heap_new w (.cells #[.int .i64 k, .slice ao xs.length acap] 24)) (.cells #[vb (f 0), vb (f 1), vb (f 2), vb (f 3)] 54)
  have hx := heap_new (w.alloc (.cells #[.int .i64 k, .slice ao xs.length acap] 24)) (.cells #[vb (f 0), vb (f 1), vb (f 2), vb (f 3)] 54)
  rw [World.size_alloc] at hx
  obtain ⟨p, hp⟩ : ∃ p, w.heap.size = p := ⟨_, rfl⟩
  have bW := ball2' w (.cells #[.int .i64 k, .slice ao xs.length acap] 24) (.cells #[vb (f 0), vb (f 1), vb (f 2), vb (f 3)] 54)
  rw [hW] at hF0 hx bW
  rw [hp] at hF0 hx
  have cS := shown8 W (hG.below bW)
  have hpl := lt_of_block hx
  have HB : Hid (∀ u, Below W.heap.size W u → ∀ j, j < 4 → u.cell? ⟨p + 1, j, none⟩ = some (vb (f j))) := fun u hu j hj => by
    rw [hu.cell (p := ⟨p + 1, j, none⟩) hpl, cell_of_tab hx]
    rcases (by omega : j = 0 ∨ j = 1 ∨ j = 2 ∨ j = 3) with rfl | rfl | rfl | rfl <;> rfl
  have HF : Hid (W.heap[p]? = some (.cells #[.int .i64 k, .slice ao xs.length acap] 24 (0, 0))) := hF0
  have cR := fun (u : World) => rright_any k ao xs.length acap u
  by_cases h1 : 100 < xs.length
  · have d1 : decide ((100 : Int) < (xs.length : Int)) = true := by simp; omega
    generalize xs.length = n at *
    clear hF0 hx sx rx hG
    go_enter Tryd.func6, Tryd.ntmps6
    go_wp2_with (go_at_call 10; refine cS.mono ?_; rintro e w1 ⟨rfl, b1⟩; obtain ⟨c0, c1, _, _⟩ := two_cells (keep b1 HF.out))
    go_ret
    exact ⟨rfl, bt bW b1⟩
  · have d1 : decide ((100 : Int) < (xs.length : Int)) = false := by simp; omega
    by_cases hr : rightS k xs.length = true
    · rw [hr] at cR
      have hb := right_bounds hr
      have cE := fun (u : World) (h : Below W.heap.size W u) => encode_yes k _ xs hr u ((sx.below bW).below h) ((hG.below bW).below h)
      have cD := fun (R : List (BitVec 8)) (hR : R.length = 5 + 8 * xs.length) (u : World) (v : Value) (h : Below W.heap.size W u) (s : SeesB u v R) => decode_any v R (by omega) u s ((hG.below bW).below h)
      have cA := fun (u : World) (va : Value) (h : Below W.heap.size W u) (s : SeesI u va xs) => rsame8_any k va xs k _ xs u (by omega) (by omega) s ((sx.below bW).below h)
      rw [sameS_self] at cA
      have HT : Hid (∀ a c, c ≤ 4 → a + c ≤ 5 + 8 * xs.length → _) := fun a c h1 h2 => bur_tells (f := f) (a := a) (c := c) hr rx h1 h2
      have HZ : Hid (∀ a, bur (encS k xs) f a (5 + 8 * xs.length) 0 = encS k xs) := fun a => bur_zero f a (encS_len k xs)
      have hn18 : xs.length ≤ 18 := hb.2.2.2.1
      generalize encS k xs = Z at cE HT HZ
      generalize hn : xs.length = n at *
      have hL : ∃ L, 5 + 8 * n = L ∧ L ≤ 149 ∧ 0 < L := ⟨_, rfl, by omega, by omega⟩
      obtain ⟨L, hL, hL9, hL0⟩ := hL
      rw [hL] at cE cD HT HZ
      have dL : decide ((L : Int) = 0) = false := by simp; omega
      have dL' : ((L : Int) == 0) = false := by simp; omega
      clear hF0 hx sx hG hb hr h1 lx hn hn18 hL
      by_cases h0 : at' < 0
      · have hA1 : decide ((0 : Int) ≤ at') = false := by simp; omega
        go_enter Tryd.func6, Tryd.ntmps6
        go_wp2_with (first
          | (go_at_call 10; refine cS.mono ?_; rintro e w1 ⟨rfl, b1⟩; obtain ⟨c0, c1, _, _⟩ := two_cells (keep b1 HF.out))
          | (go_at_call 20; refine (cR _).mono ?_; rintro e w2 ⟨rfl, b2⟩; obtain ⟨c2, c3, _, _⟩ := two_cells (keep (bt b1 b2) HF.out))
          | (go_at_call 11; refine (cE _ (bt b1 b2)).mono ?_; rintro e w3 ⟨g, G, rfl, ho, b3⟩))
        have b12 := bt b1 (bt b2 b3)
        have ho2 := own_mono ho (bt b1 b2).size
        have hgW : W.heap.size ≤ g := Nat.le_trans (bt b1 b2).size (ho.lt g rfl).1
        clear ho cE cR cS hp
        have hZ0 := HT.out 0 0 (by omega) (by omega)
        rw [HZ.out] at hZ0
        obtain ⟨hE0, hK0, hN0⟩ := hZ0.2 rfl
        have hRl : Z.length = L := by rw [← HZ.out 0]; exact bur_len _ _ _ _ _
        clear HT HZ hZ0
        go_loopw [11, 10] (fun i s wr => ∃ kk : Nat, kk ≤ 4 ∧ i = .int .i64 kk ∧ s = .bool false ∧ wr.ownsRow W.heap.size 5 1 (.slice (some ⟨g, 0, none⟩) L G) L (Z.map vb) ∧ Below W.heap.size W wr) (fun i _ _ => 4 - (intOf i).toNat)
        case atStart => exact ⟨0, by omega, rfl, rfl, ho2, b12⟩
        case round =>
          clear ho2 b12
          obtain ⟨kk, hk, rfl, rfl, hown, hbl⟩ := hrel
          by_cases hk4 : kk < 4
          · skip
            go_wp2
            go_roundw
            case rel => exact ⟨kk + 1, by omega, by go_num, rfl, hown, hbl⟩
            case measure => simp [intOf]; omega
          · obtain rfl : kk = 4 := by omega
            have hs : SeesB wr (.slice (some ⟨g, 0, none⟩) L G) Z := Row.own hown
            have cD' := cD _ hRl
            rw [hE0, hK0, hN0] at cD'
            go_wp2_with (first
              | (go_at_call 13; refine (cD' _ _ hbl hs).mono ?_; rintro e w4 ⟨x4, rfl, s4, b4⟩; obtain ⟨xo4, xc4, rfl⟩ := s4.slice; have B4 := bt (bt hbl b4) (box_below w4 (.cells #[.int .i64 k, .slice xo4 xs.length xc4] 24)); obtain ⟨y0, y1, _, _⟩ := two_cells (keep B4 HF.out))
              | (go_at_call 16; refine (cA _ _ B4 (s4.below (box_below w4 _))).mono ?_; rintro e w5 ⟨rfl, b5⟩))
            go_ret
            exact ⟨rfl, bt bW (bt B4 b5)⟩
      · by_cases h9 : (L : Int) ≤ at'
        · have hA1 : decide ((0 : Int) ≤ at') = true := by simp; omega
          go_enter Tryd.func6, Tryd.ntmps6
          go_wp2_with (first
            | (go_at_call 10; refine cS.mono ?_; rintro e w1 ⟨rfl, b1⟩; obtain ⟨c0, c1, _, _⟩ := two_cells (keep b1 HF.out))
            | (go_at_call 20; refine (cR _).mono ?_; rintro e w2 ⟨rfl, b2⟩; obtain ⟨c2, c3, _, _⟩ := two_cells (keep (bt b1 b2) HF.out))
            | (go_at_call 11; refine (cE _ (bt b1 b2)).mono ?_; rintro e w3 ⟨g, G, rfl, ho, b3⟩))
          have b12 := bt b1 (bt b2 b3)
          have ho2 := own_mono ho (bt b1 b2).size
          have hgW : W.heap.size ≤ g := Nat.le_trans (bt b1 b2).size (ho.lt g rfl).1
          clear ho cE cR cS hp
          have hZ0 := HT.out 0 0 (by omega) (by omega)
          rw [HZ.out] at hZ0
          obtain ⟨hE0, hK0, hN0⟩ := hZ0.2 rfl
          have hRl : Z.length = L := by rw [← HZ.out 0]; exact bur_len _ _ _ _ _
          clear HT HZ hZ0
          go_loopw [11, 10] (fun i s wr => ∃ kk : Nat, kk ≤ 4 ∧ i = .int .i64 kk ∧ s = .bool false ∧ wr.ownsRow W.heap.size 5 1 (.slice (some ⟨g, 0, none⟩) L G) L (Z.map vb) ∧ Below W.heap.size W wr) (fun i _ _ => 4 - (intOf i).toNat)
          case atStart => exact ⟨0, by omega, rfl, rfl, ho2, b12⟩
          case round =>
            clear ho2 b12
            obtain ⟨kk, hk, rfl, rfl, hown, hbl⟩ := hrel
            by_cases hk4 : kk < 4
            · have hA2 : wrap64 ((L : Int) - (kk : Int)) = (L : Int) - (kk : Int) := by unfold wrap64; omega
              have hA3 : decide (at' < (L : Int) - (kk : Int)) = false := by simp; omega
              go_wp2
              go_roundw
              case rel => exact ⟨kk + 1, by omega, by go_num, rfl, hown, hbl⟩
              case measure => simp [intOf]; omega
            · obtain rfl : kk = 4 := by omega
              have hs : SeesB wr (.slice (some ⟨g, 0, none⟩) L G) Z := Row.own hown
              have cD' := cD _ hRl
              rw [hE0, hK0, hN0] at cD'
              go_wp2_with (first
                | (go_at_call 13; refine (cD' _ _ hbl hs).mono ?_; rintro e w4 ⟨x4, rfl, s4, b4⟩; obtain ⟨xo4, xc4, rfl⟩ := s4.slice; have B4 := bt (bt hbl b4) (box_below w4 (.cells #[.int .i64 k, .slice xo4 xs.length xc4] 24)); obtain ⟨y0, y1, _, _⟩ := two_cells (keep B4 HF.out))
                | (go_at_call 16; refine (cA _ _ B4 (s4.below (box_below w4 _))).mono ?_; rintro e w5 ⟨rfl, b5⟩))
              go_ret
              exact ⟨rfl, bt bW (bt B4 b5)⟩
        · obtain ⟨a, rfl⟩ := Int.eq_ofNat_of_zero_le (by omega : 0 ≤ at')
          have haL : a < L := by omega
          have hA1 : decide ((0 : Int) ≤ (a : Int)) = true := by simp
          go_enter Tryd.func6, Tryd.ntmps6
          go_wp2_with (first
            | (go_at_call 10; refine cS.mono ?_; rintro e w1 ⟨rfl, b1⟩; obtain ⟨c0, c1, _, _⟩ := two_cells (keep b1 HF.out))
            | (go_at_call 20; refine (cR _).mono ?_; rintro e w2 ⟨rfl, b2⟩; obtain ⟨c2, c3, _, _⟩ := two_cells (keep (bt b1 b2) HF.out))
            | (go_at_call 11; refine (cE _ (bt b1 b2)).mono ?_; rintro e w3 ⟨g, G, rfl, ho, b3⟩))
          have b12 := bt b1 (bt b2 b3)
          have ho2 := own_mono ho (bt b1 b2).size
          have hgW : W.heap.size ≤ g := Nat.le_trans (bt b1 b2).size (ho.lt g rfl).1
          clear ho cE cR cS hp
          rw [← HZ.out a] at ho2
          go_loopw [11, 10] (fun i s wr => ∃ kk : Nat, kk ≤ 4 ∧ i = .int .i64 kk ∧ s = .bool (smB f (min kk (L - a))) ∧ wr.ownsRow W.heap.size 5 1 (.slice (some ⟨g, 0, none⟩) L G) L ((bur Z f a L (min kk (L - a))).map vb) ∧ Below W.heap.size W wr) (fun i _ _ => 4 - (intOf i).toNat)
          case atStart => exact ⟨0, by omega, rfl, by rw [Nat.zero_min]; rfl, by rw [Nat.zero_min]; exact ho2, b12⟩
          case round =>
            clear ho2 b12
            obtain ⟨kk, hk, rfl, rfl, hown, hbl⟩ := hrel
            by_cases hk4 : kk < 4
            · have hA2 : wrap64 ((L : Int) - (kk : Int)) = (L : Int) - (kk : Int) := by unfold wrap64; omega
              by_cases hak : a + kk < L
              · have hA3 : decide ((a : Int) < (L : Int) - (kk : Int)) = true := by simp; omega
                have e1 : min kk (L - a) = kk := by omega
                have e2 : Hid (min (kk + 1) (L - a) = kk + 1) := by unfold Hid; omega
                rw [e1] at hown ⊢
                clear e1
                have hkq : (kk : Int) < 4 := by omega
                have hk0 : (0 : Int) ≤ (kk : Int) := by omega
                have hlA : (a : Int) + (kk : Int) < (L : Int) := by omega
                have hzA : (0 : Int) ≤ (a : Int) + (kk : Int) := by omega
                have htA : ((a : Int) + (kk : Int)).toNat = a + kk := by omega
                have hwA : wrap64 ((a : Int) + (kk : Int)) = (a : Int) + (kk : Int) := by unfold wrap64; omega
                have hwB : IntKind.i64.wrap ((a : Int) + (kk : Int)) = (a : Int) + (kk : Int) := by rw [IntKind.wrap_i64]; omega
                have hcell := hown.cellAt (a + kk) (by omega)
                rw [List.getElem?_map, bur_get Z f a L kk hak] at hcell
                have hcell' : wr.cell? ⟨g, a + kk, none⟩ = some (.int .u8 (iv (Z.getD (a + kk) 0#8))) := hcell
                have hf := hown.frozenAt (a + kk)
                have hst := (hown.drew.stored (a + kk) (vb (Z.getD (a + kk) 0#8 ^^^ f kk)))
                rw [← List.map_set, bur_succ] at hst
                have hb2 : Below W.heap.size W (wr.drew.setCell ⟨g, a + kk, none⟩ (vb (Z.getD (a + kk) 0#8 ^^^ f kk))) := hbl.drew.grown hst.2 hbl.drew.size (fun m e => by cases e; exact hgW)
                have hp1 := HB.out wr hbl kk hk4
                have hp2 := HB.out _ hb2 kk hk4
                have x1 := xor_iv8 (Z.getD (a + kk) 0#8) (f kk)
                have HS : Hid (smB f (kk + 1) = (smB f kk || (f kk != 0#8))) := rfl
                clear hcell
                unfold vb at hst hb2 hp1 hp2
                generalize Z.getD (a + kk) 0#8 = x at hcell' hst hb2 hp2 x1
                generalize iv (x ^^^ f kk) = X at hst hb2 hp2 x1
                cases hsm : smB f kk with
                | true =>
                  rw [hsm] at HS
                  clear hp2
                  generalize iv (f kk) = Y at hp1 x1
                  go_wp2
                  go_still_tail 15, (by kernel_rfl)
                  change wpList Tryd.prog _ _ _ _ wr.drew
                  go_wp2
                  go_roundw
                  case rel => exact ⟨kk + 1, by omega, by go_num, by rw [e2.out, HS.out]; rfl, by rw [e2.out]; exact hst.1, hb2⟩
                  case measure => simp [intOf]; omega
                | false =>
                  rw [hsm] at HS
                  by_cases hy : f kk = 0#8
                  · have hy0 : iv (f kk) = 0 := by rw [hy]; decide
                    have HY : Hid ((f kk != 0#8) = false) := by unfold Hid; rw [hy]; rfl
                    rw [hy0] at hp1 hp2 x1
                    clear hy0
                    go_wp2
                    go_still_tail 15, (by kernel_rfl)
                    change wpList Tryd.prog _ _ _ _ wr.drew
                    go_wp2
                    go_roundw
                    case rel => exact ⟨kk + 1, by omega, by go_num, by rw [e2.out, HS.out, HY.out]; rfl, by rw [e2.out]; exact hst.1, hb2⟩
                    case measure => simp [intOf]; omega
                  · have hy0 := iv_zero' hy
                    have HY : Hid ((f kk != 0#8) = true) := by unfold Hid; simpa using hy
                    have hyb : (iv (f kk) == 0) = false := by simpa using hy0
                    clear hy
                    generalize iv (f kk) = Y at hp1 hp2 x1 hy0 hyb
                    go_wp2
                    go_still_tail 15, (by kernel_rfl)
                    change wpList Tryd.prog _ _ _ _ wr.drew
                    go_wp2
                    go_roundw
                    case rel => exact ⟨kk + 1, by omega, by go_num, by rw [e2.out, HS.out, HY.out]; show Value.bool (!(Y == 0)) = _; rw [hyb]; rfl, by rw [e2.out]; exact hst.1, hb2⟩
                    case measure => simp [intOf]; omega
              · have hA3 : decide ((a : Int) < (L : Int) - (kk : Int)) = false := by simp; omega
                have e1 : Hid (min (kk + 1) (L - a) = min kk (L - a)) := by unfold Hid; omega
                generalize min kk (L - a) = c at *
                go_wp2
                go_roundw
                case rel => exact ⟨kk + 1, by omega, by go_num, by rw [e1.out], by rw [e1.out]; exact hown, hbl⟩
                case measure => simp [intOf]; omega
            · obtain rfl : kk = 4 := by omega
              have hc4 : min 4 (L - a) ≤ 4 := by omega
              have hcL : a + min 4 (L - a) ≤ L := by omega
              have hT := HT.out a _ hc4 hcL
              have hRl := bur_len Z f a L (min 4 (L - a))
              generalize min 4 (L - a) = c at *
              have hs : SeesB wr (.slice (some ⟨g, 0, none⟩) L G) (bur Z f a L c) := Row.own hown
              generalize bur Z f a L c = R at hs hT hRl
              clear HT HZ hown hc4 hcL
              cases hsm : smB f c with
              | true =>
                have hE3 := hT.1 hsm
                clear hT
                have cD' := cD _ hRl
                rw [hE3] at cD'
                generalize decN _ = DN at cD'
                generalize decK _ = DK at cD'
                go_wp2_with (go_at_call 13; refine (cD' _ _ hbl hs).mono ?_; rintro e w4 ⟨x4, rfl, s4, b4⟩; obtain ⟨xo4, xc4, rfl⟩ := s4.slice)
                go_ret
                exact ⟨rfl, bt bW (bt (bt hbl b4) (box_below w4 _))⟩
              | false =>
                obtain ⟨hE0, hK0, hN0⟩ := hT.2 hsm
                clear hT
                have cD' := cD _ hRl
                rw [hE0, hK0, hN0] at cD'
                go_wp2_with (first
                  | (go_at_call 13; refine (cD' _ _ hbl hs).mono ?_; rintro e w4 ⟨x4, rfl, s4, b4⟩; obtain ⟨xo4, xc4, rfl⟩ := s4.slice; have B4 := bt (bt hbl b4) (box_below w4 (.cells #[.int .i64 k, .slice xo4 xs.length xc4] 24)); obtain ⟨y0, y1, _, _⟩ := two_cells (keep B4 HF.out))
                  | (go_at_call 16; refine (cA _ _ B4 (s4.below (box_below w4 _))).mono ?_; rintro e w5 ⟨rfl, b5⟩))
                go_ret
                exact ⟨rfl, bt bW (bt B4 b5)⟩
    · have hr' : rightS k xs.length = false := by simpa using hr
      rw [hr'] at cR
      generalize xs.length = n at *
      clear hF0 hx sx rx hG
      go_enter Tryd.func6, Tryd.ntmps6
      go_wp2_with (first
        | (go_at_call 10; refine cS.mono ?_; rintro e w1 ⟨rfl, b1⟩; obtain ⟨c0, c1, _, _⟩ := two_cells (keep b1 HF.out))
        | (go_at_call 20; refine (cR _).mono ?_; rintro e w2 ⟨rfl, b2⟩))
      go_ret
      exact ⟨rfl, bt bW (bt b1 b2)⟩
end Go.Proofs.YtnkghcbjokmooaaDoor.Gr
