/-
  A frame as bytes: the document's Encode.
-/
import Derived.Test.YtnkghcbjokmooaaDoorFE2
namespace Go.Proofs.YtnkghcbjokmooaaDoor.Gr
open Go.RowKit Go.Sort Qm

set_option maxRecDepth 20000 in
set_option maxHeartbeats 1000000 in
theorem rencode_no (k : Int) (ao : Option Addr) (n cap : Nat) (hr : rightS k n = false) (w : World) :
    Calls Tryd.prog 12 #[.agg #[.int .i64 k, .slice ao n cap]] w fun e b => e = .returned (.tuple #[.slice none 0 0, .int .i64 1]) ∧ Below w.heap.size w b := by
  have cR := fun o => rright_any k ao n cap (w.alloc o)
  rw [hr] at cR
  clear hr
  go_enter Tryd.func12, Tryd.ntmps12
  go_wp2_with (go_at_call 20; refine (cR _).mono ?_; rintro e w1 ⟨rfl, b1⟩)
  go_ret2
  exact ⟨rfl, bt (box_below w _) b1⟩

/-- what a byte's place divides by -/
def dd (m : Nat) : Nat := 72057594037927936 / 256 ^ m
theorem dd_eq {m : Nat} (h : m < 8) : dd m = 256 ^ (7 - m) := by
  unfold dd
  rcases (by omega : m = 0 ∨ m = 1 ∨ m = 2 ∨ m = 3 ∨ m = 4 ∨ m = 5 ∨ m = 6 ∨ m = 7) with rfl | rfl | rfl | rfl | rfl | rfl | rfl | rfl <;> rfl
theorem dd_facts (x : Int) {m : Nat} (h : m < 8) : ¬ (dd m : Int) = 0 ∧ (IntKind.u64.wrap x).tdiv (dd m : Int) % 18446744073709551616 = (uo x : Int) / (dd m : Int) ∧ ((uo x : Int) / (dd m : Int)).tmod 256 = iv (dig (uo x) m) ∧ (dd m : Int).tdiv 256 % 18446744073709551616 = (dd (m + 1) : Int) := by
  have e := dd_eq h
  have hpos : 0 < dd m := by rw [e]; exact Nat.pow_pos (by decide)
  have hle : dd m ≤ 72057594037927936 := Nat.div_le_self _ _
  have hu := uo_lt x
  have hw : IntKind.u64.wrap x = (uo x : Int) := by rw [wrap_u64', uo_cast]
  rw [hw]
  have h1 : (uo x / dd m : Nat) ≤ uo x := Nat.div_le_self _ _
  have h2 : ((uo x / dd m : Nat) : Int) = (uo x : Int) / (dd m : Int) := Int.natCast_ediv _ _
  have h3 : (0 : Int) ≤ (uo x : Int) / (dd m : Int) := Int.ediv_nonneg (by omega) (by omega)
  have h4 : (uo x : Int) / (dd m : Int) ≤ uo x := by rw [← h2]; exact Int.ofNat_le.2 h1
  refine ⟨by omega, ?_, ?_, ?_⟩
  · rw [Int.tdiv_eq_ediv_of_nonneg (by omega)]
    omega
  · rw [Int.tmod_eq_emod_of_nonneg h3, ← h2]
    unfold iv
    rw [dig_nat, e]
    simp only [Int.natCast_emod]
    rfl
  · rw [Int.tdiv_eq_ediv_of_nonneg (by omega)]
    have h2 : dd (m + 1) = dd m / 256 := by unfold dd; rw [Nat.pow_succ, Nat.div_div_eq_div_mul]
    rw [h2]
    omega

set_option maxRecDepth 20000 in
set_option maxHeartbeats 1000000 in
theorem rencode_yes (k : Int) (v : Value) (xs : List Int) (hr : rightS k xs.length = true) (w : World) (hs : SeesI w v xs) :
    Calls Tryd.prog 12 #[.agg #[.int .i64 k, v]] w fun e b => ∃ v', e = .returned (.tuple #[v', .int .i64 0]) ∧ SeesB b v' (encS k xs) ∧ Below w.heap.size w b := by
  obtain ⟨h1, h8, hn, hn18, hpos⟩ := right_bounds hr
  obtain ⟨ao, cap, rfl⟩ := hs.slice
  have cR := fun o => rright_any k ao xs.length cap (w.alloc o)
  rw [hr] at cR
  obtain ⟨kb, kw⟩ := kind_byte h1 h8
  have hseal := fun (u : World) (v : Value) (h : SeesB u v (bytS k xs)) => rseal_any v (bytS k xs) (by rw [bytS_len]; omega) u h
  have HB : Hid (bytS k xs = BitVec.ofInt 8 k :: layS xs ∧ encS k xs = sealS (bytS k xs)) := ⟨rfl, rfl⟩
  generalize encS k xs = Z at HB ⊢
  generalize bytS k xs = Y at HB hseal
  generalize sealS Y = X at hseal HB
  obtain ⟨bK, hbK⟩ : ∃ b, BitVec.ofInt 8 k = b := ⟨_, rfl⟩
  rw [hbK] at HB kb
  obtain ⟨n, hn'⟩ : ∃ n, xs.length = n := ⟨_, rfl⟩
  have HN : Hid (xs.length = n) := hn'
  rw [hn'] at hn18 hpos cR ⊢
  have HS : Hid (SeesI w (.slice ao n cap) xs) := by rw [← hn']; exact hs
  have HK : Hid (iv bK = k) := kb
  clear hr kb hbK hn hn' hs
  go_enter Tryd.func12, Tryd.ntmps12
  go_wp2_with (go_at_call 20; refine (cR _).mono ?_; rintro e w1 ⟨rfl, b1⟩; obtain ⟨c0, c1⟩ := frame_cells (keep b1 (heap_new w _)))
  have hfr : w1.heap[w.heap.size]? = _ := keep b1 (heap_new w _)
  have bA := bt (box_below w _) b1
  obtain ⟨fz, hfz⟩ : ∃ fz, w.heap.size = fz := ⟨_, rfl⟩
  have HF : Hid (w.heap.size = fz) := hfz
  have own0 : (w1.alloc (.cells #[.int .u8 k] 5)).ownsRow w1.heap.size 5 1 (.slice (some ⟨w1.heap.size, 0, none⟩) 1 1) (1 + 8 * 0) ((bK :: layS (xs.take 0)).map vb) := by
    show World.ownsRow _ _ _ _ _ 1 [Value.int .u8 (iv bK)]
    rw [HK.out]
    exact ⟨rfl, .inr ⟨_, 1, _, rfl, Nat.le_refl _, heap_new w1 _, Nat.le_refl _, by decide, rfl, rfl⟩⟩
  have b6 := bt bA (box_below w1 (.cells #[.int .u8 k] 5))
  have hf6 := heap_old hfr (.cells #[.int .u8 k] 5)
  obtain ⟨g, hg⟩ : ∃ g, w1.heap.size = g := ⟨_, rfl⟩
  have hfg : fz < g := by rw [← hg, ← hfz]; exact lt_of_block hfr
  rw [hg] at own0 ⊢
  rw [hfz] at hf6 b6 ⊢
  obtain ⟨W, hW⟩ : ∃ W, w1.alloc (.cells #[.int .u8 k] 5) = W := ⟨_, rfl⟩
  have hgW : g ≤ W.heap.size := by rw [← hW, ← hg]; exact (box_below w1 _).size
  rw [hW] at own0 b6 hf6 ⊢
  have HFr : Hid (∀ u, Below g W u → u.cell? ⟨fz, 1, none⟩ = some (.slice ao n cap)) := fun u h => (frame_cells ((h.block fz hfg).trans hf6)).2
  have hgo := fun (k : Nat) (hk : k < n) => (HS.out).at k (by rw [HN.out]; exact hk)
  clear hW hg hfr bA b1 c0 c1 cR hf6 hfz
  go_loopw [5, 6] (fun v i wr => ∃ j : Nat, j ≤ n ∧ i = .int .i64 j ∧ wr.ownsRow g 5 1 v (1 + 8 * j) ((bK :: layS (xs.take j)).map vb) ∧ Below g W wr) (fun _ i _ => n - (intOf i).toNat)
  case atStart => exact ⟨0, by omega, rfl, own0, Below.refl _ _⟩
  case round =>
    clear own0
    obtain ⟨j, hj, rfl, hown, hbl⟩ := hrel
    have hc1 := HFr.out wr hbl
    by_cases hlt : j < n
    · obtain ⟨ad, hao, la, ca⟩ := hgo j hlt
      cases hao
      have ca' : wr.cell? (ad.add j) = _ := ((b6.trans (hbl.mono (by omega))).cell (by rw [add_block, ← HF.out]; exact la)).trans ca
      clear ca hgo
      have HX : Hid (layS (xs.take (j + 1)) = layS (xs.take j) ++ be8 (uo (xs.getD j 0))) := by
        unfold Hid
        rw [List.take_add_one, List.getD_eq_getElem?_getD, List.getElem?_eq_getElem (by rw [HN.out]; exact hlt)]
        exact layS_snoc _ _
      generalize xs.getD j 0 = x at ca' HX
      have HD := fun (m : Nat) (h : m < 8) => dd_facts x h
      have e8 : some8 x 8 = be8 (uo x) := rfl
      go_wp2
      generalize wr = V at *
      have own1 : V.ownsRow g 5 1 u5 (1 + 8 * j + 0) ((bK :: layS (xs.take j)).map vb ++ (some8 x 0).map vb) := by simpa [some8] using hown
      clear hown hc1 ca'
      go_loopw [5, 8, 9] (fun v d i wr => ∃ m : Nat, m ≤ 8 ∧ i = .int .i64 m ∧ d = .int .u64 (dd m) ∧ wr.ownsRow g 5 1 v (1 + 8 * j + m) ((bK :: layS (xs.take j)).map vb ++ (some8 x m).map vb) ∧ Below g V wr) (fun _ _ i _ => 8 - (intOf i).toNat)
      case atStart => exact ⟨0, by omega, rfl, rfl, own1, Below.refl _ _⟩
      case round =>
        clear own1
        obtain ⟨m, hm, rfl, rfl, hown, hbi⟩ := hrel
        have hgr : g ≤ wr.heap.size := Nat.le_trans (Nat.le_trans hgW hbl.size) hbi.size
        by_cases hl8 : m < 8
        · obtain ⟨f1, f2, f3, f4⟩ := HD m hl8
          have HY : Hid (some8 x (m + 1) = some8 x m ++ [dig (uo x) m]) := some8_succ x m
          generalize dig (uo x) m = D at f3 HY
          have f5 : iv D % 256 = iv D := by have := iv_lt8 D; omega
          have f6 : IntKind.u64.wrap ((IntKind.u64.wrap x).tdiv (dd m : Int)) = (uo x : Int) / (dd m : Int) := by rw [wrap_u64']; exact f2
          have f7 : IntKind.u64.wrap ((dd m : Int).tdiv 256) = (dd (m + 1) : Int) := by rw [wrap_u64']; exact f4
          have hone := fun u z h => one8' u D z h
          generalize iv D = di at f3 f5 hone
          obtain ⟨dn, hdn⟩ : ∃ dn, dd (m + 1) = dn := ⟨_, rfl⟩
          have HZ : Hid (dd (m + 1) = dn) := hdn
          rw [hdn] at f4 f7
          generalize dd m = dm at f1 f2 f3 f4 f6 f7
          clear hdn
          clear HD e8 hseal
          have own2 := fun o => hown.alloc o
          clear hown
          go_wp2_with (at_builtin; refine app8 rfl _ _ rfl g _ (1 + 8 * j + m) _ rfl (own2 _) (le_alloc hgr _) _ [D] rfl (hone _ _ rfl) (by simp; omega) ?_; intro v5 w5 hown5 hg5; have hb5 : Below g V w5 := (hbi.alloc hgr _).grown hg5 (le_alloc hgr _) (fun m e => ((own2 (.cells #[.int .u8 di] 5)).lt m e).1))
          go_roundw
          case rel => exact ⟨m + 1, by omega, by go_num, by rw [HZ.out, ← f7, Int.tdiv_eq_ediv_of_nonneg (by omega)], by rw [HY.out, List.map_append, ← List.append_assoc]; exact hown5, hb5⟩
          case measure => simp [intOf]; omega
        · obtain rfl : m = 8 := by omega
          rw [e8, ← List.map_append, List.cons_append, ← HX.out] at hown
          go_wp2
          go_roundw
          case rel => exact ⟨j + 1, by omega, by go_num, hown, hbl.trans hbi⟩
          case measure => simp [intOf]; omega
    · obtain rfl : j = n := by omega
      rw [← HN.out, List.take_length, ← HB.out.1] at hown
      rw [HN.out] at hown
      have hsee := Row.own hown
      go_wp2_with (go_at_call 29; refine (hseal _ _ hsee).mono ?_; rintro e w6 ⟨v6, rfl, s6, b6'⟩)
      go_ret2
      refine ⟨v6, rfl, ?_, ?_⟩
      · rw [HB.out.2]; exact s6
      · rw [HF.out]; exact (b6.trans (hbl.mono (by omega))).trans (b6'.mono (by have := hbl.size; omega))
end Go.Proofs.YtnkghcbjokmooaaDoor.Gr
