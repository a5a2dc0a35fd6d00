/-
  A frame as bytes: the code's Encode.
-/
import Derived.Test.YtnkghcbjokmooaaDoorFE
namespace Go.Proofs.YtnkghcbjokmooaaDoor.Gr
open Go.RowKit Go.Sort Qm

theorem kind_byte {k : Int} (h : 1 ≤ k) (h' : k ≤ 8) : iv (BitVec.ofInt 8 k) = k ∧ IntKind.u8.wrap k = k := by
  rw [IntKind.wrap_u8']
  exact ⟨iv8 _ (by omega) (by omega), by omega⟩

set_option maxRecDepth 20000 in
set_option maxHeartbeats 1000000 in
theorem encode_yes (k : Int) (v : Value) (xs : List Int) (hr : rightS k xs.length = true) (w : World) (hs : SeesI w v xs) (hG : Longs w) :
    Calls Tryd.prog 11 #[.agg #[.int .i64 k, v]] w fun e b => ∃ g G, e = .returned (.tuple #[.slice (some ⟨g, 0, none⟩) (5 + 8 * xs.length) G, .int .i64 0]) ∧
      b.ownsRow w.heap.size 5 1 (.slice (some ⟨g, 0, none⟩) (5 + 8 * xs.length) G) (5 + 8 * xs.length) ((encS k xs).map vb) ∧ Below w.heap.size w b := by
  obtain ⟨h1, h8, hn, hn18, hpos⟩ := right_bounds hr
  obtain ⟨ao, cap, rfl⟩ := hs.slice
  have cR := fun o => right_any k ao xs.length cap (w.alloc o) (hG.below (box_below w o))
  rw [hr] at cR
  obtain ⟨kb, kw⟩ := kind_byte h1 h8
  have hseal := fun (u : World) (v : Value) (h : SeesB u v (bytS k xs)) => seal_any v (bytS k xs) (by rw [bytS_len]; omega) u h
  rw [bytS_len] at hseal
  have hone := fun u z h => one8' u (BitVec.ofInt 8 k) z h
  rw [kb] at hone
  have HB : Hid (bytS k xs = BitVec.ofInt 8 k :: layS xs ∧ encS k xs = sealS (bytS k xs)) := ⟨rfl, rfl⟩
  generalize encS k xs = Z at HB ⊢
  generalize bytS k xs = Y at HB hseal
  generalize sealS Y = X at hseal HB
  obtain ⟨bK, hbK⟩ : ∃ b, BitVec.ofInt 8 k = b := ⟨_, rfl⟩
  rw [hbK] at HB hone
  obtain ⟨n, hn'⟩ : ∃ n, xs.length = n := ⟨_, rfl⟩
  have HN : Hid (xs.length = n) := hn'
  rw [hn'] at hn18 hpos cR hseal ⊢
  have HS : Hid (SeesI w (.slice ao n cap) xs) := by rw [← hn']; exact hs
  clear hr kb hbK hn hn' hs hG
  have hw8 : wrap64 (8 * (n : Int)) = 8 * (n : Int) := by unfold wrap64; omega
  have hw9 : wrap64 (1 + 8 * (n : Int)) = 1 + 8 * (n : Int) := by unfold wrap64; omega
  go_enter Tryd.func11, Tryd.ntmps11
  go_upto_region 6 with (first
    | (go_at_call 19; refine (cR _).mono ?_; rintro e w1 ⟨rfl, b1⟩; obtain ⟨c0, c1⟩ := frame_cells (keep b1 (heap_new w _)))
    | (refine make80 rfl _ _ rfl (1 + 8 * (n : Int)) (1 + 8 * n) rfl rfl (by omega) (by omega) ?_; intro w2 ho2 b2; have d0 := fun o => (frame_cells (heap_old (keep b2 (keep b1 (heap_new w _))) o)).1)
    | (at_builtin; go_must (refine app8 rfl _ _ rfl w1.heap.size _ 0 [] rfl ((ho2.alloc _).alloc _) (le_alloc (le_alloc b2.size _) _) _ [bK] rfl (hone _ _ (by simp)) (by simp) ?_); intro v3 w3 ho3 hg3; obtain ⟨g3, c3, rfl⟩ := ownsRow_succ ho3; obtain ⟨q1, q2, q3, q4, q5⟩ := (Boxed.new w2 25 _).appended (by decide) (ho2.alloc _) (le_alloc b2.size _) b2.size ho3 hg3; have hc1 := q1.cell; have hf1 := q1.frozen))
  have bA : Below w.heap.size w w2 := bt (bt (box_below w _) b1) b2
  have hw1 : w.heap.size ≤ w1.heap.size := (bt (box_below w _) b1).size
  have q6 := (bt bA (box_below w2 _)).trans (q5.mono hw1)
  have hfr : w2.heap[w.heap.size]? = _ := keep b2 (keep b1 (heap_new w _))
  have hlt2 := lt_of_block hfr
  obtain ⟨g, hg⟩ : ∃ g, w1.heap.size = g := ⟨_, rfl⟩
  obtain ⟨B, hB⟩ : ∃ B, w2.heap.size = B := ⟨_, rfl⟩
  obtain ⟨fz, hfz⟩ : ∃ fz, w.heap.size = fz := ⟨_, rfl⟩
  have hgB : g ≤ B := by rw [← hg, ← hB]; exact b2.size
  have hfg : fz < g := by rw [← hg, ← hfz]; exact lt_of_block (keep b1 (heap_new w _))
  have hf6 : (w3.setCell ⟨w2.heap.size, 0, none⟩ (.slice (some ⟨g3, 0, none⟩) (0 + 1) c3)).heap[w.heap.size]? = some (.cells #[.int .i64 k, .slice ao n cap] 24 (0, 0)) :=
    (q5.block _ (by rw [hg, hfz]; exact hfg)).trans (heap_old hfr _)
  rw [hB] at q2 q3 q5 q6 hf6 ⊢
  rw [hg] at q3 q5
  rw [hfz] at q6 hf6
  simp only [Nat.zero_add] at q2 q3 q5 q6 hf6
  have q3' : Hid (_) := q3
  obtain ⟨W, hW⟩ : ∃ W, w3.setCell ⟨B, 0, none⟩ (.slice (some ⟨g3, 0, none⟩) 1 c3) = W := ⟨_, rfl⟩
  rw [hW] at q2 q3' q6 hf6 ⊢
  have hgW : g ≤ W.heap.size := by have := lt_of_block (show W.heap[B]? = _ from q2); omega
  have own0 : W.ownsRow g 5 1 (.slice (some ⟨g3, 0, none⟩) 1 c3) (1 + 8 * 0) ((bK :: layS (xs.take 0)).map vb) := q3'.out
  obtain ⟨f0, f1⟩ := frame_cells hf6
  rw [hfz]
  have HF : Hid (w.heap.size = fz) := hfz
  clear q1 q3 q3' q4 q5 hc1 hf1 hg3 ho3 ho2 d0 c0 c1 cR hone hfr hlt2 hw1 bA hB hg hW b1 b2 hfz
  have hgo := fun (k : Nat) (hk : k < n) => (HS.out).at k (by rw [HN.out]; exact hk)
  go_wp2
  go_loopw [27] (fun i wr => ∃ j : Nat, j ≤ n ∧ i = .int .i64 j ∧ ∃ v', Boxed wr B 25 v' ∧ wr.ownsRow g 5 1 v' (1 + 8 * j) ((bK :: layS (xs.take j)).map vb) ∧ Below fz w wr) (fun i _ => n - (intOf i).toNat)
  case atStart => exact ⟨0, by omega, rfl, _, q2, own0, q6⟩
  case round =>
    clear q2 own0 q6 f0 f1 hgW
    obtain ⟨j, hj, rfl, v', hBx, hown, hbl⟩ := hrel
    have hgr : g ≤ wr.heap.size := by have := hBx.lt; omega
    by_cases hlt : j < n
    · obtain ⟨ad, hao, la, ca⟩ := hgo j hlt
      cases hao
      have ca' : wr.cell? (ad.add j) = _ := (hbl.cell (by rw [add_block, ← HF.out]; exact la)).trans ca
      clear ca hgo
      have HX : Hid (layS (xs.take (j + 1)) = layS (xs.take j) ++ be8 (uo (xs.getD j 0))) := by
        unfold Hid
        rw [List.take_add_one, List.getD_eq_getElem?_getD, List.getElem?_eq_getElem (by rw [HN.out]; exact hlt)]
        exact layS_snoc _ _
      generalize xs.getD j 0 = x at ca' HX
      go_wp2_with (go_at_call 27; go_must (refine (lay1_any x B g (1 + 8 * j) _ v' wr hBx hown hgr hgB (by omega)).mono ?_); rintro e w5 ⟨⟨r, rfl⟩, v5, q1, q2, q3⟩)
      go_roundw
      case rel => exact ⟨j + 1, by omega, by go_num, v5, q1, by rw [HX.out, ← List.cons_append, List.map_append]; exact q2, hbl.trans (q3.mono (by omega))⟩
      case measure => simp [intOf]; omega
    · obtain rfl : j = n := by omega
      rw [← HN.out, List.take_length, ← HB.out.1] at hown
      rw [HN.out] at hown
      have hc := hBx.cell
      have hsee := Row.own hown
      go_wp2_with (go_at_call 28; refine (hseal _ _ hsee).mono ?_; rintro e w6 ⟨g6, G6, rfl, ho6, b6⟩)
      go_ret2
      have e5 : 1 + 8 * j + 4 = 5 + 8 * j := by omega
      rw [e5] at ho6
      refine ⟨g6, G6, ?_, ?_, ?_⟩
      · rw [← e5]; rfl
      · rw [HB.out.2, HF.out]; exact own_mono ho6 (by omega)
      · rw [HF.out]; exact hbl.trans (b6.mono (by omega))
set_option maxRecDepth 20000 in
set_option maxHeartbeats 1000000 in
theorem encode_no (k : Int) (ao : Option Addr) (n cap : Nat) (hr : rightS k n = false) (w : World) (hG : Longs w) :
    Calls Tryd.prog 11 #[.agg #[.int .i64 k, .slice ao n cap]] w fun e b => e = .returned (.tuple #[.slice none 0 0, .int .i64 1]) ∧ Below w.heap.size w b := by
  have cR := fun o => right_any k ao n cap (w.alloc o) (hG.below (box_below w o))
  rw [hr] at cR
  clear hr hG
  go_enter Tryd.func11, Tryd.ntmps11
  go_wp2_with (go_at_call 19; refine (cR _).mono ?_; rintro e w1 ⟨rfl, b1⟩)
  go_ret2
  exact ⟨rfl, bt (box_below w _) b1⟩
end Go.Proofs.YtnkghcbjokmooaaDoor.Gr
