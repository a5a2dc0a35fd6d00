/-
  The code's Diff of what may be.
-/
import Derived.Test.YtehlibeedieclaaDD
namespace Go.Proofs.Ytehlibeedieclaa.Gr
open Go.RowKit Go.Sort Dm

set_option maxRecDepth 20000 in
set_option maxHeartbeats 1000000 in
theorem diff_yes (va vb' : Value) (b n : List Int) (w : World) (hl : b.length = n.length) (hN : n.length ≤ 600) (sa : SeesI w va b) (sb : SeesI w vb' n) :
    Calls Try.prog 10 #[va, vb'] w fun e w' => ∃ v', e = .returned (.tuple #[v', .int .i64 0]) ∧ w'.ownsRow w.heap.size 2 1 v' (diffS b n).length ((diffS b n).map vw) ∧ Below w.heap.size w w' := by
  obtain ⟨ao, cap, rfl⟩ := sa.slice
  obtain ⟨bo, bcap, rfl⟩ := sb.slice
  obtain ⟨N, hn⟩ : ∃ N, n.length = N := ⟨_, rfl⟩
  have HN : Hid (b.length = N ∧ n.length = N) := ⟨by rw [hl, hn], hn⟩
  have hD : diffS b n = rowS b n (upS N) N := by unfold diffS rowS; rw [hn]
  have HD : Hid (diffS b n = rowS b n (upS N) N) := hD
  have hZ := rowS_len b n (upS N) N
  rw [hl, hn] at sa ⊢
  rw [hn] at sb hN
  clear hl hn hD
  obtain ⟨U, hU⟩ : ∃ U, upS N = U := ⟨_, rfl⟩
  have hUN : U ≤ 10 := by rw [← hU]; unfold upS; omega
  have hUi : ∀ i, i < N → i / 60 < U := fun i hi => by rw [← hU]; unfold upS; omega
  have cU := fun (u : World) => upTo_any N 60 (by omega) (by omega) (Or.inl rfl) u
  rw [piS_60, hU] at cU
  rw [hU] at HD hZ
  clear hU
  have e1 : ¬ ((600 : Int) < (N : Int)) := by omega
  go_enter Try.func10, Try.ntmps10
  obtain ⟨fz, hfz⟩ : ∃ fz, w.heap.size = fz := ⟨_, rfl⟩
  have HF : Hid (w.heap.size = fz) := hfz
  go_wp2_with (first
    | (go_at_call 18; refine (cU _).mono ?_; rintro e w1 ⟨rfl, b1⟩)
    | (at_make; refine make64 rfl _ _ rfl U rfl rfl (by omega) ?_; intro w2 ho2 b2))
  have hb2 := bt b1 b2
  have ho : w2.ownsRow fz 2 1 (.slice (some ⟨w1.heap.size, 0, none⟩) U U) (rowS b n U 0).length ((rowS b n U 0).map vw) := by
    rw [rowS_zero, List.length_replicate]
    exact own_mono ho2 (by rw [← hfz]; exact b1.size)
  rw [hfz] at hb2
  clear ho2 b1 b2 hfz cU
  go_loopw [6, 23] (fun v i wr => ∃ k : Nat, k ≤ N ∧ i = .int .i64 k ∧ wr.ownsRow fz 2 1 v (rowS b n U k).length ((rowS b n U k).map vw) ∧ Below fz w wr) (fun _ i _ => N - (intOf i).toNat)
  case atStart => exact ⟨0, Nat.zero_le _, rfl, ho, hb2⟩
  case round =>
    clear ho hb2
    obtain ⟨k, hk, rfl, hown, hbl⟩ := hrel
    have hfw : fz ≤ wr.heap.size := by have := hbl.size; have := HF.out; omega
    by_cases hlt : k < N
    · obtain ⟨ad, rfl, la, ca⟩ := sa.at k (by rw [HN.out.1]; exact hlt)
      obtain ⟨bd, rfl, lb, cb⟩ := sb.at k (by rw [HN.out.2]; exact hlt)
      have ca' : wr.cell? (ad.add k) = _ := (hbl.cell (by rw [add_block, ← HF.out]; exact la)).trans ca
      have cb' : wr.cell? (bd.add k) = _ := (hbl.cell (by rw [add_block, ← HF.out]; exact lb)).trans cb
      clear ca cb
      have hkU := hUi k hlt
      have hlen := rowS_len b n U k
      have hlo := otherS_le b n k
      cases hd : dfS b n k
      · have he : n.getD k 0 = b.getD k 0 := by simpa [dfS] using hd
        have e : rowS b n U (k + 1) = rowS b n U k := rowS_no hd
        rw [← e] at hown
        rw [he] at cb'
        have HO : Hid (wr.ownsRow fz 2 1 u6 (rowS b n U (k + 1)).length ((rowS b n U (k + 1)).map vw)) := hown
        generalize b.getD k 0 = x at ca' cb'
        clear he hd e hown hUi hlen
        go_wp2
        go_roundw
        case rel => exact ⟨k + 1, by omega, by go_num, HO.out, hbl⟩
        case measure => simp [intOf]; omega
      · have he : ¬ n.getD k 0 = b.getD k 0 := by simpa [dfS] using hd
        have e := rowS_yes hkU hd
        have hat := rowS_at (b := b) (n := n) hkU
        have hor := cell_or (b := b) (n := n) (i := k)
        have hsh := shl_i64 (k % 60) (by omega)
        generalize (mwS (fun t => dfS b n (60 * (k / 60) + t)) (k % 60) ||| 2 ^ (k % 60) : Nat) = Z at e hor
        generalize mwS (fun t => dfS b n (60 * (k / 60) + t)) (k % 60) = M at hat hor
        have HE : Hid (rowS b n U (k + 1) = (rowS b n U k).set (k / 60) (Z : Int) ++ [n.getD k 0] ∧ (otherS b n k).length ≤ k) := ⟨e.symm, hlo⟩
        obtain ⟨L, hL⟩ : ∃ L, (rowS b n U k).length = L := ⟨_, rfl⟩
        have hLL : Hid ((rowS b n U k).length = L) := hL
        have hkL : k / 60 < L := by omega
        have hL6 : L ≤ 620 := by omega
        have hLU : Hid (L = U + (otherS b n k).length) := by rw [← hL]; exact hlen
        rw [hL] at hown
        obtain ⟨g, c6, rfl⟩ := own_slice hown (by omega)
        have hgf := (hown.lt g rfl).1
        have hcell := hown.cellAt (k / 60) (by omega)
        have hg1 : (rowS b n U k)[k / 60]? = some (M : Int) := by rw [← hat, List.getD_eq_getElem?_getD, List.getElem?_eq_getElem (by omega)]; rfl
        rw [List.getElem?_map, hg1] at hcell
        have hcell' : wr.cell? ⟨g, k / 60, none⟩ = some (.int .i64 M) := hcell
        have hf := hown.frozenAt (k / 60)
        have hst := hown.drew.stored (k / 60) (vw (Z : Int))
        rw [← List.map_set] at hst
        have hb2 : Below fz w (wr.drew.setCell ⟨g, k / 60, none⟩ (vw (Z : Int))) := hbl.drew.grown hst.2 hfw (fun m e => by cases e; exact hgf)
        have q1 : (k : Int).tdiv 60 = ((k / 60 : Nat) : Int) := by rw [Int.tdiv_eq_ediv_of_nonneg (by omega)]; omega
        have q2 : (k : Int).tmod 60 = ((k % 60 : Nat) : Int) := by rw [Int.tmod_eq_emod_of_nonneg (by omega)]; omega
        have hi7 : k % 60 < 60 := by omega
        have q3 : ((k / 60 : Nat) : Int) < (L : Int) := by omega
        clear hcell hg1 hat hlen e hL hd hUi hown sa sb la lb hlo hkU
        generalize n.getD k 0 = y at *
        generalize b.getD k 0 = x at *
        generalize k / 60 = i6 at *
        generalize k % 60 = i7 at *
        have q4 : (y != x) = true := by simpa using he
        have q5 : (0 : Int) ≤ (i6 : Int) := by omega
        have q6 : ((i6 : Int)).toNat = i6 := by omega
        have q7 := wrap_i (i6 : Int) (by omega) (by omega)
        have q8 := wrap_i (i7 : Int) (by omega) (by omega)
        go_wp2
        go_still_tail 10, (by kernel_rfl)
        change wpList Try.prog _ _ _ _ wr.drew
        have hown2 := hst.1
        have hsz := hst.2.size
        clear hst
        go_wp2_with (at_builtin; go_loud (refine app64 rfl _ _ rfl fz _ L _ rfl (hown2.alloc _) (le_alloc (Nat.le_trans hfw hsz) _) _ [y] rfl (one64' _ y _ (by simp)) (by simp; omega) ?_; intro v5 w5 ho5 hg5; have hb5 : Below fz w w5 := (hb2.alloc (Nat.le_trans hfw hsz) _).grown hg5 (le_alloc (Nat.le_trans hfw hsz) _) (fun m e => by cases e; exact hgf)))
        go_roundw
        case rel =>
          refine ⟨k + 1, by omega, by go_num, ?_, hb5⟩
          rw [HE.out.1, List.map_append, List.length_append, List.length_set, hLL.out]
          exact ho5
        case measure => simp [intOf]; omega
    · obtain rfl : k = N := by omega
      rw [← HD.out] at hown
      go_wp2
      go_ret2
      exact ⟨_, rfl, by rw [HF.out]; exact hown, by rw [HF.out]; exact hbl⟩
end Go.Proofs.Ytehlibeedieclaa.Gr
