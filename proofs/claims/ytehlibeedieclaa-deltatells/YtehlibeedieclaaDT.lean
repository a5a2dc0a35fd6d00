/-
  The code's told.
-/
import Derived.Test.YtehlibeedieclaaDC
namespace Go.Proofs.Ytehlibeedieclaa.Gr
open Go.RowKit Go.Sort Dm
set_option linter.unusedVariables false

/-- the bit of a place, of a mask -/
def bitM (ms : List Int) (i : Nat) : Bool := bitS (ms.getD (i / 60) 0) (i % 60)
theorem SeesI.cut3 {w : World} {ao : Option Addr} {n cap : Nat} {xs : List Int} (h : SeesI w (.slice ao n cap) xs) {m : Nat} (hm : m ≤ xs.length) : SeesI w (.slice ao m m) (xs.take m) := by
  have h1 := h.take hm
  obtain ⟨ao', cap', e, hc, hk⟩ := h1
  injection e with e1 e2 e3
  subst e1
  refine ⟨ao, m, by rw [← e2], ⟨by rw [← e2]; exact Nat.le_refl _, fun e0 => ?_⟩, hk⟩
  subst e0
  have := (Row.of_none h).1
  have := h.le.2
  omega
theorem SeesI.seg {w : World} {ao : Option Addr} {n cap : Nat} {xs : List Int} (h : SeesI w (.slice ao n cap) xs) {lo hi : Nat} (h1 : lo ≤ hi) (h2 : hi ≤ xs.length) : SeesI w (.slice (if hi = lo then ao else ao.map (·.add lo)) (hi - lo) (hi - lo)) ((xs.drop lo).take (hi - lo)) := by
  have hc := h.le.1
  by_cases e : hi = lo
  · subst e
    rw [if_pos rfl, Nat.sub_self, List.take_zero]
    exact ⟨ao, 0, rfl, ⟨Nat.le_refl _, fun _ => rfl⟩, fun k u hu => by simp at hu⟩
  · have hd := h.drop (k := lo) (by omega)
    rw [if_neg (by omega)] at hd
    rw [if_neg e]
    exact hd.cut3 (m := hi - lo) (by rw [List.length_drop]; omega)
theorem add_one (a : Addr) : a.add 1 = ⟨a.block, a.off + 1, none⟩ := by unfold Addr.add; simp
theorem add_zero (a : Addr) : a.add 0 = a := by unfold Addr.add; simp
theorem shr_bit (x : Int) (k : Nat) (hk : k < 60) : x / 2 ^ min ((k : Int)).toNat 64 = x / 2 ^ k := by
  have e : min ((k : Int)).toNat 64 = k := by omega
  rw [e]
theorem sees_src {w : World} {ao : Option Addr} {n cap : Nat} {xs : List Int} (h : SeesI w (.slice ao n cap) xs) (hp : 0 < (xs.map vw).length) : ∃ ad, ao = some ad ∧ ∀ j v, (xs.map vw)[j]? = some v → w.cell? (ad.add j) = some v := by
  obtain ⟨ad, e, _, _⟩ := Row.at h (k := 0) (List.getElem?_eq_getElem hp)
  subst e
  exact ⟨ad, rfl, seesI_cells h⟩

set_option maxRecDepth 20000 in
set_option maxHeartbeats 2000000 in
theorem told_any (va vm vq : Value) (base ms ws : List Int) (w : World) (hN : base.length ≤ 600) (hM : upS base.length ≤ ms.length) (hM2 : ms.length ≤ 100) (hW : ws.length ≤ 100000000000000) (sa : SeesI w va base) (sm : SeesI w vm ms) (sq : SeesI w vq ws) :
    Calls Try.prog 19 #[va, vm, vq] w fun e w' => ∃ v', e = .returned v' ∧ w'.ownsRow w.heap.size 2 1 v' base.length ((toldS (bitM ms) base ws base.length).map vw) ∧ Below w.heap.size w w' := by
  obtain ⟨ao, cap, rfl⟩ := sa.slice
  obtain ⟨mo, mcap, rfl⟩ := sm.slice
  obtain ⟨N, hn⟩ : ∃ N, base.length = N := ⟨_, rfl⟩
  obtain ⟨M, hm⟩ : ∃ M, ms.length = M := ⟨_, rfl⟩
  obtain ⟨W, hw⟩ : ∃ W, ws.length = W := ⟨_, rfl⟩
  have HN : Hid (base.length = N ∧ ms.length = M ∧ ws.length = W) := ⟨hn, hm, hw⟩
  have hZ : (toldS (bitM ms) base ws 0) = base := toldS_zero _ _ _
  rw [hn] at hN sa hM ⊢
  rw [hm] at hM hM2 sm ⊢
  rw [hw] at hW
  have hUi : ∀ i, i < N → i / 60 < M := fun i hi => by unfold upS at hM; omega
  clear hn hm hw hM
  obtain ⟨fz, hfz⟩ : ∃ fz, w.heap.size = fz := ⟨_, rfl⟩
  have HF : Hid (w.heap.size = fz) := hfz
  go_enter Try.func19, Try.ntmps19
  go_wp2_with (first
    | (at_make; refine make64 rfl _ _ rfl N rfl rfl (by omega) ?_; intro w2 ho2 b2; rw [hfz] at ho2)
    | (have _ := b2; (refine wpList_copyO rfl _ _ _ _ rfl 2 under22 (by kernel_rfl) _ _ _ _ _ _ rfl rfl ho2 0 (base.map vw) (by simp [HN.out.1]) (fun hp => ⟨rfl, sees_src (sa.below b2) hp⟩) (by simp [HN.out.1]) (ws_one base) ?_); intro w3 ho3 g3))
  have e3 : splice ((List.replicate N 0).map vw) 0 (base.map vw) = (toldS (bitM ms) base ws 0).map vw := by rw [hZ]; exact splice_all _ _ (by simp [HN.out.1])
  rw [e3] at ho3
  have hb3 : Below fz w w3 := (by rw [← hfz]; exact b2.grown g3 b2.size (fun m e => by cases e; exact Nat.le_of_eq hfz))
  clear ho2 b2 g3 hZ e3
  have sq0 : SeesI w vq (ws.drop (usedS (bitM ms) W 0)) := sq
  clear sq
  go_loopw [2, 17] (fun q i wr => ∃ k : Nat, k ≤ N ∧ i = .int .i64 k ∧ SeesI w q (ws.drop (usedS (bitM ms) W k)) ∧ wr.ownsRow fz 2 1 (.slice (some ⟨fz, 0, none⟩) N N) N ((toldS (bitM ms) base ws k).map vw) ∧ Below fz w wr) (fun _ i _ => N - (intOf i).toNat)
  case atStart => exact ⟨0, Nat.zero_le _, rfl, sq0, ho3, hb3⟩
  case round =>
    clear sq0 ho3 hb3
    obtain ⟨k, hk, rfl, sq, hown, hbl⟩ := hrel
    have hfw : fz ≤ wr.heap.size := by have := hbl.size; omega
    by_cases hlt : k < N
    · have hus := usedS_le (bitM ms) W k
      obtain ⟨qo, qcap, rfl⟩ := sq.slice
      have hql : (ws.drop (usedS (bitM ms) W k)).length = W - usedS (bitM ms) W k := by rw [List.length_drop, HN.out.2.2]
      rw [hql] at sq ⊢
      have q1 : (k : Int).tdiv 60 = ((k / 60 : Nat) : Int) := by rw [Int.tdiv_eq_ediv_of_nonneg (by omega)]; omega
      have q2 : (k : Int).tmod 60 = ((k % 60 : Nat) : Int) := by rw [Int.tmod_eq_emod_of_nonneg (by omega)]; omega
      have hb : bitM ms k = bitS (ms.getD (k / 60) 0) (k % 60) := rfl
      by_cases hu : usedS (bitM ms) W k < W
      · have hkM := hUi k hlt
        obtain ⟨md, rfl, lm, cm⟩ := sm.at (k / 60) (by rw [HN.out.2.1]; exact hkM)
        have cm' : wr.cell? (md.add (k / 60)) = some (.int .i64 (ms.getD (k / 60) 0)) := (hbl.cell (by rw [add_block, ← hfz]; exact lm)).trans cm
        clear cm lm
        have q3 : ((k / 60 : Nat) : Int) < (M : Int) := by omega
        have q5 : (0 : Int) ≤ ((k / 60 : Nat) : Int) := by omega
        have q6 : (((k / 60 : Nat) : Int)).toNat = k / 60 := by omega
        have q7 := wrap_i ((k / 60 : Nat) : Int) (by omega) (by omega)
        have q8 := wrap_i ((k % 60 : Nat) : Int) (by omega) (by omega)
        have hk60 : k % 60 < 60 := by omega
        have hV : 0 < W - usedS (bitM ms) W k := by omega
        cases hd : bitM ms k
        · have e0 : (decide (usedS (bitM ms) ws.length k < ws.length) && bitM ms k) = false := by rw [hd, Bool.and_false]
          obtain ⟨t1, t2⟩ := toldS_no (base := base) e0
          rw [HN.out.2.2] at t2
          have HT : Hid (SeesI w (.slice qo (W - usedS (bitM ms) W k) qcap) (ws.drop (usedS (bitM ms) W (k + 1))) ∧ wr.ownsRow fz 2 1 (.slice (some ⟨fz, 0, none⟩) N N) N ((toldS (bitM ms) base ws (k + 1)).map vw)) := by
            unfold Hid; rw [t1, t2]; exact ⟨sq, hown⟩
          rw [hd] at hb
          have hx : ¬ (ms.getD (k / 60) 0 / 2 ^ (k % 60) % 2 = 1) := by intro e; rw [bitS, decide_eq_true e] at hb; cases hb
          have hx1 := and1_i64 (ms.getD (k / 60) 0 / 2 ^ (k % 60))
          generalize W - usedS (bitM ms) W k = V at *
          generalize ms.getD (k / 60) 0 = x at *
          clear e0 t1 t2 sq hown hd hb
          generalize k / 60 = i6 at *
          generalize k % 60 = i7 at *
          have hx2 : x / 2 ^ min ((i7 : Int)).toNat 64 = x / 2 ^ i7 := shr_bit x i7 hk60
          have hV2 : decide ((0 : Int) < (V : Int)) = true := by simp; omega
          --[a
          go_wp2
          go_roundw
          case rel => exact ⟨k + 1, by omega, by go_num, HT.out.1, HT.out.2, hbl⟩
          case measure => simp [intOf]; omega
          --]a
        · have e0 : (decide (usedS (bitM ms) ws.length k < ws.length) && bitM ms k) = true := by rw [hd, Bool.and_true, HN.out.2.2]; exact decide_eq_true hu
          obtain ⟨t1, t2⟩ := toldS_yes (base := base) e0
          rw [HN.out.2.2] at t1 t2
          have hs1 := sq.drop (k := 1) (by omega)
          rw [List.drop_drop] at hs1
          obtain ⟨qd, rfl, lq, cq⟩ := sq.at 0 (by omega)
          have hy : (ws.drop (usedS (bitM ms) W k)).getD 0 0 = ws.getD (usedS (bitM ms) W k) 0 := by
            rw [List.getD_eq_getElem?_getD, List.getD_eq_getElem?_getD, List.getElem?_drop, Nat.add_zero]
          rw [hy] at cq
          rw [add_zero] at cq
          have cq' : wr.cell? qd = some (.int .i64 (ws.getD (usedS (bitM ms) W k) 0)) := (hbl.cell (by rw [← hfz]; exact lq)).trans cq
          have hst := hown.drew.stored k (vw (ws.getD (usedS (bitM ms) W k) 0))
          rw [← List.map_set, t1] at hst
          have hcell := hown.cellAt k (by omega)
          have hf := hown.frozenAt k
          obtain ⟨old, hold⟩ : ∃ u, ((toldS (bitM ms) base ws k).map vw)[k]? = some u := ⟨_, List.getElem?_eq_getElem (by rw [List.length_map, toldS_len, HN.out.1]; exact hlt)⟩
          rw [hold] at hcell
          have hb2 := hbl.drew.grown hst.2 hfw (fun m e => by cases e; exact Nat.le_refl _)
          have HT : Hid (SeesI w (.slice (if qcap = 1 then some qd else some ⟨qd.block, qd.off + 1, none⟩) (W - usedS (bitM ms) W k - 1) (qcap - 1)) (ws.drop (usedS (bitM ms) W (k + 1)))) := by
            unfold Hid; rw [t2]; rw [Option.map_some, add_one] at hs1; exact hs1
          rw [hd] at hb
          have hx : ms.getD (k / 60) 0 / 2 ^ (k % 60) % 2 = 1 := by
            have h := hb.symm
            unfold bitS at h
            exact of_decide_eq_true h
          have hx1 := and1_i64 (ms.getD (k / 60) 0 / 2 ^ (k % 60))
          rw [hx] at hx1
          have hcq := sq.le.1
          have hqc : W - usedS (bitM ms) W k ≤ qcap := by omega
          obtain ⟨hst1, hst2⟩ := hst
          generalize ws.getD (usedS (bitM ms) W k) 0 = y at *
          generalize W - usedS (bitM ms) W k = V at *
          generalize ms.getD (k / 60) 0 = x at *
          clear e0 t1 t2 sq hown hd hb hold cq lq hy hs1 hx hcq
          generalize k / 60 = i6 at *
          generalize k % 60 = i7 at *
          have hx2 : x / 2 ^ min ((i7 : Int)).toNat 64 = x / 2 ^ i7 := shr_bit x i7 hk60
          have hV2 : decide ((0 : Int) < (V : Int)) = true := by simp; omega
          have hV3 : (0 : Int) < (V : Int) := by omega
          have hV4 : (1 : Int) ≤ (V : Int) := by omega
          have hkN : (k : Int) < (N : Int) := by omega
          have hk0 : (0 : Int) ≤ (k : Int) := by omega
          --[c
          go_wp2
          go_region_law (fail)
          generalize (if qcap = 1 then some qd else some (⟨qd.block, qd.off + 1, none⟩ : Addr)) = qo' at HT ⊢
          generalize V - 1 = V' at HT ⊢
          go_wp2
          go_roundw
          case rel => exact ⟨k + 1, by omega, by go_num, HT.out, hst1, hb2⟩
          case measure => simp [intOf]; omega
          --]c
      · have hV : W - usedS (bitM ms) W k = 0 := by omega
        have e0 : (decide (usedS (bitM ms) ws.length k < ws.length) && bitM ms k) = false := by rw [HN.out.2.2, decide_eq_false hu, Bool.false_and]
        obtain ⟨t1, t2⟩ := toldS_no (base := base) e0
        rw [HN.out.2.2] at t2
        rw [hV] at sq ⊢
        have HT : Hid (SeesI w (.slice qo 0 qcap) (ws.drop (usedS (bitM ms) W (k + 1))) ∧ wr.ownsRow fz 2 1 (.slice (some ⟨fz, 0, none⟩) N N) N ((toldS (bitM ms) base ws (k + 1)).map vw)) := by
          unfold Hid; rw [t1, t2]; exact ⟨sq, hown⟩
        clear e0 t1 t2 sq hown hb hql hus
        --[b
        go_wp2
        go_roundw
        case rel => exact ⟨k + 1, by omega, by go_num, HT.out.1, HT.out.2, hbl⟩
        case measure => simp [intOf]; omega
        --]b
    · obtain rfl : k = N := by omega
      go_wp2
      go_ret
      exact ⟨_, rfl, by rw [HF.out]; exact hown, by rw [HF.out]; exact hbl⟩
end Go.Proofs.Ytehlibeedieclaa.Gr
