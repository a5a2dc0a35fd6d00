/- Parts of the proof. -/
import Derived.Test.YtoefekkdjcflmaaGreatDoorM44
namespace Go.Proofs.YtoefekkdjcflmaaGreatDoor.Et
open Go.RowKit Go.Sort Go.Proofs.YtoefekkdjcflmaaGreatDoor.Qm
theorem row_apart2 {base n q : Nat} {w : World} {l : Value} {vals : List Value} {cs : Array Value} {t : TypeId} (hown : w.ownsRow base 2 1 l n vals) (hq : w.heap[q]? = some (.cells cs t (0, 0))) (ht : t ≠ 2) : l.ownBlock ≠ some q := fun e => by
  rcases hown.2 with ⟨rfl, _⟩ | ⟨g, c, cur, rfl, _, hg, _⟩
  · cases e
  · have e' : g = q := Option.some.inj e
    subst e'
    rw [hq] at hg
    injection hg with hg'
    injection hg' with _ q2
    exact ht q2
set_option maxRecDepth 20000 in
set_option maxHeartbeats 1600000 in
theorem lay_keep (base D n : Nat) (xs ys : List Int) (vm : Value) (w : World) (h : Ly base D n xs w) (sm : Sees w vm ys) (h1 : 0 < ys.length) (h64 : ys.length ≤ 64) (hn : n ≤ 100) :
    Calls Tryz.prog 54 #[vm, .pointer (some ⟨D, 0, none⟩)] w fun e b => e = .returned (.tuple #[]) ∧ Ly base D (n + ys.length) (xs ++ ys) b ∧ Below base w b ∧ (∀ q cs t, w.heap[q]? = some (.cells cs t (0, 0)) → t ≠ 2 → q ≠ D → b.heap[q]? = w.heap[q]?) := by
  obtain ⟨⟨l, hD, hown⟩, hbD, hbz⟩ := h
  obtain ⟨ao, cap, rfl, hcs⟩ := id sm
  obtain ⟨ad, rfl, _⟩ := hcs 0 h1
  clear hcs
  obtain ⟨i0, hi, hz0, hz1, hz2⟩ := info_parts Tryz.infoW
  have hne := row_apart hown hD
  have HNE : Hid (∀ q cs t, w.heap[q]? = some (.cells cs t (0, 0)) → t ≠ 2 → l.ownBlock ≠ some q) := fun q cs t hq ht => row_apart2 hown hq ht
  have hlt := fun q hq => hown.lt q hq
  have hcD : w.cell? ⟨D, 0, none⟩ = some l := by simp [World.cell?, hD]
  have hfD : w.frozen? ⟨D, 0, none⟩ = false := by simp [World.frozen?, hD]
  have hv := sees_vals sm rfl
  have HS : Hid (∀ (b : World) (v : Value), b.ownsRow base 2 1 v (n + ys.length) (xs.map (Value.int .i64) ++ ys.map (Value.int .i64)) → b.ownsRow base 2 1 v (n + ys.length) ((xs ++ ys).map (Value.int .i64))) := fun b v hb => by rw [List.map_append]; exact hb
  have HL : Hid ((ys.map (Value.int .i64)).length = ys.length * 1) := by show (ys.map (Value.int .i64)).length = ys.length * 1; rw [List.length_map, Nat.mul_one]
  have ho := vals_one ys
  obtain ⟨lo, lc, rfl⟩ : ∃ lo lc, l = .slice lo n lc := by
    rcases hown.2 with ⟨rfl, h0⟩ | ⟨g, c, cur, rfl, _⟩
    · exact ⟨none, 0, by rw [h0]⟩
    · exact ⟨_, _, rfl⟩
  go_enter Tryz.func54, Tryz.ntmps54
  go_wp2_with (at_builtin; go_must (refine wpList_append_own _ rfl _ _ 53 rfl base 2 i0 (.int .i64 0) 1 8 Tryz.underW hi hz0 hz1 hz2 rfl (by decide) _ _ _ rfl hown ad ys.length cap (ys.map (Value.int .i64)) rfl HL.out hv ho (by unfold maxLen; omega) (by omega) (by omega) ?_); intro v2 w2 hown2 hg2 hnil2; have hD2 := (hg2.block D (lt_of_block hD) (fun e => hne D e.symm rfl)).trans hD; have hcD2 : w2.cell? ⟨D, 0, none⟩ = some _ := (by simp [World.cell?, hD2]; rfl); have hfD2 : w2.frozen? ⟨D, 0, none⟩ = false := (by simp [World.frozen?, hD2]); obtain ⟨lo2, lc2, rfl⟩ := own_slice hown2; have hne2 := row_apart hown2 hD2)
  refine bodyPost_end (v := .tuple #[]) (by simp [results, Tryz.results54, go_sem]) rfl ?_
  have hB : Below base w w2 := ((Below.refl _ _).grown hg2 hbz (fun m e => (hlt m e).1))
  refine ⟨rfl, ⟨⟨_, by rw [heap_setCell_same _ D 0 _ _ _ hD2]; rfl, HS.out _ _ (hown2.kept (gb_set (gb_refl w2 (some D)) 0 _) ?_)⟩, hbD, ?_⟩, hB.setCell hbD _, fun q cs t hq ht hqD => ?_⟩
  · exact .inr (fun e => hne2 D e rfl)
  · exact Nat.le_trans (Nat.le_trans hbz hg2.size) (gb_set (gb_refl w2 (some D)) 0 (.slice lo2 (n + ys.length) lc2)).size
  · have e1 := hg2.block q (lt_of_block hq) (fun e => HNE.out q cs t hq ht e.symm)
    rw [← e1]
    exact Below.heap_setCell _ _ _ _ hqD
def rowW (P : List Int) (r : Nat) : List Int := tab (fun j => ge P (r * 3 + r + j)) (3 - r)
def trW (P : List Int) : Nat → List Int
  | 0 => []
  | r + 1 => trW P r ++ rowW P r
def tl : Nat → Nat
  | 0 => 0
  | r + 1 => tl r + (3 - r)
def wdS (e : Es) : Nat → List Int
  | 0 => [e.tu 0, e.tu 1, e.tu 2, e.tu 3]
  | k + 1 => wdS e k ++ e.X k ++ trW (e.P k) 3
def wdL (e : Es) : List Int := wdS e 3 ++ [e.st, e.co] ++ [e.off 0, e.off 1, e.off 2, e.off 3] ++ [if e.sat then 1 else 0]
theorem rowW_len (P : List Int) (r : Nat) : (rowW P r).length = 3 - r := tab_len _ _
theorem tl_le (r : Nat) (h : r ≤ 3) : tl r ≤ 6 := by
  rcases (by omega : r = 0 ∨ r = 1 ∨ r = 2 ∨ r = 3) with rfl | rfl | rfl | rfl <;> decide
theorem Wk.belowB {n B : Nat} {w w' : World} {W : Nat} {f : Nat → Value} (h : Wk n w W f) (hb : Below B w w') (hW : W < B) : Wk n w' W f := by
  obtain ⟨cs, t, h1, h2, h3⟩ := h
  exact ⟨cs, t, (hb.block W hW).trans h1, h2, h3⟩
theorem Wk.seesAt {n : Nat} {w : World} {D : Nat} {f : Nat → Value} (h : Wk n w D f) (o cap : Nat) (xs : List Int) (hcp : xs.length ≤ cap) (ho : o + xs.length ≤ n) (hx : ∀ k, k < xs.length → f (o + k) = .int .i64 (ge xs k)) : Sees w (.slice (some ⟨D, o, none⟩) xs.length cap) xs :=
  ⟨_, ⟨cap, hcp⟩, rfl, fun k hk => ⟨_, rfl, h.lt, by
    have e : (⟨D, o, none⟩ : Addr).add k = ⟨D, o + k, none⟩ := by unfold Addr.add; split <;> simp_all
    rw [e]; exact h.cell (by omega) (hx k hk)⟩⟩
theorem sees_cut {w : World} {ad : Addr} {n cap cap' lo : Nat} {xs ys : List Int} (h : Sees w (.slice (some ad) n cap) xs) (hcp : ys.length ≤ cap') (hl : lo + ys.length ≤ xs.length) (hy : ∀ k, k < ys.length → ge ys k = ge xs (lo + k)) : Sees w (.slice (some (ad.add lo)) ys.length cap') ys := by
  obtain ⟨ao, c, e, hc⟩ := h
  injection e with e1 _ _
  subst e1
  refine ⟨_, ⟨cap', hcp⟩, rfl, fun k hk => ?_⟩
  obtain ⟨ad', e1, e2, e3⟩ := hc (lo + k) (by omega)
  have e4 : ad = ad' := Option.some.inj e1
  subst e4
  have e5 : (ad.add lo).add k = ad.add (lo + k) := by
    by_cases h0 : lo = 0 <;> by_cases h2 : k = 0 <;> simp [Addr.add, h0, h2, Nat.add_assoc]
  exact ⟨_, rfl, by unfold Addr.add; split <;> exact e2, by rw [e5, hy k hk]; exact e3⟩
theorem sees_some {w : World} {v : Value} {xs : List Int} {n : Nat} (h : Sees w v xs) (hn : xs.length = n) (h0 : 0 < n) : ∃ ad cap, v = .slice (some ad) n cap := by
  obtain ⟨ao, cap, rfl, hc⟩ := h
  obtain ⟨ad, rfl, _⟩ := hc 0 (by omega)
  exact ⟨ad, cap.n, by rw [hn]⟩
def Es.axs (e : Es) (vx vp : Nat → Value) : Array Value := #[.int .i64 (e.r 0), .int .i64 (e.c 0), vx 0, .int .i64 (e.r' 0), .int .i64 (e.c' 0), vp 0, .int .i64 (e.r 1), .int .i64 (e.c 1), vx 1, .int .i64 (e.r' 1), .int .i64 (e.c' 1), vp 1, .int .i64 (e.r 2), .int .i64 (e.c 2), vx 2, .int .i64 (e.r' 2), .int .i64 (e.c' 2), vp 2]
theorem axs_cell {e : Es} {vx vp : Nat → Value} {w : World} {D : Nat} (h : Wk 29 w D (e.at_ vx vp)) : ∀ j v, (e.axs vx vp)[j]? = some v → w.cell? ⟨D, 4 + j, none⟩ = some v := fun j v hv => by
  have hj : j < 18 := by
    by_cases hj : j < 18
    · exact hj
    · rw [Array.getElem?_eq_none (by show 18 ≤ j; omega)] at hv; cases hv
  refine h.cell (by omega) ?_
  have e1 : e.at_ vx vp (4 + j) = (e.axs vx vp).getD j undef := by
    rcases (by omega : j = 0 ∨ j = 1 ∨ j = 2 ∨ j = 3 ∨ j = 4 ∨ j = 5 ∨ j = 6 ∨ j = 7 ∨ j = 8 ∨ j = 9 ∨ j = 10 ∨ j = 11 ∨ j = 12 ∨ j = 13 ∨ j = 14 ∨ j = 15 ∨ j = 16 ∨ j = 17) with rfl | rfl | rfl | rfl | rfl | rfl | rfl | rfl | rfl | rfl | rfl | rfl | rfl | rfl | rfl | rfl | rfl | rfl <;> rfl
  rw [e1, Array.getD_eq_getD_getElem?, hv]
  rfl
theorem axs_index (e : Es) (vx vp : Nat → Value) (k : Nat) (hk : k < 3) (w : World) : Sem.run Tryz.prog (Instr.index 32 (.agg (e.axs vx vp)) (.int .i64 (k : Nat))) w = .ok (.agg #[.int .i64 (e.r k), .int .i64 (e.c k), vx k, .int .i64 (e.r' k), .int .i64 (e.c' k), vp k]) w := by
  rcases (by omega : k = 0 ∨ k = 1 ∨ k = 2) with rfl | rfl | rfl
  · exact index_axes0 _ _ _ _ _ _ _ _ _ _ _ _ _ _ _ _ _ _ w
  · exact index_axes1 _ _ _ _ _ _ _ _ _ _ _ _ _ _ _ _ _ _ w
  · exact index_axes2 _ _ _ _ _ _ _ _ _ _ _ _ _ _ _ _ _ _ w
set_option maxRecDepth 20000 in
set_option maxHeartbeats 8000000 in
theorem words_any (e : Es) (vx vp : Nat → Value) (w : World) (hr : rgtB e = true) (h : e.See w vx vp) :
    Calls Tryz.prog 25 #[.agg (e.cells vx vp)] w fun z b => ∃ v, z = .returned v ∧ Sees b v (wdL e) ∧ New w.heap.size v ∧ Below w.heap.size w b := by
  obtain ⟨i0, hi, hz0, hz1, hz2⟩ := info_parts Tryz.infoW
  have HLx : Hid (∀ i, i < 3 → (e.X i).length = 3 ∧ (e.P i).length = 9) := fun i hi => ⟨(rgt_axes hr i hi).2.2.2.2.2.1, (rgt_axes hr i hi).2.2.2.2.2.2⟩
  have g1 := heap_new w (.cells (e.cells vx vp) 35)
  have bW := box_below w (.cells (e.cells vx vp) 35)
  have hsz : (w.alloc (.cells (e.cells vx vp) 35)).heap.size = w.heap.size + 1 := by simp
  have hS := h.below bW
  have hR := right_any e vx vp _ hS
  rw [hr] at hR
  go_enter Tryz.func25, Tryz.ntmps25
  go_upto_region 1 with fail
  generalize w.alloc (.cells (e.cells vx vp) 35) = V at g1 bW hR hsz hS ⊢
  refine wo1_seq (D := w.heap.size) (cs := e.cells vx vp) (B := true) (cell_of g1) rfl hR ?_
  intro b b1
  have hwk := (Es.wk g1).below b1
  have hSb := True.intro
  have bB := bt bW b1
  have hzb : w.heap.size + 1 ≤ b.heap.size := by have := b1.size; omega
  clear hR hS g1 b1 bW hSb hsz hr
  obtain ⟨B, hB⟩ : ∃ B, w.heap.size + 1 = B := ⟨_, rfl⟩
  rw [hB] at hzb
  have HB : Hid (w.heap.size + 1 = B) := hB
  clear hB
  have ss := fun (u : World) (hu : Below B b u) => (hwk.belowB hu (by have := HB.out; omega)).seesAt 0 4 [e.tu 0, e.tu 1, e.tu 2, e.tu 3] (by show 4 ≤ 4; decide) (by show 4 ≤ 29; decide) (fun k hk => by
    rcases (by have : k < 4 := hk; omega : k = 0 ∨ k = 1 ∨ k = 2 ∨ k = 3) with rfl | rfl | rfl | rfl <;> rfl)
  go_upto_region 6 with (first
    | (at_make; go_must (refine wpList_make_own _ rfl _ _ 53 rfl B 2 i0 (.int .i64 0) 1 Tryz.underW hi hz0 hz1 .i64 .i64 38 38 rfl rfl rfl (by rw [hz2]; omega) (by unfold maxLen; omega) (by omega) ?_); intro w1 hown1 hg1; have hb1 := (gb_none hg1).mono hzb; have bX := box_below w1 (.cells #[.slice (some ⟨b.heap.size, 0, none⟩) 0 38] 53); have hz1B := hb1.size; have hLy : Ly B w1.heap.size 0 [] (w1.alloc (.cells #[.slice (some ⟨b.heap.size, 0, none⟩) 0 38] 53)) := ⟨⟨_, heap_new _ _, hown1.alloc _⟩, by omega, by have := bX.size; omega⟩; have B1 := hb1.trans (bX.mono (by omega)); clear hg1)
    | (go_at_call 55; go_must (refine (wq_any _ _ (by show 4 ≤ 64; decide) _ (ss _ B1)).mono ?_); rintro z w2 ⟨s', rfl, s2, n2, b2⟩; have B2 := B1.trans (b2.mono hLy.z); have L2 := hLy.below b2)
    | (go_at_call 54; go_must (refine (lay_keep B w1.heap.size 0 [] _ s' w2 L2 s2 (by show 0 < 4; decide) (by show 4 ≤ 64; decide) (by decide)).mono ?_); rintro z w3 ⟨rfl, L3, b3, _⟩; have B3 := B2.trans b3))
  clear L2 B2 b3 s2 n2 b2 hLy B1 bX hown1
  have hwk3 := hwk.belowB B3 (by have := HB.out; omega)
  refine wo6_seq (D := w.heap.size) (cs := e.axs vx vp) (axs_cell hwk3) rfl ?_
  obtain ⟨D3, hD3⟩ : ∃ D3, w1.heap.size = D3 := ⟨_, rfl⟩
  rw [hD3] at L3 hz1B ⊢
  clear hD3 hb1 ss hwk3
  go_wp2
  go_loopw [20] (fun i wr => ∃ k : Nat, k ≤ 3 ∧ i = .int .i64 k ∧ Ly B D3 (4 + 9 * k) (wdS e k) wr ∧ Below B b wr) (fun i _ => 3 - (intOf i).toNat)
  case atStart => exact ⟨0, Nat.zero_le _, rfl, L3, B3⟩
  case round =>
    clear L3 B3
    obtain ⟨k, hk, rfl, hL, hb⟩ := hrel
    by_cases hlt : k < 3
    · have bw := bB.trans (hb.mono (by have := HB.out; omega))
      have hsk := h.below bw k hlt
      have hix := axs_index e vx vp k hlt wr
      obtain ⟨hlx, hlp⟩ := HLx.out k hlt
      obtain ⟨xa, xc, ex⟩ := sees_some hsk.1 hlx (by decide)
      obtain ⟨pa, pc, ep⟩ := sees_some hsk.2 hlp (by decide)
      have hx := hsk.1
      have hp := hsk.2
      rw [ex] at hx
      rw [ep] at hp
      rw [ex, ep] at hix
      have EPk : Hid (vp k = .slice (some pa) 9 pc) := ep
      clear hsk ex ep
      have HP : Hid ((e.P k).length = 9) := hlp
      have HX : Hid ((e.X k).length = 3) := hlx
      clear hlx hlp
      have hk0 : (0 : Int) ≤ k := by omega
      have hk3 : (k : Int) ≤ 2 := by omega
      have HT : Hid (D3 ≠ wr.heap.size) := by
        obtain ⟨⟨l, hl, _⟩, _, _⟩ := hL
        have := lt_of_block hl
        intro e; omega
      have bT := box_below wr (.cells #[.int .i64 (e.r k), .int .i64 (e.c k), .slice (some xa) 3 xc, .int .i64 (e.r' k), .int .i64 (e.c' k), .slice (some pa) 9 pc] 31)
      have gT := heap_new wr (.cells #[.int .i64 (e.r k), .int .i64 (e.c k), .slice (some xa) 3 xc, .int .i64 (e.r' k), .int .i64 (e.c' k), .slice (some pa) 9 pc] 31)
      have L4 := hL.below bT
      have x4 := hx.below bT
      have p4 := hp.below bT
      have B4 := hb.trans (bT.mono hL.z)
      clear hx hp hL
      go_wp2_with (first
        | (go_at_call 55; go_must (refine (wq_any _ (e.X k) (by have := HX.out; omega) _ x4).mono ?_); rintro z w5 ⟨s', rfl, s5, n5, b5⟩; have L5 := L4.below b5; have g5 := keep b5 gT; have p5 := p4.below b5; have B5 := B4.trans (b5.mono L4.z))
        | (go_at_call 54; go_must (refine (lay_keep B D3 (4 + 9 * k) (wdS e k) (e.X k) s' w5 L5 s5 (by have := HX.out; omega) (by have := HX.out; omega) (by omega)).mono ?_); rintro z w6 ⟨rfl, L6, b6, k6⟩; have g6 := (k6 _ _ _ g5 (by decide) (fun e => HT.out e.symm)).trans g5; have B6 := B5.trans b6))
      have L7 : Ly B D3 (4 + 9 * k + 3 + tl 0) (wdS e k ++ e.X k ++ trW (e.P k) 0) w6 := by
        have := L6
        rw [HX.out] at this
        simpa [tl, trW] using this
      obtain ⟨T, hT⟩ : ∃ T, wr.heap.size = T := ⟨_, rfl⟩
      rw [hT] at g6 HT ⊢
      have HTD : Hid (T ≠ D3) := fun e => HT.out e.symm
      clear L6 L5 L4 B5 B4 b6 b5 g5 gT bT p4 p5 x4 s5 n5 k6 hT hb bw hix HT
      go_loopw [29] (fun i wr2 => ∃ r : Nat, r ≤ 3 ∧ i = .int .i64 r ∧ Ly B D3 (4 + 9 * k + 3 + tl r) (wdS e k ++ e.X k ++ trW (e.P k) r) wr2 ∧ Below B b wr2 ∧ wr2.heap[T]? = some (.cells #[.int .i64 (e.r k), .int .i64 (e.c k), .slice (some xa) 3 xc, .int .i64 (e.r' k), .int .i64 (e.c' k), .slice (some pa) 9 pc] 31 (0, 0))) (fun i _ => 3 - (intOf i).toNat)
      case atStart => exact ⟨0, Nat.zero_le _, rfl, L7, B6, g6⟩
      case round =>
        clear L7 B6 g6
        obtain ⟨r, hr, rfl, hL, hb, gT⟩ := hrel
        by_cases hrt : r < 3
        · have bw := bB.trans (hb.mono (by have := HB.out; omega))
          have hp := (h.below bw k hlt).2
          rw [EPk.out] at hp
          have hcap : 9 ≤ pc := by have := hp.cap; have := HP.out; omega
          have hcut := sees_cut (ad := pa) (lo := r * 3 + r) (cap' := pc - (r * 3 + r)) (ys := rowW (e.P k) r) hp (by rw [rowW_len]; omega) (by rw [rowW_len, HP.out]; omega) (fun j hj => by rw [rowW_len] at hj; exact tab_get hj)
          rw [rowW_len, show 3 - r = (r + 1) * 3 - (r * 3 + r) by omega] at hcut
          obtain ⟨_, _, _, _, _, c5⟩ := six_cells gT
          have hr0 : (0 : Int) ≤ r := by omega
          have hr2 : (r : Int) ≤ 2 := by omega
          have htl := tl_le r hr
          clear hp bw
          go_wp2_with (first
            | (go_at_call 55; go_must (refine (wq_any _ (rowW (e.P k) r) (by rw [rowW_len]; omega) _ hcut).mono ?_); rintro z w5 ⟨s', rfl, s5, n5, b5⟩; have L5 := hL.below b5; have g5 := keep b5 gT; have B5 := hb.trans (b5.mono hL.z))
            | (go_at_call 54; go_must (refine (lay_keep B D3 (4 + 9 * k + 3 + tl r) (wdS e k ++ e.X k ++ trW (e.P k) r) (rowW (e.P k) r) s' w5 L5 s5 (by rw [rowW_len]; omega) (by rw [rowW_len]; omega) (by omega)).mono ?_); rintro z w6 ⟨rfl, L6, b6, k6⟩))
          have HN : Hid (Ly B D3 (4 + 9 * k + 3 + tl (r + 1)) (wdS e k ++ e.X k ++ trW (e.P k) (r + 1)) w6) := by
            have e1 : 4 + 9 * k + 3 + tl (r + 1) = 4 + 9 * k + 3 + tl r + (rowW (e.P k) r).length := by rw [rowW_len]; show 4 + 9 * k + 3 + (tl r + (3 - r)) = _; omega
            have e2 : wdS e k ++ e.X k ++ trW (e.P k) (r + 1) = wdS e k ++ e.X k ++ trW (e.P k) r ++ rowW (e.P k) r := by show wdS e k ++ e.X k ++ (trW (e.P k) r ++ rowW (e.P k) r) = _; simp [List.append_assoc]
            rw [e1, e2]; exact L6
          have B6 := B5.trans b6
          have g6 := (k6 _ _ _ g5 (by decide) (fun e => HTD.out e)).trans g5
          go_roundw
          case rel => exact ⟨r + 1, by omega, by go_num, HN.out, B6, g6⟩
          case measure => simp [intOf]; omega
        · have er : r = 3 := by omega
          subst er
          have HN : Hid (Ly B D3 (4 + 9 * (k + 1)) (wdS e (k + 1)) wr) := by
            have e1 : 4 + 9 * (k + 1) = 4 + 9 * k + 3 + tl 3 := by show _ = 4 + 9 * k + 3 + 6; omega
            rw [e1]; exact hL
          clear hL gT
          go_wp2
          go_roundw
          case rel => exact ⟨k + 1, by omega, by go_num, HN.out, hb⟩
          case measure => simp [intOf]; omega
    · have ek : k = 3 := by omega
      subst ek
      have hw' := hwk.belowB hb (by have := HB.out; omega)
      have c22 : wr.cell? ⟨w.heap.size, 22, none⟩ = some (.int .i64 e.st) := hw'.cell (by decide) rfl
      have c23 : wr.cell? ⟨w.heap.size, 23, none⟩ = some (.int .i64 e.co) := hw'.cell (by decide) rfl
      have hLz := hL.z
      have bs1 := box_below wr (.cells #[.int .i64 e.st, .int .i64 e.co] 2)
      have gs1 := sees_row (xs := [e.st, e.co]) (heap_new wr (.cells #[.int .i64 e.st, .int .i64 e.co] 2)) rfl
      have Ls1 := hL.below bs1
      have Bs1 := hb.trans (bs1.mono hL.z)
      have so := fun (u : World) (hu : Below B b u) => (hwk.belowB hu (by have := HB.out; omega)).seesAt 24 4 [e.off 0, e.off 1, e.off 2, e.off 3] (by show 4 ≤ 4; decide) (by show 28 ≤ 29; decide) (fun k hk => by
        rcases (by have : k < 4 := hk; omega : k = 0 ∨ k = 1 ∨ k = 2 ∨ k = 3) with rfl | rfl | rfl | rfl <;> rfl)
      have cs := fun (u : World) (hu : Below B b u) => show u.cell? ⟨w.heap.size, 28, none⟩ = some (.bool e.sat) from (hwk.belowB hu (by have := HB.out; omega)).cell (by decide) rfl
      have HBT : Hid (bit_any = bit_any) := rfl
      obtain ⟨sb, hsb⟩ : ∃ x : Int, (if e.sat then 1 else 0 : Int) = x := ⟨_, rfl⟩
      have hbit := fun u => bit_any e.sat u
      rw [hsb] at hbit
      have HSB : Hid ((if e.sat then 1 else 0 : Int) = sb) := hsb
      clear hsb HBT hw'
      go_wp2_with (first
        | (have _ := L9; go_at_call 54; go_must (refine (lay_keep B D3 (4 + 9 * 3 + 2 + 4) (wdS e 3 ++ [e.st, e.co] ++ [e.off 0, e.off 1, e.off 2, e.off 3]) [sb] _ _ L9 gs9 (by show 0 < 1; decide) (by show 1 ≤ 64; decide) (by decide)).mono ?_); rintro z w10 ⟨rfl, L10, b10, _⟩; have B10 := B9.trans b10; obtain ⟨⟨lv, hlv, hown⟩, _, _⟩ := L10; have hcl : w10.cell? ⟨D3, 0, none⟩ = some lv := (by simp [World.cell?, hlv]); have hsees := sees_own hown; have hnew := New.own hown; clear hlv hown)
        | (have _ := L7; go_at_call 54; go_must (refine (lay_keep B D3 (4 + 9 * 3 + 2) (wdS e 3 ++ [e.st, e.co]) [e.off 0, e.off 1, e.off 2, e.off 3] _ _ L7 s7 (by show 0 < 4; decide) (by show 4 ≤ 64; decide) (by decide)).mono ?_); rintro z w8 ⟨rfl, L8, b8, _⟩; have B8 := B7.trans b8; have c8 := cs _ B8; have bs9 := box_below w8 (.cells #[.int .i64 sb] 2); have gs9 := sees_row (xs := [sb]) (heap_new w8 (.cells #[.int .i64 sb] 2)) rfl; have L9 := L8.below bs9; have B9 := B8.trans (bs9.mono L8.z); clear L7 s7 L8)
        | (go_at_call 54; go_must (refine (lay_keep B D3 (4 + 9 * 3) (wdS e 3) [e.st, e.co] _ _ Ls1 gs1 (by show 0 < 2; decide) (by show 2 ≤ 64; decide) (by decide)).mono ?_); rintro z w6 ⟨rfl, L6, b6, _⟩; have B6 := Bs1.trans b6)
        | (go_at_call 56; go_must (refine (wi_any _ [e.off 0, e.off 1, e.off 2, e.off 3] (by show 4 ≤ 64; decide) _ (so _ B6)).mono ?_); rintro z w7 ⟨s', rfl, s7, n7, b7⟩; have B7 := B6.trans (b7.mono L6.z); have L7 := L6.below b7; clear L6)
        | (go_at_call 57; go_must (refine (hbit _).mono ?_); rintro z w' ⟨rfl, hq⟩; rw [hq]; clear hq w'))
      trace_state
      go_ret
      exact ⟨lv, rfl, by unfold wdL; rw [HSB.out]; exact hsees, hnew.mono (by have := HB.out; omega), bB.trans (B10.mono (by have := HB.out; omega))⟩
end Go.Proofs.YtoefekkdjcflmaaGreatDoor.Et
namespace Go.Proofs.YtoefekkdjcflmaaGreatDoor.Et
open Go.RowKit Go.Sort Go.Proofs.YtoefekkdjcflmaaGreatDoor.Qm
open Go.Proofs.YtoefekkdjcflmaaGreatDoor.Qt (Less)
def cfV (c : Nat → Int) : Array Value := #[.int .i64 (c 0), .int .i64 (c 1), .int .i64 (c 2), .int .i64 (c 3), .int .i64 (c 4), .int .i64 (c 5)]
def smV (q : Sm) : Array Value := #[.bool q.ms, .int .i64 (q.gy 0), .int .i64 (q.gy 1), .int .i64 (q.gy 2), .int .i64 (q.ac 0), .int .i64 (q.ac 1), .int .i64 (q.ac 2), .bool q.hb, .int .i64 q.br, .bool q.hg, .int .i64 (q.gn 0), .int .i64 (q.gn 1), .int .i64 (q.gn 2)]
def veV (y : Nat → Int) : Array Value := #[.int .i64 (y 0), .int .i64 (y 1), .int .i64 (y 2)]
def stp (c : Nat → Int) (e : Es) (q : Sm) : Es := outE (stgS (begS 0 c e q) 4)
def plc (e : Es) (i : Nat) : Int := ge (e.X i) 0
theorem see_slices {e : Es} {vx vp : Nat → Value} {w : World} (h : e.See w vx vp) : ∃ (xo po : Nat → Option Addr) (xc pc : Nat → Nat), ∀ i, i < 3 → vx i = .slice (xo i) (e.X i).length (xc i) ∧ vp i = .slice (po i) (e.P i).length (pc i) := by
  obtain ⟨a0, b0, x0⟩ := (h 0 (by decide)).1.slice
  obtain ⟨a1, b1, x1⟩ := (h 1 (by decide)).1.slice
  obtain ⟨a2, b2, x2⟩ := (h 2 (by decide)).1.slice
  obtain ⟨c0, d0, y0⟩ := (h 0 (by decide)).2.slice
  obtain ⟨c1, d1, y1⟩ := (h 1 (by decide)).2.slice
  obtain ⟨c2, d2, y2⟩ := (h 2 (by decide)).2.slice
  refine ⟨fun i => [a0, a1, a2].getD i none, fun i => [c0, c1, c2].getD i none, fun i => [b0, b1, b2].getD i 0, fun i => [d0, d1, d2].getD i 0, fun i hi => ?_⟩
  rcases (by omega : i = 0 ∨ i = 1 ∨ i = 2) with rfl | rfl | rfl
  · exact ⟨x0, y0⟩
  · exact ⟨x1, y1⟩
  · exact ⟨x2, y2⟩
theorem cells_congr (e : Es) {vx vp ux up : Nat → Value} (h : ∀ i, i < 3 → vx i = ux i ∧ vp i = up i) : e.cells vx vp = e.cells ux up := by
  unfold Es.cells
  rw [(h 0 (by decide)).1, (h 1 (by decide)).1, (h 2 (by decide)).1, (h 0 (by decide)).2, (h 1 (by decide)).2, (h 2 (by decide)).2]
theorem Es.See.congr {e : Es} {vx vp ux up : Nat → Value} {w : World} (h : e.See w vx vp) (hv : ∀ i, i < 3 → vx i = ux i ∧ vp i = up i) : e.See w ux up := fun i hi => by
  rw [← (hv i hi).1, ← (hv i hi).2]; exact h i hi
theorem stp_lo (c : Nat → Int) (e : Es) (q : Sm) (l : Nat) : outE (stgS (begS l c e q) 4) = stp c e q := out_lo c e q l 0
theorem stp_x (c : Nat → Int) (e : Es) (q : Sm) (l i : Nat) : (stgS (begS l c e q) 4).X i = (stp c e q).X i := by rw [← stp_lo c e q l]; rfl
theorem step_E (c : Nat → Int) (e : Es) (q : Sm) (vx vp : Nat → Value) (w w0 : World) (hm : mayB c = true) (hr : rgtB e = true) (hE0 : e.See w0 vx vp) (hZ0 : w0.heap.size ≤ w.heap.size) (h : e.See w vx vp) (hG : Less w) :
    Calls Tryz.prog 14 #[.agg (cfV c), .agg (e.cells vx vp), .agg (smV q)] w fun z b => ∃ vx' vp', z = .returned (.tuple #[.agg ((stp c e q).cells vx' vp'), .agg (veV (plc (stp c e q)))]) ∧ (stp c e q).See b vx' vp' ∧
      (∀ i, i < 3 → (∀ k, (vx' i).ownBlock = some k → k < w0.heap.size ∨ w.heap.size ≤ k) ∧ (∀ k, (vp' i).ownBlock = some k → k < w0.heap.size ∨ w.heap.size ≤ k)) ∧ Below w.heap.size w b := by
  obtain ⟨xo, po, xc, pc, hv⟩ := see_slices h
  have hs := step_from c e q xo po xc pc w w0 hm hr (Es.See.congr hE0 hv) hZ0 (Es.See.congr h hv) hG
  rw [stp_lo, stp_x, stp_x, stp_x] at hs
  rw [cells_congr e hv]
  exact hs
end Go.Proofs.YtoefekkdjcflmaaGreatDoor.Et
namespace Go.Proofs.YtoefekkdjcflmaaGreatDoor
open Go.ChangeShapes Go.WideShapes Go.ChangeAt Go.RowKit Qm Et
section
variable {H : Type} {enc : TypeId × Value → H} {w : World} {base : Nat} {spare : Nat → Bool} {held : Bool}
theorem bool_cell {n : Nat} {cs : List Value} {y : DataW H × List MemPlace} {t : TypeId} (ht : Tryz.prog.underlying t = some .bool) (h : DataW.trod enc Tryz.prog w base spare held n t cs = some y) : ∃ a, cs = [.bool a] := by
  obtain ⟨d, p⟩ := y
  obtain ⟨a, e, _⟩ := DataW.trod_bool ht h
  exact ⟨a, e⟩
theorem ints_cells_open {n m : Nat} {cs : List Value} {x : DataW H × List MemPlace} {t e : TypeId} (ht : Tryz.prog.underlying t = some (.array n e)) (he : Tryz.prog.underlying e = some (.int .i64)) (h1 : Tryz.prog.cellsOf e = 1) (hC : Tryz.prog.cellsOf t = n)
    (h : DataW.trod enc Tryz.prog w base spare held m t cs = some x) : ∃ f : Nat → Int, cs = (List.range n).map fun i => Value.int .i64 (f i) := by
  obtain ⟨xs, k, _, _, hl, hxl, hg⟩ := DataW.trod_array ht h
  rw [hC] at hl
  have cell : ∀ i, i < n → ∃ a, List.take 1 (List.drop (i * 1) cs) = [.int .i64 a] := by
    intro i hi
    have g := hg i hi
    rw [h1, List.getElem?_eq_getElem (by omega)] at g
    exact int_cell he g
  refine ⟨fun i => intOf (cs.getD i undef), ?_⟩
  apply List.ext_getElem?
  intro i
  by_cases hi : i < n
  · obtain ⟨a, ea⟩ := cell i hi
    have h0 : ((cs.drop (i * 1)).take 1)[0]? = some (.int .i64 a) := by rw [ea]; rfl
    have h2 : cs[i]? = some (.int .i64 a) := by simpa using h0
    rw [h2]
    simp [hi, h2, intOf]
  · rw [List.getElem?_eq_none (by omega), List.getElem?_eq_none (by simp; omega)]
theorem Tryz.uQuat : Tryz.prog.underlying 26 = some (.array 4 22) := by kernel_rfl
theorem Tryz.cQuat : Tryz.prog.cellsOf 26 = 4 := by kernel_rfl
theorem Tryz.uOff : Tryz.prog.underlying 33 = some (.array 4 3) := by kernel_rfl
theorem Tryz.cOff : Tryz.prog.cellsOf 33 = 4 := by kernel_rfl
theorem Tryz.uInt : Tryz.prog.underlying 3 = some (.int .i64) := by kernel_rfl
theorem Tryz.cInt : Tryz.prog.cellsOf 3 = 1 := by kernel_rfl
theorem Tryz.uBool : Tryz.prog.underlying 4 = some .bool := by kernel_rfl
theorem Tryz.cBool : Tryz.prog.cellsOf 4 = 1 := by kernel_rfl
theorem Tryz.uAx : Tryz.prog.underlying 32 = some (.array 3 31) := by kernel_rfl
theorem Tryz.cAx : Tryz.prog.cellsOf 32 = 18 := by kernel_rfl
theorem Tryz.shapeCf : shapeOf Tryz.prog 24 = [(22, 0), (22, 1), (22, 2), (22, 3), (22, 4), (22, 5)] := by kernel_rfl
theorem Tryz.cCf : Tryz.prog.cellsOf 24 = 6 := by kernel_rfl
theorem Tryz.shapeEs : shapeOf Tryz.prog 35 = [(26, 0), (32, 4), (3, 22), (3, 23), (33, 24), (4, 28)] := by kernel_rfl
theorem Tryz.cEs : Tryz.prog.cellsOf 35 = 29 := by kernel_rfl
set_option maxRecDepth 40000 in
theorem conf_open {r : Reach} {b0 : Nat} {v : Value} {d : DataW H} {p : List MemPlace} (hv : Value.okWide Tryz.prog w r b0 24 v) (h : DataW.Trod enc Tryz.prog w base spare held 24 v d p) :
    ∃ c : Nat → Int, v = .agg (cfV c) := by
  obtain ⟨cs, fuel, x, rfl, hq⟩ := struct_of Tryz.shapeCf (by simp) hv h
  obtain ⟨hl, m, hf⟩ := fields_of Tryz.shapeCf (by simp) hq
  rw [Tryz.cCf] at hl
  obtain ⟨y0, h0⟩ := hf 0 _ _ rfl
  obtain ⟨y1, h1⟩ := hf 1 _ _ rfl
  obtain ⟨y2, h2⟩ := hf 2 _ _ rfl
  obtain ⟨y3, h3⟩ := hf 3 _ _ rfl
  obtain ⟨y4, h4⟩ := hf 4 _ _ rfl
  obtain ⟨y5, h5⟩ := hf 5 _ _ rfl
  rw [Tryz.cQ1] at h0 h1 h2 h3 h4 h5
  obtain ⟨a0, e0⟩ := int_cell Tryz.uQ1 h0
  obtain ⟨a1, e1⟩ := int_cell Tryz.uQ1 h1
  obtain ⟨a2, e2⟩ := int_cell Tryz.uQ1 h2
  obtain ⟨a3, e3⟩ := int_cell Tryz.uQ1 h3
  obtain ⟨a4, e4⟩ := int_cell Tryz.uQ1 h4
  obtain ⟨a5, e5⟩ := int_cell Tryz.uQ1 h5
  refine ⟨fun k => [a0, a1, a2, a3, a4, a5].getD k 0, ?_⟩
  clear hf hq hv h h0 h1 h2 h3 h4 h5
  match cs, hl with
  | [x0, x1, x2, x3, x4, x5], _ =>
    simp at e0 e1 e2 e3 e4 e5
    subst e0 e1 e2 e3 e4 e5
    rfl
set_option maxRecDepth 40000 in
theorem est_open {r : Reach} {b0 : Nat} {v : Value} {d : DataW H} {p : List MemPlace} (hv : Value.okWide Tryz.prog w r b0 35 v) (h : DataW.Trod enc Tryz.prog w base spare held 35 v d p) :
    ∃ (e : Es) (vx vp : Nat → Value), v = .agg (e.cells vx vp) ∧ e.See w vx vp := by
  obtain ⟨cs, fuel, x, rfl, hq⟩ := struct_of Tryz.shapeEs (by simp) hv h
  obtain ⟨hl, m, hf⟩ := fields_of Tryz.shapeEs (by simp) hq
  rw [Tryz.cEs] at hl
  obtain ⟨y0, h0⟩ := hf 0 _ _ rfl
  obtain ⟨y1, h1⟩ := hf 1 _ _ rfl
  obtain ⟨y2, h2⟩ := hf 2 _ _ rfl
  obtain ⟨y3, h3⟩ := hf 3 _ _ rfl
  obtain ⟨y4, h4⟩ := hf 4 _ _ rfl
  obtain ⟨y5, h5⟩ := hf 5 _ _ rfl
  rw [Tryz.cQuat] at h0
  rw [Tryz.cAx] at h1
  rw [Tryz.cInt] at h2 h3
  rw [Tryz.cOff] at h4
  rw [Tryz.cBool] at h5
  obtain ⟨tu, e0⟩ := ints_cells_open Tryz.uQuat Tryz.uQ1 Tryz.cQ1 Tryz.cQuat h0
  obtain ⟨st, e2⟩ := int_cell Tryz.uInt h2
  obtain ⟨co, e3⟩ := int_cell Tryz.uInt h3
  obtain ⟨off, e4⟩ := ints_cells_open Tryz.uOff Tryz.uInt Tryz.cInt Tryz.cOff h4
  obtain ⟨sat, e5⟩ := bool_cell Tryz.uBool h5
  obtain ⟨xs, k, _, _, hl1, hxl, hg⟩ := DataW.trod_array Tryz.uAx h1
  have tr : ∀ i, i < 3 → ∃ y, DataW.trod enc Tryz.prog w base spare held k 31 (List.take 6 (List.drop (i * 6) (List.take 18 (List.drop 4 cs)))) = some y := by
    intro i hi
    have g := hg i hi
    rw [Tryz.cT, List.getElem?_eq_getElem (by omega)] at g
    exact ⟨_, g⟩
  obtain ⟨z0, t0⟩ := tr 0 (by omega)
  obtain ⟨z1, t1⟩ := tr 1 (by omega)
  obtain ⟨z2, t2⟩ := tr 2 (by omega)
  obtain ⟨r0, c0, p0, q0, s0, u0, X0, P0, k0, sx0, sp0⟩ := track_cells_open t0
  obtain ⟨r1, c1, p1, q1, s1, u1, X1, P1, k1, sx1, sp1⟩ := track_cells_open t1
  obtain ⟨r2, c2, p2, q2, s2, u2, X2, P2, k2, sx2, sp2⟩ := track_cells_open t2
  refine ⟨⟨tu, fun i => [r0, r1, r2].getD i 0, fun i => [c0, c1, c2].getD i 0, fun i => [p0, p1, p2].getD i 0, fun i => [q0, q1, q2].getD i 0, fun i => [X0, X1, X2].getD i [], fun i => [P0, P1, P2].getD i [], st, co, off, sat⟩, fun i => [s0, s1, s2].getD i undef, fun i => [u0, u1, u2].getD i undef, ?_, fun i hi => ?_⟩
  · clear hf hq hv h h0 h1 h2 h3 h4 h5 tr t0 t1 t2 hg sx0 sx1 sx2 sp0 sp1 sp2
    have split : cs = cs.take 4 ++ (((List.take 18 (List.drop 4 cs)).drop (0 * 6)).take 6 ++ (((List.take 18 (List.drop 4 cs)).drop (1 * 6)).take 6 ++ (((List.take 18 (List.drop 4 cs)).drop (2 * 6)).take 6 ++ ((cs.drop 22).take 1 ++ ((cs.drop 23).take 1 ++ ((cs.drop 24).take 4 ++ (cs.drop 28).take 1)))))) := by
      match cs, hl with
      | [a0, a1, a2, a3, a4, a5, a6, a7, a8, a9, a10, a11, a12, a13, a14, a15, a16, a17, a18, a19, a20, a21, a22, a23, a24, a25, a26, a27, a28], _ => rfl
    have e0' : cs.take 4 = _ := e0
    rw [e0', k0, k1, k2, e2, e3, e4, e5] at split
    rw [split]
    rfl
  · rcases (by omega : i = 0 ∨ i = 1 ∨ i = 2) with rfl | rfl | rfl
    · exact ⟨sx0, sp0⟩
    · exact ⟨sx1, sp1⟩
    · exact ⟨sx2, sp2⟩
end
end Go.Proofs.YtoefekkdjcflmaaGreatDoor

