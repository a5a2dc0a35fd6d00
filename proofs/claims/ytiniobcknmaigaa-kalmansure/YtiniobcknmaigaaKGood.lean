/-
  The contracts of the code's Good, and of Same of tracks.
-/
import Derived.Test.YtiniobcknmaigaaKEven
import Derived.Test.YtiniobcknmaigaaRGood
import Derived.Test.YtiniobcknmaigaaRInn
import Derived.Test.YtiniobcknmaigaaSame
import Derived.StillTailTactics
namespace Go.Proofs.Ytiniobcknmaigaa
open Go.RowKit Go.Sort Qm

set_option maxHeartbeats 800000 in
theorem onDiag_any (r c i : Nat) (hi : i ≤ 8) (hc : c ≤ 8) (ao : Option Addr) (n cap : Nat) (w : World) :
    Calls Try.prog 38 #[.agg #[.int .i64 r, .int .i64 c, .slice ao n cap], .int .i64 i] w fun e w' => e = .returned (.int .i64 (i * c + i : Nat)) ∧ Below w.heap.size w w' := by
  have hq : i * c ≤ 64 := mul_le_64 hi hc
  obtain ⟨q, hq'⟩ : ∃ q, i * c = q := ⟨_, rfl⟩
  have hm : (i : Int) * (c : Int) = (q : Int) := by rw [← hq']; exact (Int.natCast_mul i c).symm
  rw [hq'] at hq ⊢
  clear hq'
  go_enter Try.func38, Try.ntmps38
  go_wp2
  go_ret
  exact ⟨by go_num, box_below w _⟩
theorem gdu_step {n i : Nat} (zs : List Int) (hi : i < n) (p : Nat) : (if p = i * n + i then (if ge zs (i * n + i) < 0 then 0 else ge zs (i * n + i)) else gdu n zs i p) = gdu n zs (i + 1) p := by
  by_cases hz : ge zs (i * n + i) < 0
  · rw [if_pos hz]; exact gdu_put zs hi hz p
  · rw [if_neg hz, ← gdu_stay zs hz p]
    by_cases e : p = i * n + i
    · rw [if_pos e, e, gdu_at zs hi]
    · rw [if_neg e]
theorem Fills.grow {W wr wx : World} {g cap n : Nat} {u : Nat → Int} (h : Fills W g cap n u wr) (hb : Below wr.heap.size wr wx) : Fills W g cap n u wx :=
  ⟨h.1.kept (gb_below none hb) (.inr (by simp [Value.ownBlock])), gb_trans h.2 (gb_below _ hb)⟩

set_option maxRecDepth 20000 in
set_option maxHeartbeats 1600000 in
theorem kgood_any (C : Nat) (h2 : 1 ≤ C) (hC : C ≤ 8) (v : Value) (xs : List Int) (hn : xs.length = C * C) (hal : AllIn xs) (w : World) (hs : Sees w v xs) :
    Calls Try.prog 18 #[.agg #[.int .i64 C, .int .i64 C, v]] w fun e b =>
      ∃ v, e = .returned (.agg #[.int .i64 C, .int .i64 C, v]) ∧ Sees b v (gd C xs) ∧ New w.heap.size v ∧ Below w.heap.size w b := by
  have h64 : C * C ≤ 64 := mul_le_64 hC hC
  have hpos : 0 < C * C := Nat.mul_pos h2 h2
  have hev := fun w v hs => even_own C h2 hC v xs hn hal w hs
  obtain ⟨ao, cap, rfl⟩ := hs.slice
  unfold gd
  have hzl : (evn C xs).length = C * C := evn_len C xs
  obtain ⟨zs, hzs⟩ : ∃ zs, evn C xs = zs := ⟨_, rfl⟩
  rw [hzs] at hev hzl ⊢
  obtain ⟨n, hq⟩ : ∃ n, C * C = n := ⟨_, rfl⟩
  have HQ : Hid (C * C = n) := hq
  rw [hq] at hev h64 hpos hzl ⊢
  have HZ : Hid (zs.length = n) := hzl
  clear hn hal hzs hq hzl
  obtain ⟨W, hW⟩ : ∃ W, (w.alloc (.cells #[.int .i64 C, .int .i64 C, .slice ao xs.length cap] 24)).alloc (.cells #[.int .i64 0, .int .i64 0, .slice none 0 0] 24) = W := ⟨_, rfl⟩
  obtain ⟨x1, x2⟩ := allocs2 w (.cells #[.int .i64 C, .int .i64 C, .slice ao xs.length cap] 24) (.cells #[.int .i64 0, .int .i64 0, .slice none 0 0] 24)
  have bq := ball2 w (.cells #[.int .i64 C, .int .i64 C, .slice ao xs.length cap] 24) (.cells #[.int .i64 0, .int .i64 0, .slice none 0 0] 24)
  rw [hW] at x1 x2 bq
  have hE := hev W _ (hs.below bq)
  rw [← hW] at hE
  have HW : Hid (_ = W) := hW
  clear hW hev
  go_enter Try.func18, Try.ntmps18
  go_wp2_with (go_at_call 37; refine hE.mono ?_; rintro e w1 ⟨v1, rfl, hown, b1⟩; rw [HW.out] at b1 hown; obtain ⟨g, gc, rfl, hgW⟩ := own_form hown hpos)
  have hDg : w.heap.size + 1 < g := Nat.lt_of_lt_of_le (lt_of_block x2) hgW
  have y2 := heap_old (keep b1 x2) (.cells #[.int .i64 C, .int .i64 C, .slice (some ⟨g, 0, none⟩) n gc] 24)
  have y3 := heap_new w1 (.cells #[.int .i64 C, .int .i64 C, .slice (some ⟨g, 0, none⟩) n gc] 24)
  have bw := (bt (bt bq b1) (box_below w1 (.cells #[.int .i64 C, .int .i64 C, .slice (some ⟨g, 0, none⟩) n gc] 24)))
  have hgw : w.heap.size ≤ g := Nat.le_trans bq.size hgW
  have F0 : Fills (w1.alloc (.cells #[.int .i64 C, .int .i64 C, .slice (some ⟨g, 0, none⟩) n gc] 24)) g gc n (gdu C zs 0) (w1.alloc (.cells #[.int .i64 C, .int .i64 C, .slice (some ⟨g, 0, none⟩) n gc] 24)) := by
    refine Fills.start (base := W.heap.size) ?_
    have e : tab (gdu C zs 0) n = zs := tab_ge HZ.out fun k _ => gdu_zero C zs k
    rw [e]
    exact hown.alloc _
  obtain ⟨V, hV⟩ : ∃ V, w1.alloc (.cells #[.int .i64 C, .int .i64 C, .slice (some ⟨g, 0, none⟩) n gc] 24) = V := ⟨_, rfl⟩
  rw [hV] at y2 y3 bw F0 ⊢
  have gx2 := F0.apart y2
  have gx3 := F0.apart y3
  clear hV x1 x2 hown b1 bq hE
  go_loopw [16] (fun i wr => ∃ a : Nat, a ≤ C ∧ i = .int .i64 a ∧ Fills V g gc n (gdu C zs a) wr) (fun i _ => C - (intOf i).toNat)
  case atStart => exact ⟨0, Nat.zero_le _, rfl, F0⟩
  case round =>
    clear F0
    obtain ⟨i, hi, rfl, hF⟩ := hrel
    obtain ⟨v0, v1, v2, _⟩ := mat_cells (hF.keep y3 gx3)
    by_cases hlt : i < C
    · have pA : i * C + i < n := by rw [← HQ.out]; exact at_lt hlt hlt
      have kD := fun v => onDiag_any C C i (by omega) hC (some ⟨g, 0, none⟩) n gc v
      have HG : Hid (∀ wx, Fills V g gc n (gdu C zs i) wx → wx.cell? ⟨g, i * C + i, none⟩ = some (.int .i64 (ge zs (i * C + i))) ∧ wx.frozen? ⟨g, i * C + i, none⟩ = false ∧ Fills V g gc n (gdu C zs (i + 1)) (wx.setCell ⟨g, i * C + i, none⟩ (.int .i64 (if ge zs (i * C + i) < 0 then 0 else ge zs (i * C + i))))) := fun wx hx => by
        have hc := hx.cell pA
        rw [gdu_at zs hlt] at hc
        exact ⟨hc, hx.free _, (hx.store (i * C + i) _).congr fun k _ => gdu_step zs hlt k⟩
      generalize ge zs (i * C + i) = x at HG
      generalize i * C + i = qa at pA kD HG
      go_wp2_with (go_at_call 38; refine (kD _).mono ?_; rintro e wx ⟨rfl, bx⟩; have hFx := hF.grow bx; obtain ⟨hc, hf, hFn⟩ := HG.out wx hFx; obtain ⟨u0, u1, u2, _⟩ := mat_cells (hFx.keep y3 gx3))
      have ta : ((qa : Int)).toNat = qa := by omega
      have la : (qa : Int) < (n : Int) := by omega
      have za : (0 : Int) ≤ (qa : Int) := by omega
      have hFd := hFn
      clear hF hFn hFx HG
      go_still_tail 10, (by kernel_rfl)
      change wpList Try.prog _ _ _ _ wx.drew
      go_wp2
      go_roundw
      case rel => exact ⟨i + 1, by omega, by go_num, hFd.drew⟩
      case measure => simp [intOf]; omega
    · have e : i = C := by omega
      subst e
      obtain ⟨d0, d1, d2, f0, f1, f2⟩ := mat_cells (hF.keep y2 gx2)
      have hsh := hF.shows
      have hbl := hF.below bw hgw
      clear hF
      go_wp2
      refine bodyPost_ret (v := .agg #[.int .i64 i, .int .i64 i, .slice (some ⟨g, 0, none⟩) n gc]) (by simp [results, Try.results18, go_sem, d0, d1, d2]) rfl ?_
      exact ⟨_, rfl, hsh.put (new_at g n gc) hDg _ _ _, (new_at g n gc).mono hgw, below_put hbl (by omega) _ _ _⟩

set_option maxRecDepth 20000 in
set_option maxHeartbeats 1600000 in
theorem ksame_any (r c p q r' c' p' q' : Int) (va vb vc vd : Value) (xs ys zs us : List Int) (w : World) (hx : xs.length ≤ 100) (hy : ys.length ≤ 100) (hz : zs.length ≤ 100) (hu : us.length ≤ 100) (sa : Sees w va xs) (sb : Sees w vb ys) (sc : Sees w vc zs) (sd : Sees w vd us) :
    Calls Try.prog 20 #[.agg #[.int .i64 r, .int .i64 c, va, .int .i64 p, .int .i64 q, vb], .agg #[.int .i64 r', .int .i64 c', vc, .int .i64 p', .int .i64 q', vd]] w fun e b =>
      e = .returned (.bool (sameB r c xs r' c' zs && sameB p q ys p' q' us)) ∧ Below w.heap.size w b := by
  obtain ⟨ao, ac, rfl⟩ := sa.slice
  obtain ⟨bo, bc, rfl⟩ := sb.slice
  obtain ⟨co, cc, rfl⟩ := sc.slice
  obtain ⟨eo, ec, rfl⟩ := sd.slice
  obtain ⟨W, hW⟩ : ∃ W, (w.alloc (.cells #[.int .i64 r, .int .i64 c, .slice ao xs.length ac, .int .i64 p, .int .i64 q, .slice bo ys.length bc] 26)).alloc (.cells #[.int .i64 r', .int .i64 c', .slice co zs.length cc, .int .i64 p', .int .i64 q', .slice eo us.length ec] 26) = W := ⟨_, rfl⟩
  obtain ⟨x1, x2⟩ := allocs2 w (.cells #[.int .i64 r, .int .i64 c, .slice ao xs.length ac, .int .i64 p, .int .i64 q, .slice bo ys.length bc] 26) (.cells #[.int .i64 r', .int .i64 c', .slice co zs.length cc, .int .i64 p', .int .i64 q', .slice eo us.length ec] 26)
  have bW := ball2 w (.cells #[.int .i64 r, .int .i64 c, .slice ao xs.length ac, .int .i64 p, .int .i64 q, .slice bo ys.length bc] 26) (.cells #[.int .i64 r', .int .i64 c', .slice co zs.length cc, .int .i64 p', .int .i64 q', .slice eo us.length ec] 26)
  rw [hW] at x1 x2 bW
  have k1 := same_any r c r' c' _ _ xs zs W hx hz (sa.below bW) (sc.below bW)
  have k2 : ∀ v, Below W.heap.size W v → Calls Try.prog 32 #[.agg #[.int .i64 p, .int .i64 q, .slice bo ys.length bc], .agg #[.int .i64 p', .int .i64 q', .slice eo us.length ec]] v fun e b =>
      e = .returned (.bool (sameB p q ys p' q' us)) ∧ Below v.heap.size v b := fun v hv => same_any p q p' q' _ _ ys us v hy hu ((sb.below bW).below hv) ((sd.below bW).below hv)
  obtain ⟨A, hA⟩ : ∃ A, sameB r c xs r' c' zs = A := ⟨_, rfl⟩
  obtain ⟨B, hB⟩ : ∃ B, sameB p q ys p' q' us = B := ⟨_, rfl⟩
  rw [hA] at k1
  simp only [hB] at k2
  rw [hA, hB]
  rw [← hW] at k1
  have HW : Hid (_ = W) := hW
  clear hW hA hB hx hy hz hu
  obtain ⟨c0, c1, c2, c3, c4, c5⟩ := six_cells x1
  obtain ⟨q0, q1, q2, q3, q4, q5⟩ := six_cells x2
  cases A
  · go_enter Try.func20, Try.ntmps20
    go_wp2_with (go_at_call 32; refine k1.mono ?_; rintro e wa ⟨rfl, b1⟩; rw [HW.out] at b1)
    go_ret
    exact ⟨rfl, bt bW b1⟩
  · go_enter Try.func20, Try.ntmps20
    go_wp2_with (first
      | (have _ := b1; go_at_call 32; refine (k2 _ b1).mono ?_; rintro e wb ⟨rfl, b2⟩)
      | (go_at_call 32; refine k1.mono ?_; rintro e wa ⟨rfl, b1⟩; rw [HW.out] at b1; obtain ⟨d0, d1, d2, d3, d4, d5⟩ := six_cells (keep b1 x1); obtain ⟨e0, e1, e2, e3, e4, e5⟩ := six_cells (keep b1 x2)))
    go_ret
    exact ⟨by simp, bt (bt bW b1) b2⟩
end Go.Proofs.Ytiniobcknmaigaa
