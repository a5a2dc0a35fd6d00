/-
  One slot is another one; the record that is written next: the code's.
-/
import Derived.Test.YtcfobifldlkfnaaNO
namespace Go.Proofs.Ytcfobifldlkfnaa.Gr
open Go.RowKit Go.Sort Qm Nm
set_option linter.unusedVariables false

theorem nvz : (#[.slice none 0 0, .int .i64 0, .slice none 0 0, .int .i64 0] : Array Value) = #[.slice none 0 0, .int .i64 0, .slice none 0 0, .int .i64 0] := rfl
set_option maxRecDepth 20000 in
set_option maxHeartbeats 2000000 in
theorem with_any (v vl : Value) (s : Nv) (l : List Int) (k : Int) (t : Bool) (w : World) (hna : s.a.length ≤ 1000) (hnb : s.b.length ≤ 1000) (hnl : l.length ≤ 1000) (sv : SeesN w v s) (sl : SeesI w vl l) :
    Calls Try.prog 30 #[v, .int .i64 (if t = true then 1 else 0), .agg #[vl, .int .i64 k]] w fun e w' => ∃ v', e = .returned v' ∧ SeesNew w.heap.size w' v' (putS s t l k) ∧ Below w.heap.size w w' := by
  obtain ⟨va, vb', rfl, sa, sb⟩ := sv
  obtain ⟨A, c, Bw, d⟩ := s
  simp only at hna hnb sa sb ⊢
  obtain ⟨ao, acap, rfl⟩ := sa.slice
  obtain ⟨bo, bcap, rfl⟩ := sb.slice
  obtain ⟨lo, lcap, rfl⟩ := sl.slice
  cases t
  --[a
  · obtain ⟨W, hW⟩ : ∃ W, ((w.alloc (.cells #[.slice lo l.length lcap, .int .i64 k, .slice bo Bw.length bcap, .int .i64 d] 25)).alloc (.cells #[.slice lo l.length lcap, .int .i64 k] 24)).alloc (.cells #[.slice none 0 0, .int .i64 0, .slice none 0 0, .int .i64 0] 27) = W := ⟨_, rfl⟩
    have bW : Below w.heap.size w W := by rw [← hW]; exact bt (bt (box_below _ _) (box_below _ _)) (box_below _ _)
    obtain ⟨hB, hS, hC⟩ := heaps3 w (.cells #[.slice lo l.length lcap, .int .i64 k, .slice bo Bw.length bcap, .int .i64 d] 25) (.cells #[.slice lo l.length lcap, .int .i64 k] 24) (.cells #[.slice none 0 0, .int .i64 0, .slice none 0 0, .int .i64 0] 27)
    rw [hW] at hB hS hC
    have hp : putS ⟨A, c, Bw, d⟩ false l k = ⟨l, k, Bw, d⟩ := rfl
    rw [hp]
    have cO := nown_any (.agg #[.slice lo l.length lcap, .int .i64 k, .slice bo Bw.length bcap, .int .i64 d]) ⟨l, k, Bw, d⟩ W hnl hnb ⟨_, _, rfl, sl.below bW, sb.below bW⟩
    obtain ⟨B, hBe⟩ : ∃ B, w.heap.size = B := ⟨_, rfl⟩
    have HBe : Hid (w.heap.size = B) := hBe
    rw [hBe] at hB hS hC bW ⊢
    obtain ⟨p1, p2, p3, p4⟩ := four_cells hB
    obtain ⟨p5, p6⟩ := two_cells hS
    have hCs := lt_of_block hC
    have HC : Hid (W.heap[B + 1 + 1]? = _) := hC
    clear hB hS hC hp sa sb sl
    go_enter Try.func30, Try.ntmps30
    go_wp2_with (go_at_call 29; go_must (refine cO.mono ?_); rintro e w2 ⟨v2, rfl, ⟨vx, vy, rfl, sx, sy, nx, ny⟩, b2⟩; obtain ⟨xo, xcap, rfl⟩ := sx.slice; obtain ⟨yo, ycap, rfl⟩ := sy.slice; have HX1 : Hid (_) := sx; have HX2 : Hid (_) := sy; have hC2 := keep b2 HC.out; obtain ⟨t1, t2, t3, t4⟩ := four_cells hC2; have f0 := not_frozen hC2 0; have f1 := not_frozen hC2 1; have f2 := not_frozen hC2 2; have f3 := not_frozen hC2 3)
    refine bodyPost_ret (results_nv Try.results30 _ _ (B + 1 + 1) _ _ _ _ _ rfl (set_all4 hC2 _ _ _ _)) rfl ?_
    obtain ⟨s1, s2⟩ := SeesNew.stored (s := ⟨l, k, Bw, d⟩) HX1.out HX2.out nx ny hCs (.slice xo l.length xcap) (.int .i64 k) (.slice yo Bw.length ycap) (.int .i64 d)
    have z2 := b2.size
    exact ⟨_, rfl, ⟨_, _, rfl, s1, s2, nx.mono (by have := bW.size; omega), ny.mono (by have := bW.size; omega)⟩, (bW.trans (b2.mono (by have := bW.size; omega))).grown (gb_all4 _ _ _ _ _ _) (by have := bW.size; omega) (fun k e => by cases e; omega)⟩
  --]a
  --[b
  · obtain ⟨W, hW⟩ : ∃ W, ((w.alloc (.cells #[.slice ao A.length acap, .int .i64 c, .slice lo l.length lcap, .int .i64 k] 25)).alloc (.cells #[.slice lo l.length lcap, .int .i64 k] 24)).alloc (.cells #[.slice none 0 0, .int .i64 0, .slice none 0 0, .int .i64 0] 27) = W := ⟨_, rfl⟩
    have bW : Below w.heap.size w W := by rw [← hW]; exact bt (bt (box_below _ _) (box_below _ _)) (box_below _ _)
    obtain ⟨hB, hS, hC⟩ := heaps3 w (.cells #[.slice ao A.length acap, .int .i64 c, .slice lo l.length lcap, .int .i64 k] 25) (.cells #[.slice lo l.length lcap, .int .i64 k] 24) (.cells #[.slice none 0 0, .int .i64 0, .slice none 0 0, .int .i64 0] 27)
    rw [hW] at hB hS hC
    have hp : putS ⟨A, c, Bw, d⟩ true l k = ⟨A, c, l, k⟩ := rfl
    rw [hp]
    have cO := nown_any (.agg #[.slice ao A.length acap, .int .i64 c, .slice lo l.length lcap, .int .i64 k]) ⟨A, c, l, k⟩ W hna hnl ⟨_, _, rfl, sa.below bW, sl.below bW⟩
    obtain ⟨B, hBe⟩ : ∃ B, w.heap.size = B := ⟨_, rfl⟩
    have HBe : Hid (w.heap.size = B) := hBe
    rw [hBe] at hB hS hC bW ⊢
    obtain ⟨p1, p2, p3, p4⟩ := four_cells hB
    obtain ⟨p5, p6⟩ := two_cells hS
    have hCs := lt_of_block hC
    have HC : Hid (W.heap[B + 1 + 1]? = _) := hC
    clear hB hS hC hp sa sb sl
    go_enter Try.func30, Try.ntmps30
    go_wp2_with (go_at_call 29; go_must (refine cO.mono ?_); rintro e w2 ⟨v2, rfl, ⟨vx, vy, rfl, sx, sy, nx, ny⟩, b2⟩; obtain ⟨xo, xcap, rfl⟩ := sx.slice; obtain ⟨yo, ycap, rfl⟩ := sy.slice; have HX1 : Hid (_) := sx; have HX2 : Hid (_) := sy; have hC2 := keep b2 HC.out; obtain ⟨t1, t2, t3, t4⟩ := four_cells hC2; have f0 := not_frozen hC2 0; have f1 := not_frozen hC2 1; have f2 := not_frozen hC2 2; have f3 := not_frozen hC2 3)
    refine bodyPost_ret (results_nv Try.results30 _ _ (B + 1 + 1) _ _ _ _ _ rfl (set_all4 hC2 _ _ _ _)) rfl ?_
    obtain ⟨s1, s2⟩ := SeesNew.stored (s := ⟨A, c, l, k⟩) HX1.out HX2.out nx ny hCs (.slice xo A.length xcap) (.int .i64 c) (.slice yo l.length ycap) (.int .i64 k)
    have z2 := b2.size
    exact ⟨_, rfl, ⟨_, _, rfl, s1, s2, nx.mono (by have := bW.size; omega), ny.mono (by have := bW.size; omega)⟩, (bW.trans (b2.mono (by have := bW.size; omega))).grown (gb_all4 _ _ _ _ _ _) (by have := bW.size; omega) (fun k e => by cases e; omega)⟩
  --]b
end Go.Proofs.Ytcfobifldlkfnaa.Gr
