/-
  A record is written: the code's Write.
-/
import Derived.Test.YtcfobifldlkfnaaNX
import Derived.Deep.RegionWith
namespace Go.Proofs.Ytcfobifldlkfnaa.Gr
open Go.RowKit Go.Sort Qm Nm
set_option linter.unusedVariables false

theorem SeesNew.mono {b b' : Nat} {w : World} {v : Value} {s : Nv} (h : SeesNew b w v s) (hb : b' ≤ b) : SeesNew b' w v s := by
  obtain ⟨va, vb, e, h1, h2, h3, h4⟩ := h
  exact ⟨va, vb, e, h1, h2, h3.mono hb, h4.mono hb⟩
set_option maxRecDepth 20000 in
set_option maxHeartbeats 2000000 in
theorem write_any (v vw' : Value) (s : Nv) (ws : List Int) (w : World) (hna : s.a.length ≤ 1000) (hnb : s.b.length ≤ 1000) (hn : ws.length ≤ 1000) (sv : SeesN w v s) (sw : SeesI w vw' ws) :
    Calls Try.prog 14 #[v, vw'] w fun e w' => ∃ v', e = .returned (.tuple #[v', .int .i64 (errS s ws)]) ∧ SeesNew w.heap.size w' v' (writeS s ws) ∧ Below w.heap.size w w' := by
  obtain ⟨va, vb', rfl, sa, sb⟩ := sv
  obtain ⟨ao, acap, rfl⟩ := sa.slice
  obtain ⟨bo, bcap, rfl⟩ := sb.slice
  obtain ⟨wo, wcap, rfl⟩ := sw.slice
  obtain ⟨W, hW⟩ : ∃ W, (w.alloc (.cells #[.slice ao s.a.length acap, .int .i64 s.c, .slice bo s.b.length bcap, .int .i64 s.d] 27)).alloc (.cells #[.slice none 0 0, .int .i64 0, .slice none 0 0, .int .i64 0] 27) = W := ⟨_, rfl⟩
  have bW : Below w.heap.size w W := by rw [← hW]; exact bt (box_below _ _) (box_below _ _)
  obtain ⟨hB, hC⟩ := heaps2 w (.cells #[.slice ao s.a.length acap, .int .i64 s.c, .slice bo s.b.length bcap, .int .i64 s.d] 27) (.cells #[.slice none 0 0, .int .i64 0, .slice none 0 0, .int .i64 0] 27)
  rw [hW] at hB hC
  have sV : ∀ u, Below W.heap.size W u → SeesN u (.agg #[.slice ao s.a.length acap, .int .i64 s.c, .slice bo s.b.length bcap, .int .i64 s.d]) s := fun u h => ⟨_, _, rfl, (sa.below bW).below h, (sb.below bW).below h⟩
  have sW := fun (u : World) (h : Below W.heap.size W u) => (sw.below bW).below h
  obtain ⟨B, hBe⟩ : ∃ B, w.heap.size = B := ⟨_, rfl⟩
  have HBe : Hid (w.heap.size = B) := hBe
  rw [hBe] at hB hC bW ⊢
  obtain ⟨p1, p2, p3, p4⟩ := four_cells hB
  have HB : Hid (W.heap[B]? = _) := hB
  have HC : Hid (W.heap[B + 1]? = _) := hC
  have hwsz : B + 1 + 1 ≤ W.heap.size := lt_of_block hC
  cases hb : bigS s ws
  · have e1 : errS s ws = 0 := by unfold errS; rw [hb]; rfl
    have e2 : writeS s ws = putS s (toS s) (recS s ws) (comS (recS s ws)) := by unfold writeS; rw [hb]; rfl
    obtain ⟨h6, _⟩ := bigS_no hb
    have hrl : (recS s ws).length ≤ 1000 := by show ws.length + 1 ≤ 1000; omega
    have cX := next_ok _ _ s ws W hna hnb (sV W (Below.refl _ _)) (sW W (Below.refl _ _)) hb
    have cM := fun (u : World) (vr : Value) (h : SeesI u vr (recS s ws)) => commit_any vr (recS s ws) u hrl h
    have cW := fun (u : World) (h : Below W.heap.size W u) (vr : Value) (sr : SeesI u vr (recS s ws)) => with_any (.agg #[.slice ao s.a.length acap, .int .i64 s.c, .slice bo s.b.length bcap, .int .i64 s.d]) vr s (recS s ws) (comS (recS s ws)) (toS s) u hna hnb hrl (sV u h) sr
    rw [e1, e2]
    generalize putS s (toS s) (recS s ws) (comS (recS s ws)) = NS at *
    generalize (if toS s = true then (1 : Int) else 0) = TT' at *
    generalize comS (recS s ws) = CM at *
    generalize recS s ws = R at *
    clear hB hC e1 e2 hb h6 sV sW sa sb sw hn
    generalize ws.length = n at *
    generalize s.a.length = na at *
    generalize s.b.length = nb at *
    --[a
    go_enter Try.func14, Try.ntmps14
    go_wp2_with (go_at_call 28; go_must (refine cX.mono ?_); rintro e w2 ⟨vr, rfl, sr, nr, b2⟩; obtain ⟨ro, rcap, rfl⟩ := sr.slice; obtain ⟨t1, t2, t3, t4⟩ := four_cells (keep b2 HB.out))
    have bd : Below W.heap.size W w2.drew := b2.drew
    have HBd := fun (u : World) (h : Below W.heap.size W u) => four_cells (keep h HB.out)
    have HCd := fun (u : World) (h : Below W.heap.size W u) => keep h HC.out
    go_region_with (first
      | (go_at_call 19; go_must (refine (cM w2.drew _ sr.drew).mono ?_); rintro e w3 ⟨rfl, b3⟩; have bb3 := bt bd b3; obtain ⟨q1, q2, q3, q4⟩ := HBd _ bb3; have sr3 := sr.drew.below b3)
      | (go_at_call 30; go_must (refine (cW _ bb3 _ sr3).mono ?_); rintro e w4 ⟨v4, rfl, s4, b4⟩; have bb4 := bt bb3 b4; obtain ⟨vx, vy, rfl, sx, sy, nx, ny⟩ := s4; obtain ⟨xo, xcap, rfl⟩ := sx.slice; obtain ⟨yo, ycap, rfl⟩ := sy.slice; have hC4 := HCd _ bb4; obtain ⟨z1, z2, z3, z4⟩ := four_cells hC4; have f0 := not_frozen hC4 0; have f1 := not_frozen hC4 1; have f2 := not_frozen hC4 2; have f3 := not_frozen hC4 3; have HX1 : Hid (_) := sx; have HX2 : Hid (_) := sy))
    all_goals (try go_wp2)
    all_goals refine bodyPost_ret (results_nv2 Try.results14 _ _ (B + 1) _ _ _ _ _ _ rfl rfl (set_all4 hC4 _ _ _ _)) rfl ?_
    all_goals
      have nxB : New (B + 1 + 1) _ := nx.mono (by have := bb3.size; omega)
      have nyB : New (B + 1 + 1) _ := ny.mono (by have := bb3.size; omega)
      obtain ⟨s1, s2⟩ := SeesNew.stored (b := B + 1 + 1) (B := B + 1) (s := NS) HX1.out HX2.out nxB nyB (by omega) (.slice xo NS.a.length xcap) (.int .i64 NS.c) (.slice yo NS.b.length ycap) (.int .i64 NS.d)
      exact ⟨_, rfl, ⟨_, _, rfl, s1, s2, nxB.mono (by omega), nyB.mono (by omega)⟩, (bW.trans (bb4.mono (by omega))).grown (gb_all4 _ _ _ _ _ _) (by have := bb4.size; omega) (fun k e => by cases e; omega)⟩
    --]a
  · have e1 : errS s ws = 5 := by unfold errS; rw [hb]; rfl
    have e2 : writeS s ws = s := by unfold writeS; rw [hb]; rfl
    have cX := next_big _ _ s ws W hna hnb hn (sV W (Below.refl _ _)) (sW W (Below.refl _ _)) hb
    have cO := fun (u : World) (h : Below W.heap.size W u) => nown_any (.agg #[.slice ao s.a.length acap, .int .i64 s.c, .slice bo s.b.length bcap, .int .i64 s.d]) s u hna hnb (sV u h)
    rw [e1, e2]
    clear hB hC e1 e2 hb sV sW sa sb sw hn
    generalize ws.length = n at *
    --[b
    go_enter Try.func14, Try.ntmps14
    go_wp2_with (first
      | (go_at_call 28; go_must (refine cX.mono ?_); rintro e w2 ⟨rfl, b2⟩; obtain ⟨t1, t2, t3, t4⟩ := four_cells (keep b2 HB.out))
      | (go_at_call 29; go_must (refine (cO _ b2).mono ?_); rintro e w4 ⟨v4, rfl, ⟨vx, vy, rfl, sx, sy, nx, ny⟩, b4⟩; have bb4 := bt b2 b4; obtain ⟨xo, xcap, rfl⟩ := sx.slice; obtain ⟨yo, ycap, rfl⟩ := sy.slice; have hC4 := keep bb4 HC.out; obtain ⟨z1, z2, z3, z4⟩ := four_cells hC4; have f0 := not_frozen hC4 0; have f1 := not_frozen hC4 1; have f2 := not_frozen hC4 2; have f3 := not_frozen hC4 3; have HX1 : Hid (_) := sx; have HX2 : Hid (_) := sy))
    refine bodyPost_ret (results_nv2 Try.results14 _ _ (B + 1) _ _ _ _ _ _ rfl rfl (set_all4 hC4 _ _ _ _)) rfl ?_
    have nxB : New (B + 1 + 1) _ := nx.mono (by have := b2.size; omega)
    have nyB : New (B + 1 + 1) _ := ny.mono (by have := b2.size; omega)
    obtain ⟨s1, s2⟩ := SeesNew.stored (b := B + 1 + 1) (B := B + 1) (s := s) HX1.out HX2.out nxB nyB (by omega) (.slice xo s.a.length xcap) (.int .i64 s.c) (.slice yo s.b.length ycap) (.int .i64 s.d)
    exact ⟨_, rfl, ⟨_, _, rfl, s1, s2, nxB.mono (by omega), nyB.mono (by omega)⟩, (bW.trans (bb4.mono (by omega))).grown (gb_all4 _ _ _ _ _ _) (by have := bb4.size; omega) (fun k e => by cases e; omega)⟩
    --]b
end Go.Proofs.Ytcfobifldlkfnaa.Gr
