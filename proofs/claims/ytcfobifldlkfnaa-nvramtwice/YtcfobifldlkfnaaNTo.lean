/-
  What a crash leaves: the code's Torn.
-/
import Derived.Test.YtcfobifldlkfnaaNWr
namespace Go.Proofs.Ytcfobifldlkfnaa.Gr
open Go.RowKit Go.Sort Qm Nm
set_option linter.unusedVariables false

theorem steps_any (v : Value) (ws : List Int) (w : World) (hn : ws.length ≤ 1000) (hs : SeesI w v ws) :
    Calls Try.prog 23 #[v] w fun e w' => e = .returned (.int .i64 (3 + (ws.length : Int))) ∧ w' = w := by
  obtain ⟨ao, cap, rfl⟩ := hs.slice
  clear hs
  generalize ws.length = n at *
  go_enter Try.func23, Try.ntmps23
  go_wp2
  go_ret
  exact ⟨rfl, rfl⟩
set_option maxRecDepth 20000 in
set_option maxHeartbeats 4000000 in
theorem torn_any (v vw' : Value) (s : Nv) (ws : List Int) (D : Int) (w : World) (hna : s.a.length ≤ 1000) (hnb : s.b.length ≤ 1000) (hn : ws.length ≤ 1000) (sv : SeesN w v s) (sw : SeesI w vw' ws) :
    Calls Try.prog 16 #[v, vw', .int .i64 D] w fun e w' => ∃ v', e = .returned (.tuple #[v', .int .i64 (errS s ws)]) ∧ SeesNew w.heap.size w' v' (tornS s ws D) ∧ Below w.heap.size w w' := by
  obtain ⟨va, vb', rfl, sa, sb⟩ := sv
  obtain ⟨ao, acap, rfl⟩ := sa.slice
  obtain ⟨bo, bcap, rfl⟩ := sb.slice
  obtain ⟨wo, wcap, rfl⟩ := sw.slice
  obtain ⟨W, hW⟩ : ∃ W, (w.alloc (.cells #[.slice ao s.a.length acap, .int .i64 s.c, .slice bo s.b.length bcap, .int .i64 s.d] 27)).alloc (.cells #[.slice none 0 0, .int .i64 0, .slice none 0 0, .int .i64 0] 27) = W := ⟨_, rfl⟩
  have bW : Below w.heap.size w W := by rw [← hW]; exact bt (box_below _ _) (box_below _ _)
  obtain ⟨hB, hC⟩ := heaps2 w (.cells #[.slice ao s.a.length acap, .int .i64 s.c, .slice bo s.b.length bcap, .int .i64 s.d] 27) (.cells #[.slice none 0 0, .int .i64 0, .slice none 0 0, .int .i64 0] 27)
  rw [hW] at hB hC
  have sV : ∀ u, Below W.heap.size W u → SeesN u (.agg #[.slice ao s.a.length acap, .int .i64 s.c, .slice bo s.b.length bcap, .int .i64 s.d]) s := fun u h => ⟨_, _, rfl, (sa.below bW).below h, (sb.below bW).below h⟩
  have sW := fun (u : World) (h : Below W.heap.size W u) => (sw.below bW).below h
  have sA := fun (u : World) (h : Below W.heap.size W u) => (sa.below bW).below h
  have sB := fun (u : World) (h : Below W.heap.size W u) => (sb.below bW).below h
  have r0 := Below.refl W.heap.size W
  have cS := steps_any _ ws W hn (sW W r0)
  have cO := fun (u : World) (h : Below W.heap.size W u) => nown_any (.agg #[.slice ao s.a.length acap, .int .i64 s.c, .slice bo s.b.length bcap, .int .i64 s.d]) s u hna hnb (sV u h)
  obtain ⟨B, hBe⟩ : ∃ B, w.heap.size = B := ⟨_, rfl⟩
  have HBe : Hid (w.heap.size = B) := hBe
  rw [hBe] at hB hC bW ⊢
  obtain ⟨p1, p2, p3, p4⟩ := four_cells hB
  have HB : Hid (W.heap[B]? = _) := hB
  have HC : Hid (W.heap[B + 1]? = _) := hC
  have hwsz : B + 1 + 1 ≤ W.heap.size := lt_of_block hC
  by_cases hD : 3 + (ws.length : Int) ≤ D
  · have dD : decide (3 + (ws.length : Int) ≤ D) = true := decide_eq_true hD
    rw [torn_write s ws D hD]
    have cW := write_any _ _ s ws W hna hnb hn (sV W r0) (sW W r0)
    generalize errS s ws = ER at *
    generalize writeS s ws = NS at *
    clear hB hC sV sW sA sB sa sb sw cO hn
    generalize ws.length = n at *
    --[a
    go_enter Try.func16, Try.ntmps16
    go_wp2_with (first
      | (go_at_call 23; go_must (refine cS.mono ?_); rintro e w2 ⟨rfl, rfl⟩)
      | (go_at_call 14; go_must (refine cW.mono ?_); rintro e w4 ⟨v4, rfl, ⟨vx, vy, rfl, sx, sy, nx, ny⟩, bb4⟩; obtain ⟨xo, xcap, rfl⟩ := sx.slice; obtain ⟨yo, ycap, rfl⟩ := sy.slice; have hC4 := keep bb4 HC.out; obtain ⟨z1, z2, z3, z4⟩ := four_cells hC4; have f0 := not_frozen hC4 0; have f1 := not_frozen hC4 1; have f2 := not_frozen hC4 2; have f3 := not_frozen hC4 3; have HX1 : Hid (_) := sx; have HX2 : Hid (_) := sy))
    refine bodyPost_ret (results_nv2 Try.results16 _ _ (B + 1) _ _ _ _ _ _ rfl rfl (set_all4 hC4 _ _ _ _)) rfl ?_
    have nxB : New (B + 1 + 1) _ := nx.mono (by omega)
    have nyB : New (B + 1 + 1) _ := ny.mono (by omega)
    obtain ⟨s1, s2⟩ := SeesNew.stored (b := B + 1 + 1) (B := B + 1) (s := NS) HX1.out HX2.out nxB nyB (by omega) (.slice xo NS.a.length xcap) (.int .i64 NS.c) (.slice yo NS.b.length ycap) (.int .i64 NS.d)
    exact ⟨_, rfl, ⟨_, _, rfl, s1, s2, nxB.mono (by omega), nyB.mono (by omega)⟩, (bW.trans (bb4.mono (by omega))).grown (gb_all4 _ _ _ _ _ _) (by have := bb4.size; omega) (fun k e => by cases e; omega)⟩
    --]a
  · have dD : decide (3 + (ws.length : Int) ≤ D) = false := decide_eq_false hD
    have hD' : D < 3 + (ws.length : Int) := by omega
    cases hb : bigS s ws
    · have e1 : errS s ws = 0 := by unfold errS; rw [hb]; rfl
      have cX := next_ok _ _ s ws W hna hnb (sV W r0) (sW W r0) hb
      obtain ⟨h6, _⟩ := bigS_no hb
      rw [e1]
      by_cases hD0 : D ≤ 0
      · rw [torn_zero s ws hD0]
        have d0 : decide (D ≤ 0) = true := decide_eq_true hD0
        clear hB hC sV sW sA sB sa sb sw hn hb e1 h6
        generalize ws.length = n at *
        generalize (if toS s = true then (1 : Int) else 0) = TT' at *
        generalize recS s ws = R at *
        --[b
        go_enter Try.func16, Try.ntmps16
        go_wp2_with (first
          | (go_at_call 23; go_must (refine cS.mono ?_); rintro e w2 ⟨rfl, rfl⟩)
          | (go_at_call 28; go_must (refine cX.mono ?_); rintro e w2 ⟨vr, rfl, sr, nr, b2⟩; obtain ⟨ro, rcap, rfl⟩ := sr.slice; obtain ⟨t1, t2, t3, t4⟩ := four_cells (keep b2 HB.out); have hz2 : B < w2.heap.size := lt_of_block (keep b2 HB.out))
          | (go_at_call 29; go_must (refine (cO _ b2).mono ?_); rintro e w4 ⟨v4, rfl, ⟨vx, vy, rfl, sx, sy, nx, ny⟩, b4⟩; have bb4 := bt b2 b4; obtain ⟨xo, xcap, rfl⟩ := sx.slice; obtain ⟨yo, ycap, rfl⟩ := sy.slice; have hC4 := keep bb4 HC.out; obtain ⟨z1, z2, z3, z4⟩ := four_cells hC4; have f0 := not_frozen hC4 0; have f1 := not_frozen hC4 1; have f2 := not_frozen hC4 2; have f3 := not_frozen hC4 3; have HX1 : Hid (_) := sx; have HX2 : Hid (_) := sy))
        refine bodyPost_ret (results_nv2 Try.results16 _ _ (B + 1) _ _ _ _ _ _ rfl rfl (set_all4 hC4 _ _ _ _)) rfl ?_
        have nxB : New (B + 1 + 1) _ := nx.mono (by have := b2.size; omega)
        have nyB : New (B + 1 + 1) _ := ny.mono (by have := b2.size; omega)
        obtain ⟨s1, s2⟩ := SeesNew.stored (b := B + 1 + 1) (B := B + 1) (s := s) HX1.out HX2.out nxB nyB (by omega) (.slice xo s.a.length xcap) (.int .i64 s.c) (.slice yo s.b.length ycap) (.int .i64 s.d)
        exact ⟨_, rfl, ⟨_, _, rfl, s1, s2, nxB.mono (by omega), nyB.mono (by omega)⟩, (bW.trans (bb4.mono (by omega))).grown (gb_all4 _ _ _ _ _ _) (by have := bb4.size; omega) (fun k e => by cases e; omega)⟩
        --]b
      · have d0 : decide (D ≤ 0) = false := decide_eq_false hD0
        have hrl : (recS s ws).length = ws.length + 1 := rfl
        have cW := fun (u : World) (h : Below W.heap.size W u) (l : List Int) (hl : l.length ≤ 1000) (vl : Value) (sl : SeesI u vl l) => with_any (.agg #[.slice ao s.a.length acap, .int .i64 s.c, .slice bo s.b.length bcap, .int .i64 s.d]) vl s l 0 (toS s) u hna hnb hl (sV u h) sl
        by_cases hD1 : D = 1
        · subst hD1
          have eT : tornS s ws 1 = putS s (toS s) (oldS s) 0 := by unfold tornS; rw [hb]; simp
          rw [eT]
          have hTO : toS s = true ∧ oldS s = s.b ∨ toS s = false ∧ oldS s = s.a := by
            unfold toS oldS
            by_cases h : plc s = 0
            · left; simp [h]
            · right; simp [h]
          rcases hTO with ⟨eA, eB⟩ | ⟨eA, eB⟩
          · rw [eA] at cX cW ⊢
            rw [eB]
            have eI : (if true = true then (1 : Int) else 0) = 1 := rfl
            rw [eI] at cX cW
            have cW' := fun (u : World) (h : Below W.heap.size W u) => cW u h s.b hnb _ (sB u h)
            generalize putS s true s.b 0 = NS at *
            clear hB hC sV sW sA sB sa sb sw hn hb e1 h6 eA eB eI cW hrl eT cO
            generalize ws.length = n at *
            generalize recS s ws = R at *
            --[c
            go_enter Try.func16, Try.ntmps16
            go_wp2_with (first
              | (go_at_call 23; go_must (refine cS.mono ?_); rintro e w2 ⟨rfl, rfl⟩)
              | (go_at_call 28; go_must (refine cX.mono ?_); rintro e w2 ⟨vr, rfl, sr, nr, b2⟩; obtain ⟨ro, rcap, rfl⟩ := sr.slice; obtain ⟨t1, t2, t3, t4⟩ := four_cells (keep b2 HB.out); have hz2 : B < w2.heap.size := lt_of_block (keep b2 HB.out))
              | (go_at_call 30; have bz := bt b2 (box_below w2 (.cells #[.slice bo s.b.length bcap, .int .i64 0] 24)); go_must (refine (cW' _ bz).mono ?_); rintro e w4 ⟨v4, rfl, ⟨vx, vy, rfl, sx, sy, nx, ny⟩, b4⟩; have bb4 := bt bz b4; obtain ⟨xo, xcap, rfl⟩ := sx.slice; obtain ⟨yo, ycap, rfl⟩ := sy.slice; have hC4 := keep bb4 HC.out; obtain ⟨z1, z2, z3, z4⟩ := four_cells hC4; have f0 := not_frozen hC4 0; have f1 := not_frozen hC4 1; have f2 := not_frozen hC4 2; have f3 := not_frozen hC4 3; have HX1 : Hid (_) := sx; have HX2 : Hid (_) := sy))
            refine bodyPost_ret (results_nv2 Try.results16 _ _ (B + 1) _ _ _ _ _ _ rfl rfl (set_all4 hC4 _ _ _ _)) rfl ?_
            have nxB : New (B + 1 + 1) _ := nx.mono (by have := bz.size; omega)
            have nyB : New (B + 1 + 1) _ := ny.mono (by have := bz.size; omega)
            obtain ⟨s1, s2⟩ := SeesNew.stored (b := B + 1 + 1) (B := B + 1) (s := NS) HX1.out HX2.out nxB nyB (by omega) (.slice xo NS.a.length xcap) (.int .i64 NS.c) (.slice yo NS.b.length ycap) (.int .i64 NS.d)
            exact ⟨_, rfl, ⟨_, _, rfl, s1, s2, nxB.mono (by omega), nyB.mono (by omega)⟩, (bW.trans (bb4.mono (by omega))).grown (gb_all4 _ _ _ _ _ _) (by have := bb4.size; omega) (fun k e => by cases e; omega)⟩
            --]c
          · rw [eA] at cX cW ⊢
            rw [eB]
            have eI : (if false = true then (1 : Int) else 0) = 0 := rfl
            rw [eI] at cX cW
            have cW' := fun (u : World) (h : Below W.heap.size W u) => cW u h s.a hna _ (sA u h)
            generalize putS s false s.a 0 = NS at *
            clear hB hC sV sW sA sB sa sb sw hn hb e1 h6 eA eB eI cW hrl eT cO
            generalize ws.length = n at *
            generalize recS s ws = R at *
            --[d
            go_enter Try.func16, Try.ntmps16
            go_wp2_with (first
              | (go_at_call 23; go_must (refine cS.mono ?_); rintro e w2 ⟨rfl, rfl⟩)
              | (go_at_call 28; go_must (refine cX.mono ?_); rintro e w2 ⟨vr, rfl, sr, nr, b2⟩; obtain ⟨ro, rcap, rfl⟩ := sr.slice; obtain ⟨t1, t2, t3, t4⟩ := four_cells (keep b2 HB.out); have hz2 : B < w2.heap.size := lt_of_block (keep b2 HB.out))
              | (go_at_call 30; have bz := bt b2 (box_below w2 (.cells #[.slice ao s.a.length acap, .int .i64 0] 24)); go_must (refine (cW' _ bz).mono ?_); rintro e w4 ⟨v4, rfl, ⟨vx, vy, rfl, sx, sy, nx, ny⟩, b4⟩; have bb4 := bt bz b4; obtain ⟨xo, xcap, rfl⟩ := sx.slice; obtain ⟨yo, ycap, rfl⟩ := sy.slice; have hC4 := keep bb4 HC.out; obtain ⟨z1, z2, z3, z4⟩ := four_cells hC4; have f0 := not_frozen hC4 0; have f1 := not_frozen hC4 1; have f2 := not_frozen hC4 2; have f3 := not_frozen hC4 3; have HX1 : Hid (_) := sx; have HX2 : Hid (_) := sy))
            refine bodyPost_ret (results_nv2 Try.results16 _ _ (B + 1) _ _ _ _ _ _ rfl rfl (set_all4 hC4 _ _ _ _)) rfl ?_
            have nxB : New (B + 1 + 1) _ := nx.mono (by have := bz.size; omega)
            have nyB : New (B + 1 + 1) _ := ny.mono (by have := bz.size; omega)
            obtain ⟨s1, s2⟩ := SeesNew.stored (b := B + 1 + 1) (B := B + 1) (s := NS) HX1.out HX2.out nxB nyB (by omega) (.slice xo NS.a.length xcap) (.int .i64 NS.c) (.slice yo NS.b.length ycap) (.int .i64 NS.d)
            exact ⟨_, rfl, ⟨_, _, rfl, s1, s2, nxB.mono (by omega), nyB.mono (by omega)⟩, (bW.trans (bb4.mono (by omega))).grown (gb_all4 _ _ _ _ _ _) (by have := bb4.size; omega) (fun k e => by cases e; omega)⟩
            --]d
        · obtain ⟨m, hm⟩ : ∃ m : Nat, D = (m : Int) + 1 := ⟨(D - 1).toNat, by omega⟩
          subst hm
          have eT : tornS s ws ((m : Int) + 1) = putS s (toS s) ((recS s ws).take m) 0 := by
            unfold tornS
            rw [hb, if_neg (by simp), if_neg hD0, if_neg hD1, if_pos hD']
            have : ((m : Int) + 1 - 1).toNat = m := by omega
            rw [this]
          rw [eT]
          have hm1 : 1 ≤ m := by omega
          have hmr : m ≤ (recS s ws).length := by rw [hrl]; omega
          have d1 : decide ((1 : Int) < (m : Int) + 1) = true := decide_eq_true (by omega)
          have hTL : ((recS s ws).take m).length ≤ 1000 := by rw [List.length_take]; omega
          have cW' := fun (u : World) (h : Below W.heap.size W u) (ro : Option Addr) (rcap : Nat) (sr : SeesI u (.slice ro (recS s ws).length rcap) (recS s ws)) => cW u h ((recS s ws).take m) hTL (.slice ro m rcap) (sr.take hmr)
          have eLn : ((m : Int) + 1 - 1).toNat = m := by omega
          have em1 : (m : Int) + 1 - 1 = (m : Int) := by omega
          generalize putS s (toS s) ((recS s ws).take m) 0 = NS at *
          have hTT : (if toS s = true then (1 : Int) else 0) = 1 ∨ (if toS s = true then (1 : Int) else 0) = 0 := by cases toS s <;> simp
          generalize (if toS s = true then (1 : Int) else 0) = TT' at *
          generalize recS s ws = R at *
          clear hB hC sV sW sA sB sa sb sw hn hb e1 cW eT cO hTL
          generalize ws.length = n at *
          obtain ⟨M, hM⟩ : ∃ M, R.length = M := ⟨_, rfl⟩
          have HM : Hid (R.length = M) := hM
          rw [hM] at hmr cW' hrl
          subst hrl
          clear hM
          rcases hTT with rfl | rfl
          --[e
          · go_enter Try.func16, Try.ntmps16
            go_wp2_with (first
              | (go_at_call 23; go_must (refine cS.mono ?_); rintro e w2 ⟨rfl, rfl⟩)
              | (go_at_call 28; go_must (refine cX.mono ?_); rintro e w2 ⟨vr, rfl, sr, nr, b2⟩; obtain ⟨ro, rcap, rfl⟩ := sr.slice; rw [HM.out] at sr ⊢; have hrc := sr.le.1; rw [HM.out] at hrc; have hrc2 : (m : Int) ≤ (rcap : Int) := (by omega); obtain ⟨t1, t2, t3, t4⟩ := four_cells (keep b2 HB.out); have hz2 : B < w2.heap.size := lt_of_block (keep b2 HB.out))
              | (go_at_call 30; have bz := bt b2 (box_below w2 (.cells #[.slice ro m rcap, .int .i64 0] 24)); go_must (refine (cW' _ bz _ _ (by rw [← HM.out] at sr; rw [← HM.out]; exact sr.below (box_below _ _))).mono ?_); rintro e w4 ⟨v4, rfl, ⟨vx, vy, rfl, sx, sy, nx, ny⟩, b4⟩; have bb4 := bt bz b4; obtain ⟨xo, xcap, rfl⟩ := sx.slice; obtain ⟨yo, ycap, rfl⟩ := sy.slice; have hC4 := keep bb4 HC.out; obtain ⟨z1, z2, z3, z4⟩ := four_cells hC4; have f0 := not_frozen hC4 0; have f1 := not_frozen hC4 1; have f2 := not_frozen hC4 2; have f3 := not_frozen hC4 3; have HX1 : Hid (_) := sx; have HX2 : Hid (_) := sy))
            refine bodyPost_ret (results_nv2 Try.results16 _ _ (B + 1) _ _ _ _ _ _ rfl rfl (set_all4 hC4 _ _ _ _)) rfl ?_
            have nxB : New (B + 1 + 1) _ := nx.mono (by have := bz.size; omega)
            have nyB : New (B + 1 + 1) _ := ny.mono (by have := bz.size; omega)
            obtain ⟨s1, s2⟩ := SeesNew.stored (b := B + 1 + 1) (B := B + 1) (s := NS) HX1.out HX2.out nxB nyB (by omega) (.slice xo NS.a.length xcap) (.int .i64 NS.c) (.slice yo NS.b.length ycap) (.int .i64 NS.d)
            exact ⟨_, rfl, ⟨_, _, rfl, s1, s2, nxB.mono (by omega), nyB.mono (by omega)⟩, (bW.trans (bb4.mono (by omega))).grown (gb_all4 _ _ _ _ _ _) (by have := bb4.size; omega) (fun k e => by cases e; omega)⟩
          --]e
          --[f
          · go_enter Try.func16, Try.ntmps16
            go_wp2_with (first
              | (go_at_call 23; go_must (refine cS.mono ?_); rintro e w2 ⟨rfl, rfl⟩)
              | (go_at_call 28; go_must (refine cX.mono ?_); rintro e w2 ⟨vr, rfl, sr, nr, b2⟩; obtain ⟨ro, rcap, rfl⟩ := sr.slice; rw [HM.out] at sr ⊢; have hrc := sr.le.1; rw [HM.out] at hrc; have hrc2 : (m : Int) ≤ (rcap : Int) := (by omega); obtain ⟨t1, t2, t3, t4⟩ := four_cells (keep b2 HB.out); have hz2 : B < w2.heap.size := lt_of_block (keep b2 HB.out))
              | (go_at_call 30; have bz := bt b2 (box_below w2 (.cells #[.slice ro m rcap, .int .i64 0] 24)); go_must (refine (cW' _ bz _ _ (by rw [← HM.out] at sr; rw [← HM.out]; exact sr.below (box_below _ _))).mono ?_); rintro e w4 ⟨v4, rfl, ⟨vx, vy, rfl, sx, sy, nx, ny⟩, b4⟩; have bb4 := bt bz b4; obtain ⟨xo, xcap, rfl⟩ := sx.slice; obtain ⟨yo, ycap, rfl⟩ := sy.slice; have hC4 := keep bb4 HC.out; obtain ⟨z1, z2, z3, z4⟩ := four_cells hC4; have f0 := not_frozen hC4 0; have f1 := not_frozen hC4 1; have f2 := not_frozen hC4 2; have f3 := not_frozen hC4 3; have HX1 : Hid (_) := sx; have HX2 : Hid (_) := sy))
            refine bodyPost_ret (results_nv2 Try.results16 _ _ (B + 1) _ _ _ _ _ _ rfl rfl (set_all4 hC4 _ _ _ _)) rfl ?_
            have nxB : New (B + 1 + 1) _ := nx.mono (by have := bz.size; omega)
            have nyB : New (B + 1 + 1) _ := ny.mono (by have := bz.size; omega)
            obtain ⟨s1, s2⟩ := SeesNew.stored (b := B + 1 + 1) (B := B + 1) (s := NS) HX1.out HX2.out nxB nyB (by omega) (.slice xo NS.a.length xcap) (.int .i64 NS.c) (.slice yo NS.b.length ycap) (.int .i64 NS.d)
            exact ⟨_, rfl, ⟨_, _, rfl, s1, s2, nxB.mono (by omega), nyB.mono (by omega)⟩, (bW.trans (bb4.mono (by omega))).grown (gb_all4 _ _ _ _ _ _) (by have := bb4.size; omega) (fun k e => by cases e; omega)⟩
          --]f
    · have e1 : errS s ws = 5 := by unfold errS; rw [hb]; rfl
      rw [e1, torn_big hb D]
      have cX := next_big _ _ s ws W hna hnb hn (sV W r0) (sW W r0) hb
      clear hB hC sV sW sA sB sa sb sw hn hb e1
      generalize ws.length = n at *
      --[g
      go_enter Try.func16, Try.ntmps16
      go_wp2_with (first
        | (go_at_call 23; go_must (refine cS.mono ?_); rintro e w2 ⟨rfl, rfl⟩)
        | (go_at_call 28; go_must (refine cX.mono ?_); rintro e w2 ⟨rfl, b2⟩; obtain ⟨t1, t2, t3, t4⟩ := four_cells (keep b2 HB.out); have hz2 : B < w2.heap.size := lt_of_block (keep b2 HB.out))
        | (go_at_call 29; go_must (refine (cO _ b2).mono ?_); rintro e w4 ⟨v4, rfl, ⟨vx, vy, rfl, sx, sy, nx, ny⟩, b4⟩; have bb4 := bt b2 b4; obtain ⟨xo, xcap, rfl⟩ := sx.slice; obtain ⟨yo, ycap, rfl⟩ := sy.slice; have hC4 := keep bb4 HC.out; obtain ⟨z1, z2, z3, z4⟩ := four_cells hC4; have f0 := not_frozen hC4 0; have f1 := not_frozen hC4 1; have f2 := not_frozen hC4 2; have f3 := not_frozen hC4 3; have HX1 : Hid (_) := sx; have HX2 : Hid (_) := sy))
      refine bodyPost_ret (results_nv2 Try.results16 _ _ (B + 1) _ _ _ _ _ _ rfl rfl (set_all4 hC4 _ _ _ _)) rfl ?_
      have nxB : New (B + 1 + 1) _ := nx.mono (by have := b2.size; omega)
      have nyB : New (B + 1 + 1) _ := ny.mono (by have := b2.size; omega)
      obtain ⟨s1, s2⟩ := SeesNew.stored (b := B + 1 + 1) (B := B + 1) (s := s) HX1.out HX2.out nxB nyB (by omega) (.slice xo s.a.length xcap) (.int .i64 s.c) (.slice yo s.b.length ycap) (.int .i64 s.d)
      exact ⟨_, rfl, ⟨_, _, rfl, s1, s2, nxB.mono (by omega), nyB.mono (by omega)⟩, (bW.trans (bb4.mono (by omega))).grown (gb_all4 _ _ _ _ _ _) (by have := bb4.size; omega) (fun k e => by cases e; omega)⟩
      --]g
end Go.Proofs.Ytcfobifldlkfnaa.Gr
