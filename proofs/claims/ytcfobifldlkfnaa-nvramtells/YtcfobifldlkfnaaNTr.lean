/-
  What a crash leaves: the document's Torn.
-/
import Derived.Test.YtcfobifldlkfnaaNNr2
import Derived.Test.YtcfobifldlkfnaaNO
namespace Go.Proofs.Ytcfobifldlkfnaa.Gr
open Go.RowKit Go.Sort Qm Nm
set_option linter.unusedVariables false

theorem own_one64 (w : World) (x : Int) (z : Nat) (h : z = w.heap.size) : (w.alloc (.cells #[.int .i64 x] 2)).ownsRow z 2 1 (.slice (some ⟨z, 0, none⟩) 1 1) 1 [vw x] := by
  subst h
  exact ⟨rfl, .inr ⟨_, 1, #[vw x], rfl, Nat.le_refl _, heap_new _ _, Nat.le_refl _, by unfold maxLen; omega, rfl, rfl⟩⟩
theorem set_two0 {w : World} {b : Nat} {x y : Value} {t : TypeId} (h : w.heap[b]? = some (.cells #[x, y] t (0, 0))) (v : Value) : (w.setCell ⟨b, 0, none⟩ v).heap[b]? = some (.cells #[v, y] t (0, 0)) := heap_setCell_same w b 0 _ t v h
theorem set_two1 {w : World} {b : Nat} {x y : Value} {t : TypeId} (h : w.heap[b]? = some (.cells #[x, y] t (0, 0))) (v : Value) : (w.setCell ⟨b, 1, none⟩ v).heap[b]? = some (.cells #[x, v] t (0, 0)) := heap_setCell_same w b 1 _ t v h
theorem below_set {B b k : Nat} {w u : World} {v : Value} (h : Below B w u) (hb : B ≤ b) (hs : B ≤ u.heap.size) : Below B w (u.setCell ⟨b, k, none⟩ v) := h.grown (gb_setC u b k v) hs (fun j e => by cases e; exact hb)
set_option maxRecDepth 20000 in
set_option maxHeartbeats 4000000 in
theorem rtorn_any (va vb' vw' : Value) (s : Nv) (ws : List Int) (D : Int) (w : World) (hna : s.a.length ≤ 1000) (hnb : s.b.length ≤ 1000) (hn : ws.length ≤ 1000) (sa : SeesI w va s.a) (sb : SeesI w vb' s.b) (sw : SeesI w vw' ws) :
    Calls Try.prog 17 #[.agg #[va, .int .i64 s.c, vb', .int .i64 s.d], vw', .int .i64 D] w fun e w' => ∃ x y, e = .returned (.tuple #[.agg #[x, .int .i64 (tornS s ws D).c, y, .int .i64 (tornS s ws D).d], .int .i64 (errS s ws)]) ∧ SeesI w' x (tornS s ws D).a ∧ SeesI w' y (tornS s ws D).b ∧ (x = va ∨ New w.heap.size x) ∧ (y = vb' ∨ New w.heap.size y) ∧ Below w.heap.size w w' := by
  obtain ⟨ao, acap, rfl⟩ := sa.slice
  obtain ⟨bo, bcap, rfl⟩ := sb.slice
  obtain ⟨wo, wcap, rfl⟩ := sw.slice
  obtain ⟨W, hW⟩ : ∃ W, (w.alloc (.cells #[.slice ao s.a.length acap, .int .i64 s.c, .slice bo s.b.length bcap, .int .i64 s.d] 27)).alloc (.cells #[.slice none 0 0, .int .i64 0, .slice none 0 0, .int .i64 0] 27) = W := ⟨_, rfl⟩
  have bW : Below w.heap.size w W := by rw [← hW]; exact bt (box_below _ _) (box_below _ _)
  obtain ⟨hB, hC⟩ := heaps2 w (.cells #[.slice ao s.a.length acap, .int .i64 s.c, .slice bo s.b.length bcap, .int .i64 s.d] 27) (.cells #[.slice none 0 0, .int .i64 0, .slice none 0 0, .int .i64 0] 27)
  rw [hW] at hB hC
  have sA : Hid (∀ u, Below w.heap.size w u → SeesI u (.slice ao s.a.length acap) s.a) := fun (u : World) h => sa.below h
  have sB : Hid (∀ u, Below w.heap.size w u → SeesI u (.slice bo s.b.length bcap) s.b) := fun (u : World) h => sb.below h
  have sW : Hid (∀ u, Below w.heap.size w u → SeesI u (.slice wo ws.length wcap) ws) := fun (u : World) h => sw.below h
  have cN := rnewest_any (.slice ao s.a.length acap) (.slice bo s.b.length bcap) s W hna hnb (sa.below bW) (sb.below bW)
  have saW := sa.below bW
  have sbW := sb.below bW
  obtain ⟨B, hBe⟩ : ∃ B, w.heap.size = B := ⟨_, rfl⟩
  have HBe : Hid (w.heap.size = B) := hBe
  rw [hBe] at hB hC bW sA sB sW ⊢
  obtain ⟨p1, p2, p3, p4⟩ := four_cells hB
  have HB : Hid (W.heap[B]? = _) := hB
  have HC : Hid (W.heap[B + 1]? = _) := hC
  have hwsz : B + 1 + 1 ≤ W.heap.size := lt_of_block hC
  clear hB hC sa sb sw
  have hnr := numS_range s
  have hbg := @bigS_iff s ws
  rcases plc_cases s with h0 | h0 | h0
  · have hN : numS s = 0 := by unfold numS; rw [h0]; simp
    have e4 : (if (-1 : Int) = -1 then (2 : Int) else -1) = 2 := rfl
    have hT : toS s = false := by unfold toS; rw [h0]; rfl
    have hO : oldS s = s.a := by unfold oldS; rw [h0]; rfl
    rw [h0, e4] at cN
    clear saW sbW
    by_cases h6 : 600 < ws.length
    · have hbig : bigS s ws = true := hbg.2 (.inl h6)
      have e1 : errS s ws = 5 := by unfold errS; rw [hbig]; rfl
      rw [e1, torn_big hbig D]
      have d6 : decide ((600 : Int) < (ws.length : Int)) = true := decide_eq_true (by omega)
      clear hbig e1 hbg hN h0 e4 hT hO
      generalize ws.length = n at *
      --[pn1
      go_enter Try.func17, Try.ntmps17
      go_wp2_with (go_at_call 27; go_must (refine cN.mono ?_); rintro e w2 ⟨rfl, b2⟩; have hB2 := keep b2 HB.out; have hC2 := keep b2 HC.out; obtain ⟨t1, t2, t3, t4⟩ := four_cells hB2; obtain ⟨y1, y2, y3, y4⟩ := four_cells hC2; have f0 := not_frozen hC2 0; have f1 := not_frozen hC2 1; have f2 := not_frozen hC2 2; have f3 := not_frozen hC2 3; have z2 : B + 1 < w2.heap.size := lt_of_block hC2; have z3 : B < w2.heap.size := lt_of_block hB2; have bb2 : Below B w w2 := bW.trans (b2.mono (by omega)); have HB2 : Hid (_) := hB2; have HC2 : Hid (_) := hC2; clear hB2 hC2)
      refine bodyPost_ret (results_nv2 Try.results17 _ _ (B + 1) _ _ _ _ _ _ rfl rfl (set_all4 (HC2.out) _ _ _ _)) rfl ?_
      have hg := gb_all4 w2 (B + 1) (.slice ao s.a.length acap) (.int .i64 s.c) (.slice bo s.b.length bcap) (.int .i64 s.d)
      have hfin := bb2.grown hg (by omega) (fun k e => by cases e; omega)
      exact ⟨_, _, rfl, sA.out _ hfin, sB.out _ hfin, .inl rfl, .inl rfl, hfin⟩
      --]pn1
    · have d6 : decide ((600 : Int) < (ws.length : Int)) = false := decide_eq_false (by omega)
      have h6' : (ws.length : Int) ≤ 600 := by omega
      have hbig : bigS s ws = false := by cases h : bigS s ws with | false => rfl | true => exact (hbg.1 h).elim (fun h => absurd h h6) (fun h => absurd (hN.symm.trans h) (by omega))
      have e1 : errS s ws = 0 := by unfold errS; rw [hbig]; rfl
      rw [e1]
      by_cases hD0 : D ≤ 0
      · rw [torn_zero s ws hD0]
        have d0 : decide (D ≤ 0) = true := decide_eq_true hD0
        clear hbig e1 hbg hN h0 e4 hT hO
        generalize ws.length = n at *
        --[pn3
        go_enter Try.func17, Try.ntmps17
        go_wp2_with (go_at_call 27; go_must (refine cN.mono ?_); rintro e w2 ⟨rfl, b2⟩; have hB2 := keep b2 HB.out; have hC2 := keep b2 HC.out; obtain ⟨t1, t2, t3, t4⟩ := four_cells hB2; obtain ⟨y1, y2, y3, y4⟩ := four_cells hC2; have f0 := not_frozen hC2 0; have f1 := not_frozen hC2 1; have f2 := not_frozen hC2 2; have f3 := not_frozen hC2 3; have z2 : B + 1 < w2.heap.size := lt_of_block hC2; have z3 : B < w2.heap.size := lt_of_block hB2; have bb2 : Below B w w2 := bW.trans (b2.mono (by omega)); have HB2 : Hid (_) := hB2; have HC2 : Hid (_) := hC2; clear hB2 hC2)
        refine bodyPost_ret (results_nv2 Try.results17 _ _ (B + 1) _ _ _ _ _ _ rfl rfl (set_all4 (HC2.out) _ _ _ _)) rfl ?_
        have hg := gb_all4 w2 (B + 1) (.slice ao s.a.length acap) (.int .i64 s.c) (.slice bo s.b.length bcap) (.int .i64 s.d)
        have hfin := bb2.grown hg (by omega) (fun k e => by cases e; omega)
        exact ⟨_, _, rfl, sA.out _ hfin, sB.out _ hfin, .inl rfl, .inl rfl, hfin⟩
        --]pn3
      · have d0 : decide (D ≤ 0) = false := decide_eq_false hD0
        by_cases hD1 : D = 1
        · subst hD1
          have eT : tornS s ws 1 = ⟨s.a, 0, s.b, s.d⟩ := by unfold tornS; rw [hbig, hT, hO]; simp [putS]
          rw [eT]
          clear hbig e1 hbg hN h0 e4 hT hO eT
          generalize ws.length = n at *
          --[pn4
          go_enter Try.func17, Try.ntmps17
          go_wp2_with (go_at_call 27; go_must (refine cN.mono ?_); rintro e w2 ⟨rfl, b2⟩; have hB2 := keep b2 HB.out; have hC2 := keep b2 HC.out; obtain ⟨t1, t2, t3, t4⟩ := four_cells hB2; obtain ⟨y1, y2, y3, y4⟩ := four_cells hC2; have f0 := not_frozen hC2 0; have f1 := not_frozen hC2 1; have f2 := not_frozen hC2 2; have f3 := not_frozen hC2 3; have z2 : B + 1 < w2.heap.size := lt_of_block hC2; have z3 : B < w2.heap.size := lt_of_block hB2; have bb2 : Below B w w2 := bW.trans (b2.mono (by omega)); have HB2 : Hid (_) := hB2; have HC2 : Hid (_) := hC2; clear hB2 hC2)
          refine bodyPost_ret (results_nv2 Try.results17 _ _ (B + 1) _ _ _ _ _ _ rfl rfl (heap_old (heap_old (set_all4 HC2.out _ _ _ _) _) _)) rfl ?_
          have hg := gb_all4 w2 (B + 1) (.slice ao s.a.length acap) (.int .i64 0) (.slice bo s.b.length bcap) (.int .i64 s.d)
          have hz := hg.size
          have hfin := ((bb2.grown hg (by omega) (fun k e => by cases e; omega)).alloc (by omega) (.cells #[.slice ao s.a.length acap, .int .i64 0] 24)).alloc (by simp; omega) (.cells #[.slice ao s.a.length acap, .int .i64 0, .slice bo s.b.length bcap, .int .i64 s.d] 27)
          exact ⟨_, _, rfl, sA.out _ hfin, sB.out _ hfin, .inl rfl, .inl rfl, hfin⟩
          --]pn4
        · have d1 : decide ((1 : Int) < D) = true := decide_eq_true (by omega)
          have hrec : recS s ws = 1 :: ws := by unfold recS; rw [hN]; rfl
          have hrl : (recS s ws).length = ws.length + 1 := rfl
          have HRW : Hid (([1] ++ ws).map vw = (recS s ws).map vw) := by unfold Hid; rw [hrec]; rfl
          clear hrec
          have hrl3 : Hid (1 + ws.length = ws.length + 1) := Nat.add_comm _ _
          by_cases hD3 : D < 3 + (ws.length : Int)
          · obtain ⟨m, hm⟩ : ∃ m : Nat, D = (m : Int) + 1 := ⟨(D - 1).toNat, by omega⟩
            subst hm
            have eT : tornS s ws ((m : Int) + 1) = ⟨(recS s ws).take m, 0, s.b, s.d⟩ := by
              unfold tornS
              rw [hbig, if_neg (by simp), if_neg hD0, if_neg hD1, if_pos hD3, hT]
              have : ((m : Int) + 1 - 1).toNat = m := by omega
              rw [this]
              rfl
            rw [eT]
            have d3 : decide ((m : Int) + 1 < 3 + (ws.length : Int)) = true := decide_eq_true hD3
            have hm1 : 1 ≤ m := by omega
            have hmr : m ≤ (recS s ws).length := by rw [hrl]; omega
            clear hbig e1 hbg hN h0 e4 hT hO eT
            generalize recS s ws = R at *
            have hn600 : ws.length ≤ 600 := by omega
            generalize hn9 : ws.length = n at *
            have HNL : Hid (ws.length = n) := hn9
            clear hn9
            --[pn5
            go_enter Try.func17, Try.ntmps17
            go_upto_region 18 with (first
              | (go_at_call 27; go_must (refine cN.mono ?_); rintro e w2 ⟨rfl, b2⟩; have hB2 := keep b2 HB.out; have hC2 := keep b2 HC.out; obtain ⟨t1, t2, t3, t4⟩ := four_cells hB2; obtain ⟨y1, y2, y3, y4⟩ := four_cells hC2; have f0 := not_frozen hC2 0; have f1 := not_frozen hC2 1; have f2 := not_frozen hC2 2; have f3 := not_frozen hC2 3; have z2 : B + 1 < w2.heap.size := lt_of_block hC2; have z3 : B < w2.heap.size := lt_of_block hB2; have bb2 : Below B w w2 := bW.trans (b2.mono (by omega)); have HB2 : Hid (_) := hB2; have HC2 : Hid (_) := hC2; clear hB2 hC2)
              | (at_builtin; go_must (refine app64 rfl _ _ rfl (w2.heap.size + 1) (.slice (some ⟨w2.heap.size + 1, 0, none⟩) 1 1) 1 [vw (1)] rfl (own_one64 (w2.alloc (.cells #[.slice ao s.a.length acap, .int .i64 0] 24)) (1) (w2.heap.size + 1) (by simp)) (by simp) _ ws rfl (sW.out _ ((bb2.alloc (by omega) _).alloc (by simp; omega) _)) (by rw [HNL.out]; omega) ?_); intro v3 w3 ho3 hg3; have hg3' : World.grownBy ((w2.alloc (.cells #[.slice ao s.a.length acap, .int .i64 0] 24)).alloc (.cells #[.int .i64 (1)] 2)) w3 (some (w2.heap.size + 1)) := hg3; have hS3 : w3.heap[w2.heap.size]? = some (.cells #[.slice ao s.a.length acap, .int .i64 0] 24 (0, 0)) := (hg3'.block _ (by simp; omega) (by simp)).trans (heap_old (heap_new w2 (.cells #[.slice ao s.a.length acap, .int .i64 0] 24)) _); have bq3 : Below w2.heap.size w2 w3 := ((box_below w2 (.cells #[.slice ao s.a.length acap, .int .i64 0] 24)).alloc (by simp) (.cells #[.int .i64 (1)] 2)).grown hg3' (by simp; omega) (fun k e => by cases e; simp); rw [HNL.out] at ho3; obtain ⟨g3, c3, rfl⟩ := own_slice ho3 (by omega); have s3 : SeesI w3 (.slice (some ⟨g3, 0, none⟩) (1 + n) c3) R := (by have h : Row w3 (.slice (some ⟨g3, 0, none⟩) (1 + n) c3) (([1] ++ ws).map vw) := Row.own ho3; rw [HRW.out] at h; exact h); have n3 : New (w2.heap.size + 1) (.slice (some ⟨g3, 0, none⟩) (1 + n) c3) := New.own ho3; have hc3 : 1 + n ≤ c3 := (by have h := s3.le.1; omega); obtain ⟨k1, k2⟩ := two_cells hS3; have k3 := not_frozen hS3 0; have k4 := not_frozen hS3 1; have HS3 : Hid (_) := hS3; have z5 := bq3.size; have z6 : w2.heap.size < w3.heap.size := lt_of_block hS3; clear hg3 hg3' ho3 hS3))
            obtain ⟨u, hu⟩ : ∃ u, w3.setCell ⟨w2.heap.size, 0, none⟩ (.slice (some ⟨g3, 0, none⟩) m c3) = u := ⟨_, rfl⟩
            have bu := below_set (k := 0) (v := .slice (some ⟨g3, 0, none⟩) m c3) (bb2.trans (bq3.mono (by omega))) (Nat.le_of_lt z3) (by omega)
            have hSu := set_two0 HS3.out (.slice (some ⟨g3, 0, none⟩) m c3)
            have hBu := (heap_setCell_other w3 ⟨w2.heap.size, 0, none⟩ B (.slice (some ⟨g3, 0, none⟩) m c3) (by show B ≠ w2.heap.size; omega)).trans ((bq3.block B z3).trans HB2.out)
            have hCu := (heap_setCell_other w3 ⟨w2.heap.size, 0, none⟩ (B + 1) (.slice (some ⟨g3, 0, none⟩) m c3) (by show B + 1 ≠ w2.heap.size; omega)).trans ((bq3.block (B + 1) z2).trans HC2.out)
            have nX : New (w2.heap.size + 1) (.slice (some ⟨g3, 0, none⟩) m c3) := fun k e => n3 k e
            have sX := SeesI.grown (s3.take hmr) nX (gb_setC w3 w2.heap.size 0 (.slice (some ⟨g3, 0, none⟩) m c3)) (fun k e => by cases e; omega)
            rw [hu] at bu hSu hBu hCu sX ⊢
            clear hu
            obtain ⟨q1, q2, q3, q4⟩ := four_cells hBu
            obtain ⟨q5, q6⟩ := two_cells hSu
            obtain ⟨r1, r2, r3, r4⟩ := four_cells hCu
            have e0 := not_frozen hCu 0
            have e1 := not_frozen hCu 1
            have e2 := not_frozen hCu 2
            have e3 := not_frozen hCu 3
            have z7 : B < u.heap.size := lt_of_block hBu
            have z8 : B + 1 < u.heap.size := lt_of_block hCu
            have z9 : w2.heap.size < u.heap.size := lt_of_block hSu
            have HCu : Hid (u.heap[B + 1]? = _) := hCu
            clear hBu hSu hCu
            go_wp2
            refine bodyPost_ret (results_nv2 Try.results17 _ _ (B + 1) _ _ _ _ _ _ rfl rfl (heap_old (set_all4 HCu.out _ _ _ _) _)) rfl ?_
            have hg := gb_all4 u (B + 1) (.slice (some ⟨g3, 0, none⟩) m c3) (.int .i64 0) (.slice bo s.b.length bcap) (.int .i64 s.d)
            have hgz := hg.size
            have hfin := (bu.grown hg (by omega) (fun k e => by cases e; omega)).alloc (by omega) (.cells #[.slice (some ⟨g3, 0, none⟩) m c3, .int .i64 0, .slice bo s.b.length bcap, .int .i64 s.d] 27)
            have sF : SeesI _ (.slice (some ⟨g3, 0, none⟩) m c3) (R.take m) := (SeesI.grown sX nX hg (fun k e => by cases e; omega)).below (box_below _ (.cells #[.slice (some ⟨g3, 0, none⟩) m c3, .int .i64 0, .slice bo s.b.length bcap, .int .i64 s.d] 27))
            exact ⟨_, _, rfl, sF, sB.out _ hfin, .inr (nX.mono (by omega)), .inl rfl, hfin⟩
            --]pn5
          · have d3 : decide (D < 3 + (ws.length : Int)) = false := decide_eq_false hD3
            have eT : tornS s ws D = ⟨recS s ws, comS (recS s ws), s.b, s.d⟩ := by
              unfold tornS
              rw [hbig, if_neg (by simp), if_neg hD0, if_neg hD1, if_neg hD3, hT]
              rfl
            rw [eT]
            clear hbig e1 hbg hN h0 e4 hT hO eT
            --[pn6
            have hR1 : (recS s ws).length ≤ 1000 := by rw [hrl]; omega
            have cM := fun (u : World) (vr : Value) (h : SeesI u vr (recS s ws)) => rcommit_any vr (recS s ws) u hR1 h
            generalize comS (recS s ws) = CM at *
            generalize recS s ws = R at *
            have hn600 : ws.length ≤ 600 := by omega
            generalize hn9 : ws.length = n at *
            have HNL : Hid (ws.length = n) := hn9
            clear hn9
            go_enter Try.func17, Try.ntmps17
            go_upto_region 17 with (first
              | (go_at_call 27; go_must (refine cN.mono ?_); rintro e w2 ⟨rfl, b2⟩; have hB2 := keep b2 HB.out; have hC2 := keep b2 HC.out; obtain ⟨t1, t2, t3, t4⟩ := four_cells hB2; obtain ⟨y1, y2, y3, y4⟩ := four_cells hC2; have f0 := not_frozen hC2 0; have f1 := not_frozen hC2 1; have f2 := not_frozen hC2 2; have f3 := not_frozen hC2 3; have z2 : B + 1 < w2.heap.size := lt_of_block hC2; have z3 : B < w2.heap.size := lt_of_block hB2; have bb2 : Below B w w2 := bW.trans (b2.mono (by omega)); have HB2 : Hid (_) := hB2; have HC2 : Hid (_) := hC2; clear hB2 hC2)
              | (at_builtin; go_must (refine app64 rfl _ _ rfl (w2.heap.size + 1) (.slice (some ⟨w2.heap.size + 1, 0, none⟩) 1 1) 1 [vw (1)] rfl (own_one64 (w2.alloc (.cells #[.slice ao s.a.length acap, .int .i64 0] 24)) (1) (w2.heap.size + 1) (by simp)) (by simp) _ ws rfl (sW.out _ ((bb2.alloc (by omega) _).alloc (by simp; omega) _)) (by rw [HNL.out]; omega) ?_); intro v3 w3 ho3 hg3; have hg3' : World.grownBy ((w2.alloc (.cells #[.slice ao s.a.length acap, .int .i64 0] 24)).alloc (.cells #[.int .i64 (1)] 2)) w3 (some (w2.heap.size + 1)) := hg3; have hS3 : w3.heap[w2.heap.size]? = some (.cells #[.slice ao s.a.length acap, .int .i64 0] 24 (0, 0)) := (hg3'.block _ (by simp; omega) (by simp)).trans (heap_old (heap_new w2 (.cells #[.slice ao s.a.length acap, .int .i64 0] 24)) _); have bq3 : Below w2.heap.size w2 w3 := ((box_below w2 (.cells #[.slice ao s.a.length acap, .int .i64 0] 24)).alloc (by simp) (.cells #[.int .i64 (1)] 2)).grown hg3' (by simp; omega) (fun k e => by cases e; simp); rw [HNL.out] at ho3; obtain ⟨g3, c3, rfl⟩ := own_slice ho3 (by omega); have s3 : SeesI w3 (.slice (some ⟨g3, 0, none⟩) (1 + n) c3) R := (by have h : Row w3 (.slice (some ⟨g3, 0, none⟩) (1 + n) c3) (([1] ++ ws).map vw) := Row.own ho3; rw [HRW.out] at h; exact h); have n3 : New (w2.heap.size + 1) (.slice (some ⟨g3, 0, none⟩) (1 + n) c3) := New.own ho3; have hc3 : 1 + n ≤ c3 := (by have h := s3.le.1; omega); obtain ⟨k1, k2⟩ := two_cells hS3; have k3 := not_frozen hS3 0; have k4 := not_frozen hS3 1; have HS3 : Hid (_) := hS3; have z5 := bq3.size; have z6 : w2.heap.size < w3.heap.size := lt_of_block hS3; clear hg3 hg3' ho3 hS3))
            have bu := below_set (k := 0) (v := .slice (some ⟨g3, 0, none⟩) (1 + n) c3) (bb2.trans (bq3.mono (by omega))) (Nat.le_of_lt z3) (by omega)
            have hSu := set_two0 HS3.out (.slice (some ⟨g3, 0, none⟩) (1 + n) c3)
            have hBu := (heap_setCell_other w3 ⟨w2.heap.size, 0, none⟩ B (.slice (some ⟨g3, 0, none⟩) (1 + n) c3) (by show B ≠ w2.heap.size; omega)).trans ((bq3.block B z3).trans HB2.out)
            have hCu := (heap_setCell_other w3 ⟨w2.heap.size, 0, none⟩ (B + 1) (.slice (some ⟨g3, 0, none⟩) (1 + n) c3) (by show B + 1 ≠ w2.heap.size; omega)).trans ((bq3.block (B + 1) z2).trans HC2.out)
            have nX : New (w2.heap.size + 1) (.slice (some ⟨g3, 0, none⟩) (1 + n) c3) := fun k e => n3 k e
            have sX := SeesI.grown s3 nX (gb_setC w3 w2.heap.size 0 (.slice (some ⟨g3, 0, none⟩) (1 + n) c3)) (fun k e => by cases e; omega)
            obtain ⟨u0, hu⟩ : ∃ u, w3.setCell ⟨w2.heap.size, 0, none⟩ (.slice (some ⟨g3, 0, none⟩) (1 + n) c3) = u := ⟨_, rfl⟩
            rw [hu] at bu hSu hBu hCu sX ⊢
            clear hu
            have HX : Hid (_ ∧ _ ∧ _ ∧ _ ∧ _) := ⟨bu, hSu, hBu, hCu, sX⟩
            have cM' := cM u0 _ sX
            clear bu hSu hBu hCu sX cM
            go_upto_region 18 with (go_at_call 20; go_must (refine cM'.mono ?_); rintro e w5 ⟨rfl, b5⟩; have hS5 := keep b5 HX.out.2.1; obtain ⟨k5, k6⟩ := two_cells hS5; have k7 := not_frozen hS5 1)
            obtain ⟨bu0, hSu0, hBu0, hCu0, sX0⟩ := HX.out
            have zz := b5.size
            have zy : w2.heap.size < u0.heap.size := lt_of_block hSu0
            have bu := below_set (k := 1) (b := w2.heap.size) (v := .int .i64 CM) (bu0.trans (b5.mono (by omega))) (Nat.le_of_lt z3) (by omega)
            have hSu := set_two1 (keep b5 hSu0) (.int .i64 CM)
            have hBu := (heap_setCell_other w5 ⟨w2.heap.size, 1, none⟩ B (.int .i64 CM) (by show B ≠ w2.heap.size; omega)).trans (keep b5 hBu0)
            have hCu := (heap_setCell_other w5 ⟨w2.heap.size, 1, none⟩ (B + 1) (.int .i64 CM) (by show B + 1 ≠ w2.heap.size; omega)).trans (keep b5 hCu0)
            have sX := SeesI.grown (sX0.below b5) nX (gb_setC w5 w2.heap.size 1 (.int .i64 CM)) (fun k e => by cases e; omega)
            obtain ⟨u, hu⟩ : ∃ u, w5.setCell ⟨w2.heap.size, 1, none⟩ (.int .i64 CM) = u := ⟨_, rfl⟩
            rw [hu] at bu hSu hBu hCu sX ⊢
            clear hu HX bu0 hSu0 hBu0 hCu0 sX0 zy
            obtain ⟨q1, q2, q3, q4⟩ := four_cells hBu
            obtain ⟨q5, q6⟩ := two_cells hSu
            obtain ⟨r1, r2, r3, r4⟩ := four_cells hCu
            have e0 := not_frozen hCu 0
            have e1 := not_frozen hCu 1
            have e2 := not_frozen hCu 2
            have e3 := not_frozen hCu 3
            have z7 : B < u.heap.size := lt_of_block hBu
            have z8 : B + 1 < u.heap.size := lt_of_block hCu
            have z9 : w2.heap.size < u.heap.size := lt_of_block hSu
            have HCu : Hid (u.heap[B + 1]? = _) := hCu
            clear hBu hSu hCu
            go_wp2
            refine bodyPost_ret (results_nv2 Try.results17 _ _ (B + 1) _ _ _ _ _ _ rfl rfl (heap_old (set_all4 HCu.out _ _ _ _) _)) rfl ?_
            have hg := gb_all4 u (B + 1) (.slice (some ⟨g3, 0, none⟩) (1 + n) c3) (.int .i64 CM) (.slice bo s.b.length bcap) (.int .i64 s.d)
            have hgz := hg.size
            have hfin := (bu.grown hg (by omega) (fun k e => by cases e; omega)).alloc (by omega) (.cells #[.slice (some ⟨g3, 0, none⟩) (1 + n) c3, .int .i64 CM, .slice bo s.b.length bcap, .int .i64 s.d] 27)
            have sF : SeesI _ (.slice (some ⟨g3, 0, none⟩) (1 + n) c3) (R) := (SeesI.grown sX nX hg (fun k e => by cases e; omega)).below (box_below _ (.cells #[.slice (some ⟨g3, 0, none⟩) (1 + n) c3, .int .i64 CM, .slice bo s.b.length bcap, .int .i64 s.d] 27))
            exact ⟨_, _, rfl, sF, sB.out _ hfin, .inr (nX.mono (by omega)), .inl rfl, hfin⟩
            --]pn6
  · have hl := (whS_iff.1 (plc_zero h0)).1
    have hN' : numS s = hd s.a := by unfold numS; rw [h0]; rfl
    have e4 : (if (0 : Int) = -1 then (2 : Int) else 0) = 0 := rfl
    have hT : toS s = true := by unfold toS; rw [h0]; rfl
    have hO : oldS s = s.b := by unfold oldS; rw [h0]; rfl
    rw [h0, e4] at cN
    obtain ⟨ad, hao, _, ca⟩ := hd_cell saW hl
    subst hao
    rw [← hN'] at ca
    have cb := fun (u : World) (h : Below W.heap.size W u) => (h.cell (block_lt_of_cell ca)).trans ca
    have hl' : (0 : Int) < (s.a.length : Int) := by omega
    clear saW sbW
    by_cases h6 : 600 < ws.length
    · have hbig : bigS s ws = true := hbg.2 (.inl h6)
      have e1 : errS s ws = 5 := by unfold errS; rw [hbig]; rfl
      rw [e1, torn_big hbig D]
      have d6 : decide ((600 : Int) < (ws.length : Int)) = true := decide_eq_true (by omega)
      clear hbig e1 hbg hN' h0 e4 hT hO
      generalize ws.length = n at *
      --[pa1
      go_enter Try.func17, Try.ntmps17
      go_wp2_with (go_at_call 27; go_must (refine cN.mono ?_); rintro e w2 ⟨rfl, b2⟩; have hB2 := keep b2 HB.out; have hC2 := keep b2 HC.out; obtain ⟨t1, t2, t3, t4⟩ := four_cells hB2; obtain ⟨y1, y2, y3, y4⟩ := four_cells hC2; have f0 := not_frozen hC2 0; have f1 := not_frozen hC2 1; have f2 := not_frozen hC2 2; have f3 := not_frozen hC2 3; have z2 : B + 1 < w2.heap.size := lt_of_block hC2; have z3 : B < w2.heap.size := lt_of_block hB2; have cb2 := cb _ b2; have bb2 : Below B w w2 := bW.trans (b2.mono (by omega)); have HB2 : Hid (_) := hB2; have HC2 : Hid (_) := hC2; clear hB2 hC2)
      refine bodyPost_ret (results_nv2 Try.results17 _ _ (B + 1) _ _ _ _ _ _ rfl rfl (set_all4 (HC2.out) _ _ _ _)) rfl ?_
      have hg := gb_all4 w2 (B + 1) (.slice (some ad) s.a.length acap) (.int .i64 s.c) (.slice bo s.b.length bcap) (.int .i64 s.d)
      have hfin := bb2.grown hg (by omega) (fun k e => by cases e; omega)
      exact ⟨_, _, rfl, sA.out _ hfin, sB.out _ hfin, .inl rfl, .inl rfl, hfin⟩
      --]pa1
    · have d6 : decide ((600 : Int) < (ws.length : Int)) = false := decide_eq_false (by omega)
      have h6' : (ws.length : Int) ≤ 600 := by omega
      by_cases h7 : numS s = 4611686018427387904
      · have hbig : bigS s ws = true := hbg.2 (.inr h7)
        have e1 : errS s ws = 5 := by unfold errS; rw [hbig]; rfl
        rw [e1, torn_big hbig D]
        rw [h7] at cb
        clear hbig e1 hbg hN' h0 e4 hT hO h7 ca hnr
        generalize ws.length = n at *
        --[pa2
        go_enter Try.func17, Try.ntmps17
        go_wp2_with (go_at_call 27; go_must (refine cN.mono ?_); rintro e w2 ⟨rfl, b2⟩; have hB2 := keep b2 HB.out; have hC2 := keep b2 HC.out; obtain ⟨t1, t2, t3, t4⟩ := four_cells hB2; obtain ⟨y1, y2, y3, y4⟩ := four_cells hC2; have f0 := not_frozen hC2 0; have f1 := not_frozen hC2 1; have f2 := not_frozen hC2 2; have f3 := not_frozen hC2 3; have z2 : B + 1 < w2.heap.size := lt_of_block hC2; have z3 : B < w2.heap.size := lt_of_block hB2; have cb2 := cb _ b2; have bb2 : Below B w w2 := bW.trans (b2.mono (by omega)); have HB2 : Hid (_) := hB2; have HC2 : Hid (_) := hC2; clear hB2 hC2)
        refine bodyPost_ret (results_nv2 Try.results17 _ _ (B + 1) _ _ _ _ _ _ rfl rfl (set_all4 (HC2.out) _ _ _ _)) rfl ?_
        have hg := gb_all4 w2 (B + 1) (.slice (some ad) s.a.length acap) (.int .i64 s.c) (.slice bo s.b.length bcap) (.int .i64 s.d)
        have hfin := bb2.grown hg (by omega) (fun k e => by cases e; omega)
        exact ⟨_, _, rfl, sA.out _ hfin, sB.out _ hfin, .inl rfl, .inl rfl, hfin⟩
        --]pa2
      · have d7 : decide (numS s = 4611686018427387904) = false := decide_eq_false h7
        have d7' : (numS s == 4611686018427387904) = false := by simpa using h7
        have hbig : bigS s ws = false := by cases h : bigS s ws with | false => rfl | true => exact (hbg.1 h).elim (fun h => absurd h h6) (fun h => absurd h h7)
        have e1 : errS s ws = 0 := by unfold errS; rw [hbig]; rfl
        rw [e1]
        by_cases hD0 : D ≤ 0
        · rw [torn_zero s ws hD0]
          have d0 : decide (D ≤ 0) = true := decide_eq_true hD0
          clear hbig e1 hbg hN' h0 e4 hT hO ca
          generalize numS s = N at *
          generalize ws.length = n at *
          --[pa3
          go_enter Try.func17, Try.ntmps17
          go_wp2_with (go_at_call 27; go_must (refine cN.mono ?_); rintro e w2 ⟨rfl, b2⟩; have hB2 := keep b2 HB.out; have hC2 := keep b2 HC.out; obtain ⟨t1, t2, t3, t4⟩ := four_cells hB2; obtain ⟨y1, y2, y3, y4⟩ := four_cells hC2; have f0 := not_frozen hC2 0; have f1 := not_frozen hC2 1; have f2 := not_frozen hC2 2; have f3 := not_frozen hC2 3; have z2 : B + 1 < w2.heap.size := lt_of_block hC2; have z3 : B < w2.heap.size := lt_of_block hB2; have cb2 := cb _ b2; have bb2 : Below B w w2 := bW.trans (b2.mono (by omega)); have HB2 : Hid (_) := hB2; have HC2 : Hid (_) := hC2; clear hB2 hC2)
          refine bodyPost_ret (results_nv2 Try.results17 _ _ (B + 1) _ _ _ _ _ _ rfl rfl (set_all4 (HC2.out) _ _ _ _)) rfl ?_
          have hg := gb_all4 w2 (B + 1) (.slice (some ad) s.a.length acap) (.int .i64 s.c) (.slice bo s.b.length bcap) (.int .i64 s.d)
          have hfin := bb2.grown hg (by omega) (fun k e => by cases e; omega)
          exact ⟨_, _, rfl, sA.out _ hfin, sB.out _ hfin, .inl rfl, .inl rfl, hfin⟩
          --]pa3
        · have d0 : decide (D ≤ 0) = false := decide_eq_false hD0
          by_cases hD1 : D = 1
          · subst hD1
            have eT : tornS s ws 1 = ⟨s.a, s.c, s.b, 0⟩ := by unfold tornS; rw [hbig, hT, hO]; simp [putS]
            rw [eT]
            clear hbig e1 hbg hN' h0 e4 hT hO eT ca
            generalize numS s = N at *
            generalize ws.length = n at *
            --[pa4
            go_enter Try.func17, Try.ntmps17
            go_wp2_with (go_at_call 27; go_must (refine cN.mono ?_); rintro e w2 ⟨rfl, b2⟩; have hB2 := keep b2 HB.out; have hC2 := keep b2 HC.out; obtain ⟨t1, t2, t3, t4⟩ := four_cells hB2; obtain ⟨y1, y2, y3, y4⟩ := four_cells hC2; have f0 := not_frozen hC2 0; have f1 := not_frozen hC2 1; have f2 := not_frozen hC2 2; have f3 := not_frozen hC2 3; have z2 : B + 1 < w2.heap.size := lt_of_block hC2; have z3 : B < w2.heap.size := lt_of_block hB2; have cb2 := cb _ b2; have bb2 : Below B w w2 := bW.trans (b2.mono (by omega)); have HB2 : Hid (_) := hB2; have HC2 : Hid (_) := hC2; clear hB2 hC2)
            refine bodyPost_ret (results_nv2 Try.results17 _ _ (B + 1) _ _ _ _ _ _ rfl rfl (heap_old (heap_old (set_all4 HC2.out _ _ _ _) _) _)) rfl ?_
            have hg := gb_all4 w2 (B + 1) (.slice (some ad) s.a.length acap) (.int .i64 s.c) (.slice bo s.b.length bcap) (.int .i64 0)
            have hz := hg.size
            have hfin := ((bb2.grown hg (by omega) (fun k e => by cases e; omega)).alloc (by omega) (.cells #[.slice bo s.b.length bcap, .int .i64 0] 24)).alloc (by simp; omega) (.cells #[.slice (some ad) s.a.length acap, .int .i64 s.c, .slice bo s.b.length bcap, .int .i64 0] 27)
            exact ⟨_, _, rfl, sA.out _ hfin, sB.out _ hfin, .inl rfl, .inl rfl, hfin⟩
            --]pa4
          · have d1 : decide ((1 : Int) < D) = true := decide_eq_true (by omega)
            have hrec : recS s ws = (numS s + 1) :: ws := rfl
            have hrl : (recS s ws).length = ws.length + 1 := rfl
            have HRW : Hid (([numS s + 1] ++ ws).map vw = (recS s ws).map vw) := by unfold Hid; rw [hrec]; rfl
            clear hrec
            have hrl3 : Hid (1 + ws.length = ws.length + 1) := Nat.add_comm _ _
            by_cases hD3 : D < 3 + (ws.length : Int)
            · obtain ⟨m, hm⟩ : ∃ m : Nat, D = (m : Int) + 1 := ⟨(D - 1).toNat, by omega⟩
              subst hm
              have eT : tornS s ws ((m : Int) + 1) = ⟨s.a, s.c, (recS s ws).take m, 0⟩ := by
                unfold tornS
                rw [hbig, if_neg (by simp), if_neg hD0, if_neg hD1, if_pos hD3, hT]
                have : ((m : Int) + 1 - 1).toNat = m := by omega
                rw [this]
                rfl
              rw [eT]
              have d3 : decide ((m : Int) + 1 < 3 + (ws.length : Int)) = true := decide_eq_true hD3
              have hm1 : 1 ≤ m := by omega
              have hmr : m ≤ (recS s ws).length := by rw [hrl]; omega
              clear hbig e1 hbg hN' h0 e4 hT hO eT ca
              generalize numS s = N at *
              generalize recS s ws = R at *
              have hn600 : ws.length ≤ 600 := by omega
              generalize hn9 : ws.length = n at *
              have HNL : Hid (ws.length = n) := hn9
              clear hn9
              --[pa5
              go_enter Try.func17, Try.ntmps17
              go_upto_region 18 with (first
                | (go_at_call 27; go_must (refine cN.mono ?_); rintro e w2 ⟨rfl, b2⟩; have hB2 := keep b2 HB.out; have hC2 := keep b2 HC.out; obtain ⟨t1, t2, t3, t4⟩ := four_cells hB2; obtain ⟨y1, y2, y3, y4⟩ := four_cells hC2; have f0 := not_frozen hC2 0; have f1 := not_frozen hC2 1; have f2 := not_frozen hC2 2; have f3 := not_frozen hC2 3; have z2 : B + 1 < w2.heap.size := lt_of_block hC2; have z3 : B < w2.heap.size := lt_of_block hB2; have cb2 := cb _ b2; have bb2 : Below B w w2 := bW.trans (b2.mono (by omega)); have HB2 : Hid (_) := hB2; have HC2 : Hid (_) := hC2; clear hB2 hC2)
                | (at_builtin; go_must (refine app64 rfl _ _ rfl (w2.heap.size + 1) (.slice (some ⟨w2.heap.size + 1, 0, none⟩) 1 1) 1 [vw (N + 1)] rfl (own_one64 (w2.alloc (.cells #[.slice bo s.b.length bcap, .int .i64 0] 24)) (N + 1) (w2.heap.size + 1) (by simp)) (by simp) _ ws rfl (sW.out _ ((bb2.alloc (by omega) _).alloc (by simp; omega) _)) (by rw [HNL.out]; omega) ?_); intro v3 w3 ho3 hg3; have hg3' : World.grownBy ((w2.alloc (.cells #[.slice bo s.b.length bcap, .int .i64 0] 24)).alloc (.cells #[.int .i64 (N + 1)] 2)) w3 (some (w2.heap.size + 1)) := hg3; have hS3 : w3.heap[w2.heap.size]? = some (.cells #[.slice bo s.b.length bcap, .int .i64 0] 24 (0, 0)) := (hg3'.block _ (by simp; omega) (by simp)).trans (heap_old (heap_new w2 (.cells #[.slice bo s.b.length bcap, .int .i64 0] 24)) _); have bq3 : Below w2.heap.size w2 w3 := ((box_below w2 (.cells #[.slice bo s.b.length bcap, .int .i64 0] 24)).alloc (by simp) (.cells #[.int .i64 (N + 1)] 2)).grown hg3' (by simp; omega) (fun k e => by cases e; simp); rw [HNL.out] at ho3; obtain ⟨g3, c3, rfl⟩ := own_slice ho3 (by omega); have s3 : SeesI w3 (.slice (some ⟨g3, 0, none⟩) (1 + n) c3) R := (by have h : Row w3 (.slice (some ⟨g3, 0, none⟩) (1 + n) c3) (([N + 1] ++ ws).map vw) := Row.own ho3; rw [HRW.out] at h; exact h); have n3 : New (w2.heap.size + 1) (.slice (some ⟨g3, 0, none⟩) (1 + n) c3) := New.own ho3; have hc3 : 1 + n ≤ c3 := (by have h := s3.le.1; omega); obtain ⟨k1, k2⟩ := two_cells hS3; have k3 := not_frozen hS3 0; have k4 := not_frozen hS3 1; have HS3 : Hid (_) := hS3; have z5 := bq3.size; have z6 : w2.heap.size < w3.heap.size := lt_of_block hS3; clear hg3 hg3' ho3 hS3))
              obtain ⟨u, hu⟩ : ∃ u, w3.setCell ⟨w2.heap.size, 0, none⟩ (.slice (some ⟨g3, 0, none⟩) m c3) = u := ⟨_, rfl⟩
              have bu := below_set (k := 0) (v := .slice (some ⟨g3, 0, none⟩) m c3) (bb2.trans (bq3.mono (by omega))) (Nat.le_of_lt z3) (by omega)
              have hSu := set_two0 HS3.out (.slice (some ⟨g3, 0, none⟩) m c3)
              have hBu := (heap_setCell_other w3 ⟨w2.heap.size, 0, none⟩ B (.slice (some ⟨g3, 0, none⟩) m c3) (by show B ≠ w2.heap.size; omega)).trans ((bq3.block B z3).trans HB2.out)
              have hCu := (heap_setCell_other w3 ⟨w2.heap.size, 0, none⟩ (B + 1) (.slice (some ⟨g3, 0, none⟩) m c3) (by show B + 1 ≠ w2.heap.size; omega)).trans ((bq3.block (B + 1) z2).trans HC2.out)
              have nX : New (w2.heap.size + 1) (.slice (some ⟨g3, 0, none⟩) m c3) := fun k e => n3 k e
              have sX := SeesI.grown (s3.take hmr) nX (gb_setC w3 w2.heap.size 0 (.slice (some ⟨g3, 0, none⟩) m c3)) (fun k e => by cases e; omega)
              rw [hu] at bu hSu hBu hCu sX ⊢
              clear hu
              obtain ⟨q1, q2, q3, q4⟩ := four_cells hBu
              obtain ⟨q5, q6⟩ := two_cells hSu
              obtain ⟨r1, r2, r3, r4⟩ := four_cells hCu
              have e0 := not_frozen hCu 0
              have e1 := not_frozen hCu 1
              have e2 := not_frozen hCu 2
              have e3 := not_frozen hCu 3
              have z7 : B < u.heap.size := lt_of_block hBu
              have z8 : B + 1 < u.heap.size := lt_of_block hCu
              have z9 : w2.heap.size < u.heap.size := lt_of_block hSu
              have HCu : Hid (u.heap[B + 1]? = _) := hCu
              clear hBu hSu hCu
              go_wp2
              refine bodyPost_ret (results_nv2 Try.results17 _ _ (B + 1) _ _ _ _ _ _ rfl rfl (heap_old (set_all4 HCu.out _ _ _ _) _)) rfl ?_
              have hg := gb_all4 u (B + 1) (.slice (some ad) s.a.length acap) (.int .i64 s.c) (.slice (some ⟨g3, 0, none⟩) m c3) (.int .i64 0)
              have hgz := hg.size
              have hfin := (bu.grown hg (by omega) (fun k e => by cases e; omega)).alloc (by omega) (.cells #[.slice (some ad) s.a.length acap, .int .i64 s.c, .slice (some ⟨g3, 0, none⟩) m c3, .int .i64 0] 27)
              have sF : SeesI _ (.slice (some ⟨g3, 0, none⟩) m c3) (R.take m) := (SeesI.grown sX nX hg (fun k e => by cases e; omega)).below (box_below _ (.cells #[.slice (some ad) s.a.length acap, .int .i64 s.c, .slice (some ⟨g3, 0, none⟩) m c3, .int .i64 0] 27))
              exact ⟨_, _, rfl, sA.out _ hfin, sF, .inl rfl, .inr (nX.mono (by omega)), hfin⟩
              --]pa5
            · have d3 : decide (D < 3 + (ws.length : Int)) = false := decide_eq_false hD3
              have eT : tornS s ws D = ⟨s.a, s.c, recS s ws, comS (recS s ws)⟩ := by
                unfold tornS
                rw [hbig, if_neg (by simp), if_neg hD0, if_neg hD1, if_neg hD3, hT]
                rfl
              rw [eT]
              clear hbig e1 hbg hN' h0 e4 hT hO eT ca
              --[pa6
              have hR1 : (recS s ws).length ≤ 1000 := by rw [hrl]; omega
              have cM := fun (u : World) (vr : Value) (h : SeesI u vr (recS s ws)) => rcommit_any vr (recS s ws) u hR1 h
              generalize numS s = N at *
              generalize comS (recS s ws) = CM at *
              generalize recS s ws = R at *
              have hn600 : ws.length ≤ 600 := by omega
              generalize hn9 : ws.length = n at *
              have HNL : Hid (ws.length = n) := hn9
              clear hn9
              go_enter Try.func17, Try.ntmps17
              go_upto_region 17 with (first
                | (go_at_call 27; go_must (refine cN.mono ?_); rintro e w2 ⟨rfl, b2⟩; have hB2 := keep b2 HB.out; have hC2 := keep b2 HC.out; obtain ⟨t1, t2, t3, t4⟩ := four_cells hB2; obtain ⟨y1, y2, y3, y4⟩ := four_cells hC2; have f0 := not_frozen hC2 0; have f1 := not_frozen hC2 1; have f2 := not_frozen hC2 2; have f3 := not_frozen hC2 3; have z2 : B + 1 < w2.heap.size := lt_of_block hC2; have z3 : B < w2.heap.size := lt_of_block hB2; have cb2 := cb _ b2; have bb2 : Below B w w2 := bW.trans (b2.mono (by omega)); have HB2 : Hid (_) := hB2; have HC2 : Hid (_) := hC2; clear hB2 hC2)
                | (at_builtin; go_must (refine app64 rfl _ _ rfl (w2.heap.size + 1) (.slice (some ⟨w2.heap.size + 1, 0, none⟩) 1 1) 1 [vw (N + 1)] rfl (own_one64 (w2.alloc (.cells #[.slice bo s.b.length bcap, .int .i64 0] 24)) (N + 1) (w2.heap.size + 1) (by simp)) (by simp) _ ws rfl (sW.out _ ((bb2.alloc (by omega) _).alloc (by simp; omega) _)) (by rw [HNL.out]; omega) ?_); intro v3 w3 ho3 hg3; have hg3' : World.grownBy ((w2.alloc (.cells #[.slice bo s.b.length bcap, .int .i64 0] 24)).alloc (.cells #[.int .i64 (N + 1)] 2)) w3 (some (w2.heap.size + 1)) := hg3; have hS3 : w3.heap[w2.heap.size]? = some (.cells #[.slice bo s.b.length bcap, .int .i64 0] 24 (0, 0)) := (hg3'.block _ (by simp; omega) (by simp)).trans (heap_old (heap_new w2 (.cells #[.slice bo s.b.length bcap, .int .i64 0] 24)) _); have bq3 : Below w2.heap.size w2 w3 := ((box_below w2 (.cells #[.slice bo s.b.length bcap, .int .i64 0] 24)).alloc (by simp) (.cells #[.int .i64 (N + 1)] 2)).grown hg3' (by simp; omega) (fun k e => by cases e; simp); rw [HNL.out] at ho3; obtain ⟨g3, c3, rfl⟩ := own_slice ho3 (by omega); have s3 : SeesI w3 (.slice (some ⟨g3, 0, none⟩) (1 + n) c3) R := (by have h : Row w3 (.slice (some ⟨g3, 0, none⟩) (1 + n) c3) (([N + 1] ++ ws).map vw) := Row.own ho3; rw [HRW.out] at h; exact h); have n3 : New (w2.heap.size + 1) (.slice (some ⟨g3, 0, none⟩) (1 + n) c3) := New.own ho3; have hc3 : 1 + n ≤ c3 := (by have h := s3.le.1; omega); obtain ⟨k1, k2⟩ := two_cells hS3; have k3 := not_frozen hS3 0; have k4 := not_frozen hS3 1; have HS3 : Hid (_) := hS3; have z5 := bq3.size; have z6 : w2.heap.size < w3.heap.size := lt_of_block hS3; clear hg3 hg3' ho3 hS3))
              have bu := below_set (k := 0) (v := .slice (some ⟨g3, 0, none⟩) (1 + n) c3) (bb2.trans (bq3.mono (by omega))) (Nat.le_of_lt z3) (by omega)
              have hSu := set_two0 HS3.out (.slice (some ⟨g3, 0, none⟩) (1 + n) c3)
              have hBu := (heap_setCell_other w3 ⟨w2.heap.size, 0, none⟩ B (.slice (some ⟨g3, 0, none⟩) (1 + n) c3) (by show B ≠ w2.heap.size; omega)).trans ((bq3.block B z3).trans HB2.out)
              have hCu := (heap_setCell_other w3 ⟨w2.heap.size, 0, none⟩ (B + 1) (.slice (some ⟨g3, 0, none⟩) (1 + n) c3) (by show B + 1 ≠ w2.heap.size; omega)).trans ((bq3.block (B + 1) z2).trans HC2.out)
              have nX : New (w2.heap.size + 1) (.slice (some ⟨g3, 0, none⟩) (1 + n) c3) := fun k e => n3 k e
              have sX := SeesI.grown s3 nX (gb_setC w3 w2.heap.size 0 (.slice (some ⟨g3, 0, none⟩) (1 + n) c3)) (fun k e => by cases e; omega)
              obtain ⟨u0, hu⟩ : ∃ u, w3.setCell ⟨w2.heap.size, 0, none⟩ (.slice (some ⟨g3, 0, none⟩) (1 + n) c3) = u := ⟨_, rfl⟩
              rw [hu] at bu hSu hBu hCu sX ⊢
              clear hu
              have HX : Hid (_ ∧ _ ∧ _ ∧ _ ∧ _) := ⟨bu, hSu, hBu, hCu, sX⟩
              have cM' := cM u0 _ sX
              clear bu hSu hBu hCu sX cM
              go_upto_region 18 with (go_at_call 20; go_must (refine cM'.mono ?_); rintro e w5 ⟨rfl, b5⟩; have hS5 := keep b5 HX.out.2.1; obtain ⟨k5, k6⟩ := two_cells hS5; have k7 := not_frozen hS5 1)
              obtain ⟨bu0, hSu0, hBu0, hCu0, sX0⟩ := HX.out
              have zz := b5.size
              have zy : w2.heap.size < u0.heap.size := lt_of_block hSu0
              have bu := below_set (k := 1) (b := w2.heap.size) (v := .int .i64 CM) (bu0.trans (b5.mono (by omega))) (Nat.le_of_lt z3) (by omega)
              have hSu := set_two1 (keep b5 hSu0) (.int .i64 CM)
              have hBu := (heap_setCell_other w5 ⟨w2.heap.size, 1, none⟩ B (.int .i64 CM) (by show B ≠ w2.heap.size; omega)).trans (keep b5 hBu0)
              have hCu := (heap_setCell_other w5 ⟨w2.heap.size, 1, none⟩ (B + 1) (.int .i64 CM) (by show B + 1 ≠ w2.heap.size; omega)).trans (keep b5 hCu0)
              have sX := SeesI.grown (sX0.below b5) nX (gb_setC w5 w2.heap.size 1 (.int .i64 CM)) (fun k e => by cases e; omega)
              obtain ⟨u, hu⟩ : ∃ u, w5.setCell ⟨w2.heap.size, 1, none⟩ (.int .i64 CM) = u := ⟨_, rfl⟩
              rw [hu] at bu hSu hBu hCu sX ⊢
              clear hu HX bu0 hSu0 hBu0 hCu0 sX0 zy
              obtain ⟨q1, q2, q3, q4⟩ := four_cells hBu
              obtain ⟨q5, q6⟩ := two_cells hSu
              obtain ⟨r1, r2, r3, r4⟩ := four_cells hCu
              have e0 := not_frozen hCu 0
              have e1 := not_frozen hCu 1
              have e2 := not_frozen hCu 2
              have e3 := not_frozen hCu 3
              have z7 : B < u.heap.size := lt_of_block hBu
              have z8 : B + 1 < u.heap.size := lt_of_block hCu
              have z9 : w2.heap.size < u.heap.size := lt_of_block hSu
              have HCu : Hid (u.heap[B + 1]? = _) := hCu
              clear hBu hSu hCu
              go_wp2
              refine bodyPost_ret (results_nv2 Try.results17 _ _ (B + 1) _ _ _ _ _ _ rfl rfl (heap_old (set_all4 HCu.out _ _ _ _) _)) rfl ?_
              have hg := gb_all4 u (B + 1) (.slice (some ad) s.a.length acap) (.int .i64 s.c) (.slice (some ⟨g3, 0, none⟩) (1 + n) c3) (.int .i64 CM)
              have hgz := hg.size
              have hfin := (bu.grown hg (by omega) (fun k e => by cases e; omega)).alloc (by omega) (.cells #[.slice (some ad) s.a.length acap, .int .i64 s.c, .slice (some ⟨g3, 0, none⟩) (1 + n) c3, .int .i64 CM] 27)
              have sF : SeesI _ (.slice (some ⟨g3, 0, none⟩) (1 + n) c3) (R) := (SeesI.grown sX nX hg (fun k e => by cases e; omega)).below (box_below _ (.cells #[.slice (some ad) s.a.length acap, .int .i64 s.c, .slice (some ⟨g3, 0, none⟩) (1 + n) c3, .int .i64 CM] 27))
              exact ⟨_, _, rfl, sA.out _ hfin, sF, .inl rfl, .inr (nX.mono (by omega)), hfin⟩
              --]pa6
  · have hl := (whS_iff.1 (plc_one h0)).1
    have hN' : numS s = hd s.b := by unfold numS; rw [h0]; rfl
    have e4 : (if (1 : Int) = -1 then (2 : Int) else 1) = 1 := rfl
    have hT : toS s = false := by unfold toS; rw [h0]; rfl
    have hO : oldS s = s.a := by unfold oldS; rw [h0]; rfl
    rw [h0, e4] at cN
    obtain ⟨ad, hao, _, ca⟩ := hd_cell sbW hl
    subst hao
    rw [← hN'] at ca
    have cb := fun (u : World) (h : Below W.heap.size W u) => (h.cell (block_lt_of_cell ca)).trans ca
    have hl' : (0 : Int) < (s.b.length : Int) := by omega
    clear saW sbW
    by_cases h6 : 600 < ws.length
    · have hbig : bigS s ws = true := hbg.2 (.inl h6)
      have e1 : errS s ws = 5 := by unfold errS; rw [hbig]; rfl
      rw [e1, torn_big hbig D]
      have d6 : decide ((600 : Int) < (ws.length : Int)) = true := decide_eq_true (by omega)
      clear hbig e1 hbg hN' h0 e4 hT hO
      generalize ws.length = n at *
      --[pb1
      go_enter Try.func17, Try.ntmps17
      go_wp2_with (go_at_call 27; go_must (refine cN.mono ?_); rintro e w2 ⟨rfl, b2⟩; have hB2 := keep b2 HB.out; have hC2 := keep b2 HC.out; obtain ⟨t1, t2, t3, t4⟩ := four_cells hB2; obtain ⟨y1, y2, y3, y4⟩ := four_cells hC2; have f0 := not_frozen hC2 0; have f1 := not_frozen hC2 1; have f2 := not_frozen hC2 2; have f3 := not_frozen hC2 3; have z2 : B + 1 < w2.heap.size := lt_of_block hC2; have z3 : B < w2.heap.size := lt_of_block hB2; have cb2 := cb _ b2; have bb2 : Below B w w2 := bW.trans (b2.mono (by omega)); have HB2 : Hid (_) := hB2; have HC2 : Hid (_) := hC2; clear hB2 hC2)
      refine bodyPost_ret (results_nv2 Try.results17 _ _ (B + 1) _ _ _ _ _ _ rfl rfl (set_all4 (HC2.out) _ _ _ _)) rfl ?_
      have hg := gb_all4 w2 (B + 1) (.slice ao s.a.length acap) (.int .i64 s.c) (.slice (some ad) s.b.length bcap) (.int .i64 s.d)
      have hfin := bb2.grown hg (by omega) (fun k e => by cases e; omega)
      exact ⟨_, _, rfl, sA.out _ hfin, sB.out _ hfin, .inl rfl, .inl rfl, hfin⟩
      --]pb1
    · have d6 : decide ((600 : Int) < (ws.length : Int)) = false := decide_eq_false (by omega)
      have h6' : (ws.length : Int) ≤ 600 := by omega
      by_cases h7 : numS s = 4611686018427387904
      · have hbig : bigS s ws = true := hbg.2 (.inr h7)
        have e1 : errS s ws = 5 := by unfold errS; rw [hbig]; rfl
        rw [e1, torn_big hbig D]
        rw [h7] at cb
        clear hbig e1 hbg hN' h0 e4 hT hO h7 ca hnr
        generalize ws.length = n at *
        --[pb2
        go_enter Try.func17, Try.ntmps17
        go_wp2_with (go_at_call 27; go_must (refine cN.mono ?_); rintro e w2 ⟨rfl, b2⟩; have hB2 := keep b2 HB.out; have hC2 := keep b2 HC.out; obtain ⟨t1, t2, t3, t4⟩ := four_cells hB2; obtain ⟨y1, y2, y3, y4⟩ := four_cells hC2; have f0 := not_frozen hC2 0; have f1 := not_frozen hC2 1; have f2 := not_frozen hC2 2; have f3 := not_frozen hC2 3; have z2 : B + 1 < w2.heap.size := lt_of_block hC2; have z3 : B < w2.heap.size := lt_of_block hB2; have cb2 := cb _ b2; have bb2 : Below B w w2 := bW.trans (b2.mono (by omega)); have HB2 : Hid (_) := hB2; have HC2 : Hid (_) := hC2; clear hB2 hC2)
        refine bodyPost_ret (results_nv2 Try.results17 _ _ (B + 1) _ _ _ _ _ _ rfl rfl (set_all4 (HC2.out) _ _ _ _)) rfl ?_
        have hg := gb_all4 w2 (B + 1) (.slice ao s.a.length acap) (.int .i64 s.c) (.slice (some ad) s.b.length bcap) (.int .i64 s.d)
        have hfin := bb2.grown hg (by omega) (fun k e => by cases e; omega)
        exact ⟨_, _, rfl, sA.out _ hfin, sB.out _ hfin, .inl rfl, .inl rfl, hfin⟩
        --]pb2
      · have d7 : decide (numS s = 4611686018427387904) = false := decide_eq_false h7
        have d7' : (numS s == 4611686018427387904) = false := by simpa using h7
        have hbig : bigS s ws = false := by cases h : bigS s ws with | false => rfl | true => exact (hbg.1 h).elim (fun h => absurd h h6) (fun h => absurd h h7)
        have e1 : errS s ws = 0 := by unfold errS; rw [hbig]; rfl
        rw [e1]
        by_cases hD0 : D ≤ 0
        · rw [torn_zero s ws hD0]
          have d0 : decide (D ≤ 0) = true := decide_eq_true hD0
          clear hbig e1 hbg hN' h0 e4 hT hO ca
          generalize numS s = N at *
          generalize ws.length = n at *
          --[pb3
          go_enter Try.func17, Try.ntmps17
          go_wp2_with (go_at_call 27; go_must (refine cN.mono ?_); rintro e w2 ⟨rfl, b2⟩; have hB2 := keep b2 HB.out; have hC2 := keep b2 HC.out; obtain ⟨t1, t2, t3, t4⟩ := four_cells hB2; obtain ⟨y1, y2, y3, y4⟩ := four_cells hC2; have f0 := not_frozen hC2 0; have f1 := not_frozen hC2 1; have f2 := not_frozen hC2 2; have f3 := not_frozen hC2 3; have z2 : B + 1 < w2.heap.size := lt_of_block hC2; have z3 : B < w2.heap.size := lt_of_block hB2; have cb2 := cb _ b2; have bb2 : Below B w w2 := bW.trans (b2.mono (by omega)); have HB2 : Hid (_) := hB2; have HC2 : Hid (_) := hC2; clear hB2 hC2)
          refine bodyPost_ret (results_nv2 Try.results17 _ _ (B + 1) _ _ _ _ _ _ rfl rfl (set_all4 (HC2.out) _ _ _ _)) rfl ?_
          have hg := gb_all4 w2 (B + 1) (.slice ao s.a.length acap) (.int .i64 s.c) (.slice (some ad) s.b.length bcap) (.int .i64 s.d)
          have hfin := bb2.grown hg (by omega) (fun k e => by cases e; omega)
          exact ⟨_, _, rfl, sA.out _ hfin, sB.out _ hfin, .inl rfl, .inl rfl, hfin⟩
          --]pb3
        · have d0 : decide (D ≤ 0) = false := decide_eq_false hD0
          by_cases hD1 : D = 1
          · subst hD1
            have eT : tornS s ws 1 = ⟨s.a, 0, s.b, s.d⟩ := by unfold tornS; rw [hbig, hT, hO]; simp [putS]
            rw [eT]
            clear hbig e1 hbg hN' h0 e4 hT hO eT ca
            generalize numS s = N at *
            generalize ws.length = n at *
            --[pb4
            go_enter Try.func17, Try.ntmps17
            go_wp2_with (go_at_call 27; go_must (refine cN.mono ?_); rintro e w2 ⟨rfl, b2⟩; have hB2 := keep b2 HB.out; have hC2 := keep b2 HC.out; obtain ⟨t1, t2, t3, t4⟩ := four_cells hB2; obtain ⟨y1, y2, y3, y4⟩ := four_cells hC2; have f0 := not_frozen hC2 0; have f1 := not_frozen hC2 1; have f2 := not_frozen hC2 2; have f3 := not_frozen hC2 3; have z2 : B + 1 < w2.heap.size := lt_of_block hC2; have z3 : B < w2.heap.size := lt_of_block hB2; have cb2 := cb _ b2; have bb2 : Below B w w2 := bW.trans (b2.mono (by omega)); have HB2 : Hid (_) := hB2; have HC2 : Hid (_) := hC2; clear hB2 hC2)
            refine bodyPost_ret (results_nv2 Try.results17 _ _ (B + 1) _ _ _ _ _ _ rfl rfl (heap_old (heap_old (set_all4 HC2.out _ _ _ _) _) _)) rfl ?_
            have hg := gb_all4 w2 (B + 1) (.slice ao s.a.length acap) (.int .i64 0) (.slice (some ad) s.b.length bcap) (.int .i64 s.d)
            have hz := hg.size
            have hfin := ((bb2.grown hg (by omega) (fun k e => by cases e; omega)).alloc (by omega) (.cells #[.slice ao s.a.length acap, .int .i64 0] 24)).alloc (by simp; omega) (.cells #[.slice ao s.a.length acap, .int .i64 0, .slice (some ad) s.b.length bcap, .int .i64 s.d] 27)
            exact ⟨_, _, rfl, sA.out _ hfin, sB.out _ hfin, .inl rfl, .inl rfl, hfin⟩
            --]pb4
          · have d1 : decide ((1 : Int) < D) = true := decide_eq_true (by omega)
            have hrec : recS s ws = (numS s + 1) :: ws := rfl
            have hrl : (recS s ws).length = ws.length + 1 := rfl
            have HRW : Hid (([numS s + 1] ++ ws).map vw = (recS s ws).map vw) := by unfold Hid; rw [hrec]; rfl
            clear hrec
            have hrl3 : Hid (1 + ws.length = ws.length + 1) := Nat.add_comm _ _
            by_cases hD3 : D < 3 + (ws.length : Int)
            · obtain ⟨m, hm⟩ : ∃ m : Nat, D = (m : Int) + 1 := ⟨(D - 1).toNat, by omega⟩
              subst hm
              have eT : tornS s ws ((m : Int) + 1) = ⟨(recS s ws).take m, 0, s.b, s.d⟩ := by
                unfold tornS
                rw [hbig, if_neg (by simp), if_neg hD0, if_neg hD1, if_pos hD3, hT]
                have : ((m : Int) + 1 - 1).toNat = m := by omega
                rw [this]
                rfl
              rw [eT]
              have d3 : decide ((m : Int) + 1 < 3 + (ws.length : Int)) = true := decide_eq_true hD3
              have hm1 : 1 ≤ m := by omega
              have hmr : m ≤ (recS s ws).length := by rw [hrl]; omega
              clear hbig e1 hbg hN' h0 e4 hT hO eT ca
              generalize numS s = N at *
              generalize recS s ws = R at *
              have hn600 : ws.length ≤ 600 := by omega
              generalize hn9 : ws.length = n at *
              have HNL : Hid (ws.length = n) := hn9
              clear hn9
              --[pb5
              go_enter Try.func17, Try.ntmps17
              go_upto_region 18 with (first
                | (go_at_call 27; go_must (refine cN.mono ?_); rintro e w2 ⟨rfl, b2⟩; have hB2 := keep b2 HB.out; have hC2 := keep b2 HC.out; obtain ⟨t1, t2, t3, t4⟩ := four_cells hB2; obtain ⟨y1, y2, y3, y4⟩ := four_cells hC2; have f0 := not_frozen hC2 0; have f1 := not_frozen hC2 1; have f2 := not_frozen hC2 2; have f3 := not_frozen hC2 3; have z2 : B + 1 < w2.heap.size := lt_of_block hC2; have z3 : B < w2.heap.size := lt_of_block hB2; have cb2 := cb _ b2; have bb2 : Below B w w2 := bW.trans (b2.mono (by omega)); have HB2 : Hid (_) := hB2; have HC2 : Hid (_) := hC2; clear hB2 hC2)
                | (at_builtin; go_must (refine app64 rfl _ _ rfl (w2.heap.size + 1) (.slice (some ⟨w2.heap.size + 1, 0, none⟩) 1 1) 1 [vw (N + 1)] rfl (own_one64 (w2.alloc (.cells #[.slice ao s.a.length acap, .int .i64 0] 24)) (N + 1) (w2.heap.size + 1) (by simp)) (by simp) _ ws rfl (sW.out _ ((bb2.alloc (by omega) _).alloc (by simp; omega) _)) (by rw [HNL.out]; omega) ?_); intro v3 w3 ho3 hg3; have hg3' : World.grownBy ((w2.alloc (.cells #[.slice ao s.a.length acap, .int .i64 0] 24)).alloc (.cells #[.int .i64 (N + 1)] 2)) w3 (some (w2.heap.size + 1)) := hg3; have hS3 : w3.heap[w2.heap.size]? = some (.cells #[.slice ao s.a.length acap, .int .i64 0] 24 (0, 0)) := (hg3'.block _ (by simp; omega) (by simp)).trans (heap_old (heap_new w2 (.cells #[.slice ao s.a.length acap, .int .i64 0] 24)) _); have bq3 : Below w2.heap.size w2 w3 := ((box_below w2 (.cells #[.slice ao s.a.length acap, .int .i64 0] 24)).alloc (by simp) (.cells #[.int .i64 (N + 1)] 2)).grown hg3' (by simp; omega) (fun k e => by cases e; simp); rw [HNL.out] at ho3; obtain ⟨g3, c3, rfl⟩ := own_slice ho3 (by omega); have s3 : SeesI w3 (.slice (some ⟨g3, 0, none⟩) (1 + n) c3) R := (by have h : Row w3 (.slice (some ⟨g3, 0, none⟩) (1 + n) c3) (([N + 1] ++ ws).map vw) := Row.own ho3; rw [HRW.out] at h; exact h); have n3 : New (w2.heap.size + 1) (.slice (some ⟨g3, 0, none⟩) (1 + n) c3) := New.own ho3; have hc3 : 1 + n ≤ c3 := (by have h := s3.le.1; omega); obtain ⟨k1, k2⟩ := two_cells hS3; have k3 := not_frozen hS3 0; have k4 := not_frozen hS3 1; have HS3 : Hid (_) := hS3; have z5 := bq3.size; have z6 : w2.heap.size < w3.heap.size := lt_of_block hS3; clear hg3 hg3' ho3 hS3))
              obtain ⟨u, hu⟩ : ∃ u, w3.setCell ⟨w2.heap.size, 0, none⟩ (.slice (some ⟨g3, 0, none⟩) m c3) = u := ⟨_, rfl⟩
              have bu := below_set (k := 0) (v := .slice (some ⟨g3, 0, none⟩) m c3) (bb2.trans (bq3.mono (by omega))) (Nat.le_of_lt z3) (by omega)
              have hSu := set_two0 HS3.out (.slice (some ⟨g3, 0, none⟩) m c3)
              have hBu := (heap_setCell_other w3 ⟨w2.heap.size, 0, none⟩ B (.slice (some ⟨g3, 0, none⟩) m c3) (by show B ≠ w2.heap.size; omega)).trans ((bq3.block B z3).trans HB2.out)
              have hCu := (heap_setCell_other w3 ⟨w2.heap.size, 0, none⟩ (B + 1) (.slice (some ⟨g3, 0, none⟩) m c3) (by show B + 1 ≠ w2.heap.size; omega)).trans ((bq3.block (B + 1) z2).trans HC2.out)
              have nX : New (w2.heap.size + 1) (.slice (some ⟨g3, 0, none⟩) m c3) := fun k e => n3 k e
              have sX := SeesI.grown (s3.take hmr) nX (gb_setC w3 w2.heap.size 0 (.slice (some ⟨g3, 0, none⟩) m c3)) (fun k e => by cases e; omega)
              rw [hu] at bu hSu hBu hCu sX ⊢
              clear hu
              obtain ⟨q1, q2, q3, q4⟩ := four_cells hBu
              obtain ⟨q5, q6⟩ := two_cells hSu
              obtain ⟨r1, r2, r3, r4⟩ := four_cells hCu
              have e0 := not_frozen hCu 0
              have e1 := not_frozen hCu 1
              have e2 := not_frozen hCu 2
              have e3 := not_frozen hCu 3
              have z7 : B < u.heap.size := lt_of_block hBu
              have z8 : B + 1 < u.heap.size := lt_of_block hCu
              have z9 : w2.heap.size < u.heap.size := lt_of_block hSu
              have HCu : Hid (u.heap[B + 1]? = _) := hCu
              clear hBu hSu hCu
              go_wp2
              refine bodyPost_ret (results_nv2 Try.results17 _ _ (B + 1) _ _ _ _ _ _ rfl rfl (heap_old (set_all4 HCu.out _ _ _ _) _)) rfl ?_
              have hg := gb_all4 u (B + 1) (.slice (some ⟨g3, 0, none⟩) m c3) (.int .i64 0) (.slice (some ad) s.b.length bcap) (.int .i64 s.d)
              have hgz := hg.size
              have hfin := (bu.grown hg (by omega) (fun k e => by cases e; omega)).alloc (by omega) (.cells #[.slice (some ⟨g3, 0, none⟩) m c3, .int .i64 0, .slice (some ad) s.b.length bcap, .int .i64 s.d] 27)
              have sF : SeesI _ (.slice (some ⟨g3, 0, none⟩) m c3) (R.take m) := (SeesI.grown sX nX hg (fun k e => by cases e; omega)).below (box_below _ (.cells #[.slice (some ⟨g3, 0, none⟩) m c3, .int .i64 0, .slice (some ad) s.b.length bcap, .int .i64 s.d] 27))
              exact ⟨_, _, rfl, sF, sB.out _ hfin, .inr (nX.mono (by omega)), .inl rfl, hfin⟩
              --]pb5
            · have d3 : decide (D < 3 + (ws.length : Int)) = false := decide_eq_false hD3
              have eT : tornS s ws D = ⟨recS s ws, comS (recS s ws), s.b, s.d⟩ := by
                unfold tornS
                rw [hbig, if_neg (by simp), if_neg hD0, if_neg hD1, if_neg hD3, hT]
                rfl
              rw [eT]
              clear hbig e1 hbg hN' h0 e4 hT hO eT ca
              --[pb6
              have hR1 : (recS s ws).length ≤ 1000 := by rw [hrl]; omega
              have cM := fun (u : World) (vr : Value) (h : SeesI u vr (recS s ws)) => rcommit_any vr (recS s ws) u hR1 h
              generalize numS s = N at *
              generalize comS (recS s ws) = CM at *
              generalize recS s ws = R at *
              have hn600 : ws.length ≤ 600 := by omega
              generalize hn9 : ws.length = n at *
              have HNL : Hid (ws.length = n) := hn9
              clear hn9
              go_enter Try.func17, Try.ntmps17
              go_upto_region 17 with (first
                | (go_at_call 27; go_must (refine cN.mono ?_); rintro e w2 ⟨rfl, b2⟩; have hB2 := keep b2 HB.out; have hC2 := keep b2 HC.out; obtain ⟨t1, t2, t3, t4⟩ := four_cells hB2; obtain ⟨y1, y2, y3, y4⟩ := four_cells hC2; have f0 := not_frozen hC2 0; have f1 := not_frozen hC2 1; have f2 := not_frozen hC2 2; have f3 := not_frozen hC2 3; have z2 : B + 1 < w2.heap.size := lt_of_block hC2; have z3 : B < w2.heap.size := lt_of_block hB2; have cb2 := cb _ b2; have bb2 : Below B w w2 := bW.trans (b2.mono (by omega)); have HB2 : Hid (_) := hB2; have HC2 : Hid (_) := hC2; clear hB2 hC2)
                | (at_builtin; go_must (refine app64 rfl _ _ rfl (w2.heap.size + 1) (.slice (some ⟨w2.heap.size + 1, 0, none⟩) 1 1) 1 [vw (N + 1)] rfl (own_one64 (w2.alloc (.cells #[.slice ao s.a.length acap, .int .i64 0] 24)) (N + 1) (w2.heap.size + 1) (by simp)) (by simp) _ ws rfl (sW.out _ ((bb2.alloc (by omega) _).alloc (by simp; omega) _)) (by rw [HNL.out]; omega) ?_); intro v3 w3 ho3 hg3; have hg3' : World.grownBy ((w2.alloc (.cells #[.slice ao s.a.length acap, .int .i64 0] 24)).alloc (.cells #[.int .i64 (N + 1)] 2)) w3 (some (w2.heap.size + 1)) := hg3; have hS3 : w3.heap[w2.heap.size]? = some (.cells #[.slice ao s.a.length acap, .int .i64 0] 24 (0, 0)) := (hg3'.block _ (by simp; omega) (by simp)).trans (heap_old (heap_new w2 (.cells #[.slice ao s.a.length acap, .int .i64 0] 24)) _); have bq3 : Below w2.heap.size w2 w3 := ((box_below w2 (.cells #[.slice ao s.a.length acap, .int .i64 0] 24)).alloc (by simp) (.cells #[.int .i64 (N + 1)] 2)).grown hg3' (by simp; omega) (fun k e => by cases e; simp); rw [HNL.out] at ho3; obtain ⟨g3, c3, rfl⟩ := own_slice ho3 (by omega); have s3 : SeesI w3 (.slice (some ⟨g3, 0, none⟩) (1 + n) c3) R := (by have h : Row w3 (.slice (some ⟨g3, 0, none⟩) (1 + n) c3) (([N + 1] ++ ws).map vw) := Row.own ho3; rw [HRW.out] at h; exact h); have n3 : New (w2.heap.size + 1) (.slice (some ⟨g3, 0, none⟩) (1 + n) c3) := New.own ho3; have hc3 : 1 + n ≤ c3 := (by have h := s3.le.1; omega); obtain ⟨k1, k2⟩ := two_cells hS3; have k3 := not_frozen hS3 0; have k4 := not_frozen hS3 1; have HS3 : Hid (_) := hS3; have z5 := bq3.size; have z6 : w2.heap.size < w3.heap.size := lt_of_block hS3; clear hg3 hg3' ho3 hS3))
              have bu := below_set (k := 0) (v := .slice (some ⟨g3, 0, none⟩) (1 + n) c3) (bb2.trans (bq3.mono (by omega))) (Nat.le_of_lt z3) (by omega)
              have hSu := set_two0 HS3.out (.slice (some ⟨g3, 0, none⟩) (1 + n) c3)
              have hBu := (heap_setCell_other w3 ⟨w2.heap.size, 0, none⟩ B (.slice (some ⟨g3, 0, none⟩) (1 + n) c3) (by show B ≠ w2.heap.size; omega)).trans ((bq3.block B z3).trans HB2.out)
              have hCu := (heap_setCell_other w3 ⟨w2.heap.size, 0, none⟩ (B + 1) (.slice (some ⟨g3, 0, none⟩) (1 + n) c3) (by show B + 1 ≠ w2.heap.size; omega)).trans ((bq3.block (B + 1) z2).trans HC2.out)
              have nX : New (w2.heap.size + 1) (.slice (some ⟨g3, 0, none⟩) (1 + n) c3) := fun k e => n3 k e
              have sX := SeesI.grown s3 nX (gb_setC w3 w2.heap.size 0 (.slice (some ⟨g3, 0, none⟩) (1 + n) c3)) (fun k e => by cases e; omega)
              obtain ⟨u0, hu⟩ : ∃ u, w3.setCell ⟨w2.heap.size, 0, none⟩ (.slice (some ⟨g3, 0, none⟩) (1 + n) c3) = u := ⟨_, rfl⟩
              rw [hu] at bu hSu hBu hCu sX ⊢
              clear hu
              have HX : Hid (_ ∧ _ ∧ _ ∧ _ ∧ _) := ⟨bu, hSu, hBu, hCu, sX⟩
              have cM' := cM u0 _ sX
              clear bu hSu hBu hCu sX cM
              go_upto_region 18 with (go_at_call 20; go_must (refine cM'.mono ?_); rintro e w5 ⟨rfl, b5⟩; have hS5 := keep b5 HX.out.2.1; obtain ⟨k5, k6⟩ := two_cells hS5; have k7 := not_frozen hS5 1)
              obtain ⟨bu0, hSu0, hBu0, hCu0, sX0⟩ := HX.out
              have zz := b5.size
              have zy : w2.heap.size < u0.heap.size := lt_of_block hSu0
              have bu := below_set (k := 1) (b := w2.heap.size) (v := .int .i64 CM) (bu0.trans (b5.mono (by omega))) (Nat.le_of_lt z3) (by omega)
              have hSu := set_two1 (keep b5 hSu0) (.int .i64 CM)
              have hBu := (heap_setCell_other w5 ⟨w2.heap.size, 1, none⟩ B (.int .i64 CM) (by show B ≠ w2.heap.size; omega)).trans (keep b5 hBu0)
              have hCu := (heap_setCell_other w5 ⟨w2.heap.size, 1, none⟩ (B + 1) (.int .i64 CM) (by show B + 1 ≠ w2.heap.size; omega)).trans (keep b5 hCu0)
              have sX := SeesI.grown (sX0.below b5) nX (gb_setC w5 w2.heap.size 1 (.int .i64 CM)) (fun k e => by cases e; omega)
              obtain ⟨u, hu⟩ : ∃ u, w5.setCell ⟨w2.heap.size, 1, none⟩ (.int .i64 CM) = u := ⟨_, rfl⟩
              rw [hu] at bu hSu hBu hCu sX ⊢
              clear hu HX bu0 hSu0 hBu0 hCu0 sX0 zy
              obtain ⟨q1, q2, q3, q4⟩ := four_cells hBu
              obtain ⟨q5, q6⟩ := two_cells hSu
              obtain ⟨r1, r2, r3, r4⟩ := four_cells hCu
              have e0 := not_frozen hCu 0
              have e1 := not_frozen hCu 1
              have e2 := not_frozen hCu 2
              have e3 := not_frozen hCu 3
              have z7 : B < u.heap.size := lt_of_block hBu
              have z8 : B + 1 < u.heap.size := lt_of_block hCu
              have z9 : w2.heap.size < u.heap.size := lt_of_block hSu
              have HCu : Hid (u.heap[B + 1]? = _) := hCu
              clear hBu hSu hCu
              go_wp2
              refine bodyPost_ret (results_nv2 Try.results17 _ _ (B + 1) _ _ _ _ _ _ rfl rfl (heap_old (set_all4 HCu.out _ _ _ _) _)) rfl ?_
              have hg := gb_all4 u (B + 1) (.slice (some ⟨g3, 0, none⟩) (1 + n) c3) (.int .i64 CM) (.slice (some ad) s.b.length bcap) (.int .i64 s.d)
              have hgz := hg.size
              have hfin := (bu.grown hg (by omega) (fun k e => by cases e; omega)).alloc (by omega) (.cells #[.slice (some ⟨g3, 0, none⟩) (1 + n) c3, .int .i64 CM, .slice (some ad) s.b.length bcap, .int .i64 s.d] 27)
              have sF : SeesI _ (.slice (some ⟨g3, 0, none⟩) (1 + n) c3) (R) := (SeesI.grown sX nX hg (fun k e => by cases e; omega)).below (box_below _ (.cells #[.slice (some ⟨g3, 0, none⟩) (1 + n) c3, .int .i64 CM, .slice (some ad) s.b.length bcap, .int .i64 s.d] 27))
              exact ⟨_, _, rfl, sF, sB.out _ hfin, .inr (nX.mono (by omega)), .inl rfl, hfin⟩
              --]pb6
end Go.Proofs.Ytcfobifldlkfnaa.Gr
