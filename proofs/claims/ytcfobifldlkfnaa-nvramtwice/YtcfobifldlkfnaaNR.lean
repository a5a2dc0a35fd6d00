/-
  What is kept: the code's Read.
-/
import Derived.Test.YtcfobifldlkfnaaNX
import Derived.Deep.RegionWith
namespace Go.Proofs.Ytcfobifldlkfnaa.Gr
open Go.RowKit Go.Sort Qm Nm
set_option linter.unusedVariables false

theorem drop_one {w : World} {ad : Addr} {n cap : Nat} {xs : List Int} (h : SeesI w (.slice (some ad) n cap) xs) (h0 : 0 < xs.length) :
    (¬ cap = 1 → SeesI w (.slice (some ⟨ad.block, ad.off + 1, none⟩) (n - 1) (cap - 1)) (xs.drop 1)) ∧ (cap = 1 → SeesI w (.slice (some ad) (n - 1) 0) (xs.drop 1)) := by
  have h1 := h.drop (k := 1) h0
  have e : ad.add 1 = ⟨ad.block, ad.off + 1, none⟩ := by unfold Addr.add; simp
  constructor
  · intro hc
    rw [if_neg hc] at h1
    simp only [Option.map_some, e] at h1
    exact h1
  · intro hc
    rw [if_pos hc, hc] at h1
    exact h1
set_option maxRecDepth 20000 in
set_option maxHeartbeats 2000000 in
theorem read_any (v : Value) (s : Nv) (w : World) (hna : s.a.length ≤ 1000) (hnb : s.b.length ≤ 1000) (sv : SeesN w v s) :
    Calls Try.prog 12 #[v] w fun e w' => ∃ vr, e = .returned (.tuple #[vr, .int .i64 (numS s), .bool (isS s)]) ∧ SeesI w' vr (keptS s) ∧ Below w.heap.size w w' := by
  obtain ⟨va, vb', rfl, sa, sb⟩ := sv
  obtain ⟨ao, acap, rfl⟩ := sa.slice
  obtain ⟨bo, bcap, rfl⟩ := sb.slice
  obtain ⟨W, hW⟩ : ∃ W, w.alloc (.cells #[.slice ao s.a.length acap, .int .i64 s.c, .slice bo s.b.length bcap, .int .i64 s.d] 27) = W := ⟨_, rfl⟩
  have bW : Below w.heap.size w W := by rw [← hW]; exact box_below _ _
  have hB := heap_new w (.cells #[.slice ao s.a.length acap, .int .i64 s.c, .slice bo s.b.length bcap, .int .i64 s.d] 27)
  rw [hW] at hB
  have sA := sa.below bW
  have sB := sb.below bW
  have cN := newest_any (.slice ao s.a.length acap) (.slice bo s.b.length bcap) s W hna hnb sA sB
  obtain ⟨B, hBe⟩ : ∃ B, w.heap.size = B := ⟨_, rfl⟩
  have HBe : Hid (w.heap.size = B) := hBe
  rw [hBe] at hB bW ⊢
  obtain ⟨p1, p2, p3, p4⟩ := four_cells hB
  have HB : Hid (W.heap[B]? = _) := hB
  have hwsz : B + 1 ≤ W.heap.size := lt_of_block hB
  rcases plc_cases s with h0 | h0 | h0
  · have e1 : numS s = 0 := by unfold numS; rw [h0]; rfl
    have e2 : keptS s = [] := by unfold keptS; rw [h0]; rfl
    have e3 : isS s = false := by unfold isS; rw [h0]; rfl
    rw [e1, e2, e3]
    rw [h0] at cN
    clear e1 e2 e3 h0 sa sb sA sB hB
    generalize s.a.length = na at *
    generalize s.b.length = nb at *
    --[a
    go_enter Try.func12, Try.ntmps12
    go_wp2_with (go_at_call 25; go_must (refine cN.mono ?_); rintro e w2 ⟨rfl, b2⟩)
    go_ret3
    exact ⟨_, rfl, Row.nil _, bW.trans (b2.mono (by omega))⟩
    --]a
  · have hl := (whS_iff.1 (plc_zero h0)).1
    have e1 : numS s = hd s.a := by unfold numS; rw [if_pos h0]
    have e2 : keptS s = s.a.drop 1 := by unfold keptS; rw [if_pos h0]
    have e3 : isS s = true := by unfold isS; rw [h0]; rfl
    rw [e1, e2, e3]
    rw [h0] at cN
    obtain ⟨ad, hao, _, ca⟩ := hd_cell sA hl
    subst hao
    have cb := fun (u : World) (h : Below W.heap.size W u) => (h.cell (block_lt_of_cell ca)).trans ca
    have HD := fun (u : World) (h : Below W.heap.size W u) => drop_one (sA.below h) hl
    have hdl : (s.a.drop 1).length ≤ 1000 := by rw [List.length_drop]; omega
    have hcap := sA.le.1
    clear e1 e2 e3 h0 sa sb sA sB hB
    generalize s.a.drop 1 = T at *
    generalize hd s.a = x at *
    generalize s.a.length = na at *
    generalize s.b.length = nb at *
    have cC := fun (u : World) (v : Value) (h : SeesI u v T) => clone64 v T (by omega) u h
    have hl' : (0 : Int) < (na : Int) := by omega
    have hl2 : (1 : Int) ≤ (na : Int) := by omega
    have hl3 : (na : Int) ≤ (acap : Int) := by omega
    have hl4 : (1 : Int) ≤ (acap : Int) := by omega
    have hl5 : na ≤ acap := by omega
    have hl6 : 1 ≤ na := by omega
    by_cases hc : acap = 1
    · subst hc
      have hz : na - 1 = 0 := by omega
      have HD' := fun (u : World) (h : Below W.heap.size W u) => (HD u h).2 rfl
      simp only [hz] at HD'
      clear HD
      --[b
      go_enter Try.func12, Try.ntmps12
      go_wp2_with (go_at_call 25; go_must (refine cN.mono ?_); rintro e w2 ⟨rfl, b2⟩; obtain ⟨t1, t2, t3, t4⟩ := four_cells (keep b2 HB.out); have cb2 := cb _ b2)
      have bd : Below W.heap.size W w2.drew := b2.drew
      go_region_with (go_at_call 26; go_must (refine (cC _ _ (HD' _ bd)).mono ?_); rintro e w3 ⟨v3, rfl, ho3, b3⟩; have bb3 := bt bd b3; have cb3 := cb _ bb3)
      all_goals (try go_wp2)
      all_goals go_ret3
      all_goals exact ⟨_, rfl, Row.own ho3, bW.trans (bb3.mono (by omega))⟩
      --]b
    · have HD' := fun (u : World) (h : Below W.heap.size W u) => (HD u h).1 hc
      clear HD
      --[c
      go_enter Try.func12, Try.ntmps12
      go_wp2_with (go_at_call 25; go_must (refine cN.mono ?_); rintro e w2 ⟨rfl, b2⟩; obtain ⟨t1, t2, t3, t4⟩ := four_cells (keep b2 HB.out); have cb2 := cb _ b2)
      have bd : Below W.heap.size W w2.drew := b2.drew
      go_region_with (go_at_call 26; go_must (refine (cC _ _ (HD' _ bd)).mono ?_); rintro e w3 ⟨v3, rfl, ho3, b3⟩; have bb3 := bt bd b3; have cb3 := cb _ bb3)
      all_goals (try go_wp2)
      all_goals go_ret3
      all_goals exact ⟨_, rfl, Row.own ho3, bW.trans (bb3.mono (by omega))⟩
      --]c
  · have hl := (whS_iff.1 (plc_one h0)).1
    have e1 : numS s = hd s.b := by unfold numS; rw [h0]; rfl
    have e2 : keptS s = s.b.drop 1 := by unfold keptS; rw [h0]; rfl
    have e3 : isS s = true := by unfold isS; rw [h0]; rfl
    rw [e1, e2, e3]
    rw [h0] at cN
    obtain ⟨ad, hao, _, ca⟩ := hd_cell sB hl
    subst hao
    have cb := fun (u : World) (h : Below W.heap.size W u) => (h.cell (block_lt_of_cell ca)).trans ca
    have HD := fun (u : World) (h : Below W.heap.size W u) => drop_one (sB.below h) hl
    have hdl : (s.b.drop 1).length ≤ 1000 := by rw [List.length_drop]; omega
    have hcap := sB.le.1
    clear e1 e2 e3 h0 sa sb sA sB hB
    generalize s.b.drop 1 = T at *
    generalize hd s.b = x at *
    generalize s.a.length = na at *
    generalize s.b.length = nb at *
    have cC := fun (u : World) (v : Value) (h : SeesI u v T) => clone64 v T (by omega) u h
    have hl' : (0 : Int) < (nb : Int) := by omega
    have hl2 : (1 : Int) ≤ (nb : Int) := by omega
    have hl3 : (nb : Int) ≤ (bcap : Int) := by omega
    have hl4 : (1 : Int) ≤ (bcap : Int) := by omega
    have hl5 : nb ≤ bcap := by omega
    have hl6 : 1 ≤ nb := by omega
    by_cases hc : bcap = 1
    · subst hc
      have hz : nb - 1 = 0 := by omega
      have HD' := fun (u : World) (h : Below W.heap.size W u) => (HD u h).2 rfl
      simp only [hz] at HD'
      clear HD
      --[d
      go_enter Try.func12, Try.ntmps12
      go_wp2_with (go_at_call 25; go_must (refine cN.mono ?_); rintro e w2 ⟨rfl, b2⟩; obtain ⟨t1, t2, t3, t4⟩ := four_cells (keep b2 HB.out); have cb2 := cb _ b2)
      have bd : Below W.heap.size W w2.drew := b2.drew
      go_region_with (go_at_call 26; go_must (refine (cC _ _ (HD' _ bd)).mono ?_); rintro e w3 ⟨v3, rfl, ho3, b3⟩; have bb3 := bt bd b3; have cb3 := cb _ bb3)
      all_goals (try go_wp2)
      all_goals go_ret3
      all_goals exact ⟨_, rfl, Row.own ho3, bW.trans (bb3.mono (by omega))⟩
      --]d
    · have HD' := fun (u : World) (h : Below W.heap.size W u) => (HD u h).1 hc
      clear HD
      --[e
      go_enter Try.func12, Try.ntmps12
      go_wp2_with (go_at_call 25; go_must (refine cN.mono ?_); rintro e w2 ⟨rfl, b2⟩; obtain ⟨t1, t2, t3, t4⟩ := four_cells (keep b2 HB.out); have cb2 := cb _ b2)
      have bd : Below W.heap.size W w2.drew := b2.drew
      go_region_with (go_at_call 26; go_must (refine (cC _ _ (HD' _ bd)).mono ?_); rintro e w3 ⟨v3, rfl, ho3, b3⟩; have bb3 := bt bd b3; have cb3 := cb _ bb3)
      all_goals (try go_wp2)
      all_goals go_ret3
      all_goals exact ⟨_, rfl, Row.own ho3, bW.trans (bb3.mono (by omega))⟩
      --]e
end Go.Proofs.Ytcfobifldlkfnaa.Gr
