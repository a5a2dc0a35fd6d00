/-
  The record that is written next: the code's.
-/
import Derived.Test.YtcfobifldlkfnaaNW
import Derived.OwnWalk
namespace Go.Proofs.Ytcfobifldlkfnaa.Gr
open Go.RowKit Go.Sort Qm Nm
set_option linter.unusedVariables false

set_option maxRecDepth 20000 in
set_option maxHeartbeats 2000000 in
theorem next_big (v vw' : Value) (s : Nv) (ws : List Int) (w : World) (hna : s.a.length ≤ 1000) (hnb : s.b.length ≤ 1000) (hn : ws.length ≤ 1000) (sv : SeesN w v s) (sw : SeesI w vw' ws) (hb : bigS s ws = true) :
    Calls Try.prog 28 #[v, vw'] w fun e w' => e = .returned (.tuple #[.int .i64 (-1), .slice none 0 0, .int .i64 5]) ∧ Below w.heap.size w w' := by
  obtain ⟨va, vb', rfl, sa, sb⟩ := sv
  obtain ⟨wo, wcap, rfl⟩ := sw.slice
  by_cases h6 : 600 < ws.length
  · have d6 : decide ((600 : Int) < (ws.length : Int)) = true := decide_eq_true (by omega)
    have b0 := box_below w (.cells #[va, .int .i64 s.c, vb', .int .i64 s.d] 25)
    obtain ⟨ao, acap, rfl⟩ := sa.slice
    obtain ⟨bo, bcap, rfl⟩ := sb.slice
    clear sa sb sw hb
    generalize ws.length = n at *
    --[a
    go_enter Try.func28, Try.ntmps28
    go_wp2
    go_ret3
    exact ⟨rfl, b0⟩
    --]a
  · have hf : numS s = 4611686018427387904 := by rcases bigS_iff.1 hb with h | h; exact absurd h h6; exact h
    have d6 : decide ((600 : Int) < (ws.length : Int)) = false := decide_eq_false (by omega)
    have h6' : (ws.length : Int) ≤ 600 := by omega
    obtain ⟨ao, acap, rfl⟩ := sa.slice
    obtain ⟨bo, bcap, rfl⟩ := sb.slice
    obtain ⟨W, hW⟩ : ∃ W, w.alloc (.cells #[.slice ao s.a.length acap, .int .i64 s.c, .slice bo s.b.length bcap, .int .i64 s.d] 25) = W := ⟨_, rfl⟩
    have bW : Below w.heap.size w W := by rw [← hW]; exact box_below _ _
    have hB := heap_new w (.cells #[.slice ao s.a.length acap, .int .i64 s.c, .slice bo s.b.length bcap, .int .i64 s.d] 25)
    rw [hW] at hB
    have sA := sa.below bW
    have sB := sb.below bW
    have cN := newest_any (.slice ao s.a.length acap) (.slice bo s.b.length bcap) s W hna hnb sA sB
    have hpn : plc s ≠ -1 := fun h => by unfold numS at hf; rw [h] at hf; simp at hf
    have hpa : plc s = 0 → 0 < s.a.length ∧ hd s.a = 4611686018427387904 := fun h => ⟨(whS_iff.1 (plc_zero h)).1, by unfold numS at hf; rw [if_pos h] at hf; exact hf⟩
    have hpb : plc s = 1 → 0 < s.b.length ∧ hd s.b = 4611686018427387904 := fun h => ⟨(whS_iff.1 (plc_one h)).1, by unfold numS at hf; rw [h] at hf; simpa using hf⟩
    obtain ⟨B, hBe⟩ : ∃ B, w.heap.size = B := ⟨_, rfl⟩
    have HBe : Hid (w.heap.size = B) := hBe
    rw [hBe] at hB bW ⊢
    obtain ⟨p1, p2, p3, p4⟩ := four_cells hB
    rcases plc_cases s with h0 | h0 | h0
    · exact absurd h0 hpn
    · obtain ⟨hl, hx⟩ := hpa h0
      obtain ⟨ad, hao, _, ca⟩ := hd_cell sA hl
      rw [hx] at ca
      rw [h0] at cN
      subst hao
      clear hpa hpb hpn h0 sa sb sA sB sw hf hx hb h6
      generalize ws.length = n at *
      generalize s.a.length = na at *
      generalize s.b.length = nb at *
      have hl' : (0 : Int) < (na : Int) := by omega
      have cb := fun (u : World) (h : Below W.heap.size W u) => (h.cell (block_lt_of_cell ca)).trans ca
      have HB : Hid (W.heap[B]? = _) := hB
      clear hB
      --[b
      go_enter Try.func28, Try.ntmps28
      go_wp2_with (go_at_call 25; go_must (refine cN.mono ?_); rintro e w2 ⟨rfl, b2⟩; obtain ⟨t1, t2, t3, t4⟩ := four_cells (keep b2 HB.out); have cb2 := cb _ b2)
      go_quiet (fail)
      go_wp2
      go_ret3
      exact ⟨rfl, (bW.trans (b2.mono (by have := bW.size; have := HBe.out; omega))).trans (below_drewN (Below.refl _ _) _)⟩
      --]b
    · obtain ⟨hl, hx⟩ := hpb h0
      obtain ⟨bd, hbo, _, ca⟩ := hd_cell sB hl
      rw [hx] at ca
      rw [h0] at cN
      subst hbo
      clear hpa hpb hpn h0 sa sb sA sB sw hf hx hb h6
      generalize ws.length = n at *
      generalize s.a.length = na at *
      generalize s.b.length = nb at *
      have hl' : (0 : Int) < (nb : Int) := by omega
      have cb := fun (u : World) (h : Below W.heap.size W u) => (h.cell (block_lt_of_cell ca)).trans ca
      have HB : Hid (W.heap[B]? = _) := hB
      clear hB
      --[c
      go_enter Try.func28, Try.ntmps28
      go_wp2_with (go_at_call 25; go_must (refine cN.mono ?_); rintro e w2 ⟨rfl, b2⟩; obtain ⟨t1, t2, t3, t4⟩ := four_cells (keep b2 HB.out); have cb2 := cb _ b2)
      go_quiet (fail)
      go_wp2
      go_ret3
      exact ⟨rfl, (bW.trans (b2.mono (by have := bW.size; have := HBe.out; omega))).trans (below_drewN (Below.refl _ _) _)⟩
      --]c
set_option maxRecDepth 20000 in
set_option maxHeartbeats 2000000 in
theorem next_ok (v vw' : Value) (s : Nv) (ws : List Int) (w : World) (hna : s.a.length ≤ 1000) (hnb : s.b.length ≤ 1000) (sv : SeesN w v s) (sw : SeesI w vw' ws) (hb : bigS s ws = false) :
    Calls Try.prog 28 #[v, vw'] w fun e w' => ∃ vr, e = .returned (.tuple #[.int .i64 (if toS s = true then 1 else 0), vr, .int .i64 0]) ∧ SeesI w' vr (recS s ws) ∧ New w.heap.size vr ∧ Below w.heap.size w w' := by
  obtain ⟨va, vb', rfl, sa, sb⟩ := sv
  obtain ⟨wo, wcap, rfl⟩ := sw.slice
  obtain ⟨h6, hf⟩ := bigS_no hb
  have hr := numS_range s
  have d6 : decide ((600 : Int) < (ws.length : Int)) = false := decide_eq_false (by omega)
  have h6' : (ws.length : Int) ≤ 600 := by omega
  obtain ⟨ao, acap, rfl⟩ := sa.slice
  obtain ⟨bo, bcap, rfl⟩ := sb.slice
  obtain ⟨W, hW⟩ : ∃ W, w.alloc (.cells #[.slice ao s.a.length acap, .int .i64 s.c, .slice bo s.b.length bcap, .int .i64 s.d] 25) = W := ⟨_, rfl⟩
  have bW : Below w.heap.size w W := by rw [← hW]; exact box_below _ _
  have hB := heap_new w (.cells #[.slice ao s.a.length acap, .int .i64 s.c, .slice bo s.b.length bcap, .int .i64 s.d] 25)
  rw [hW] at hB
  have sA := sa.below bW
  have sB := sb.below bW
  have sW := sw.below bW
  have cN := newest_any (.slice ao s.a.length acap) (.slice bo s.b.length bcap) s W hna hnb sA sB
  have hpa : plc s = 0 → 0 < s.a.length ∧ hd s.a = numS s := fun h => ⟨(whS_iff.1 (plc_zero h)).1, by unfold numS; rw [if_pos h]⟩
  have hpb : plc s = 1 → 0 < s.b.length ∧ hd s.b = numS s := fun h => ⟨(whS_iff.1 (plc_one h)).1, by unfold numS; rw [h]; simp⟩
  have hpn : plc s = -1 → numS s = 0 := fun h => by unfold numS; rw [h]; simp
  have cC := fun (u : World) (q : Nat) (t : TypeId) (v1 : Value) (hq : u.heap[q]? = some (.cells #[v1, .slice wo ws.length wcap] t (0, 0))) (s1 : SeesI u v1 [numS s + 1]) (h : Below W.heap.size W u) =>
    concat64 q t v1 (.slice wo ws.length wcap) [numS s + 1] ws (by show 0 < 1 + ws.length; omega) (by show 1 ≤ _; omega) (by omega) u hq s1 (sW.below h)
  have HR : Hid ([numS s + 1] ++ ws = recS s ws) := rfl
  have HL : Hid ((recS s ws).length = ws.length + 1) := rfl
  have eT : (if toS s = true then (1 : Int) else 0) = if plc s = 0 then 1 else 0 := by unfold toS; by_cases h : plc s = 0 <;> simp [h]
  rw [eT]
  obtain ⟨B, hBe⟩ : ∃ B, w.heap.size = B := ⟨_, rfl⟩
  have HBe : Hid (w.heap.size = B) := hBe
  rw [hBe] at hB bW ⊢
  obtain ⟨p1, p2, p3, p4⟩ := four_cells hB
  have HB : Hid (W.heap[B]? = _) := hB
  have hwsz : B + 1 ≤ W.heap.size := lt_of_block hB
  have hon := fun (u : World) => one64 u (numS s + 1)
  generalize recS s ws = R at *
  generalize numS s = N at *
  have hN9 : wrap64 (N + 1) = N + 1 := by unfold wrap64; omega
  have dN : decide (N = 4611686018427387904) = false := decide_eq_false (by omega)
  have dN' : (N == 4611686018427387904) = false := by simp; omega
  have e1 : [N + 1].length = 1 := rfl
  rw [e1] at cC
  rcases plc_cases s with h0 | h0 | h0
  · have hx := hpn h0
    subst hx
    rw [h0] at cN ⊢
    clear hpa hpb hpn h0 sa sb sA sB sw hb h6 eT hB e1
    generalize ws.length = n at *
    generalize s.a.length = na at *
    generalize s.b.length = nb at *
    --[d
    go_enter Try.func28, Try.ntmps28
    go_wp2_with (first
      | (go_at_call 25; go_must (refine cN.mono ?_); rintro e w2 ⟨rfl, b2⟩)
      | (go_at_call 38; go_must (refine (cC _ _ _ _ (heaps2 _ _ _).2 ((hon w2).below (box_below _ _)) (bt b2 (bt (box_below _ _) (box_below _ _)))).mono ?_); rintro e w3 ⟨g, G, rfl, ho3, b3⟩))
    go_ret3
    have bb := bt b2 (bt (bt (box_below _ _) (box_below _ _)) b3)
    have sR : SeesI w3 _ ([0 + 1] ++ ws) := Row.own ho3
    rw [HR.out] at sR
    exact ⟨_, rfl, sR, (New.own ho3).mono (le_alloc (le_alloc (by have := b2.size; omega) _) _), bW.trans (bb.mono (by omega))⟩
    --]d
  · obtain ⟨hl, hx⟩ := hpa h0
    obtain ⟨ad, hao, _, ca⟩ := hd_cell sA hl
    rw [hx] at ca
    rw [h0] at cN ⊢
    subst hao
    clear hpa hpb hpn h0 sa sb sA sB sw hb h6 eT hB e1 hx
    generalize ws.length = n at *
    generalize s.a.length = na at *
    generalize s.b.length = nb at *
    have hl' : (0 : Int) < (na : Int) := by omega
    have cb := fun (u : World) (h : Below W.heap.size W u) => (h.cell (block_lt_of_cell ca)).trans ca
    --[e
    go_enter Try.func28, Try.ntmps28
    go_wp2_with (go_at_call 25; go_must (refine cN.mono ?_); rintro e w2 ⟨rfl, b2⟩; obtain ⟨t1, t2, t3, t4⟩ := four_cells (keep b2 HB.out); have cb2 := cb _ b2)
    go_quiet (fail)
    have b2' := b2.trans (below_drewN (Below.refl _ _) nq)
    generalize w2.drewN nq = w5 at b2' ⊢
    go_wp2_with (go_at_call 38; go_must (refine (cC _ _ _ _ (heaps2 _ _ _).2 ((hon w5).below (box_below _ _)) (bt b2' (bt (box_below _ _) (box_below _ _)))).mono ?_); rintro e w3 ⟨g, G, rfl, ho3, b3⟩)
    go_ret3
    have bb := bt b2' (bt (bt (box_below _ _) (box_below _ _)) b3)
    have sR : SeesI w3 _ ([N + 1] ++ ws) := Row.own ho3
    rw [HR.out] at sR
    exact ⟨_, rfl, sR, (New.own ho3).mono (le_alloc (le_alloc (by have := b2'.size; omega) _) _), bW.trans (bb.mono (by omega))⟩
    --]e
  · obtain ⟨hl, hx⟩ := hpb h0
    obtain ⟨bd, hbo, _, ca⟩ := hd_cell sB hl
    rw [hx] at ca
    rw [h0] at cN ⊢
    subst hbo
    clear hpa hpb hpn h0 sa sb sA sB sw hb h6 eT hB e1 hx
    generalize ws.length = n at *
    generalize s.a.length = na at *
    generalize s.b.length = nb at *
    have hl' : (0 : Int) < (nb : Int) := by omega
    have cb := fun (u : World) (h : Below W.heap.size W u) => (h.cell (block_lt_of_cell ca)).trans ca
    --[f
    go_enter Try.func28, Try.ntmps28
    go_wp2_with (go_at_call 25; go_must (refine cN.mono ?_); rintro e w2 ⟨rfl, b2⟩; obtain ⟨t1, t2, t3, t4⟩ := four_cells (keep b2 HB.out); have cb2 := cb _ b2)
    go_quiet (fail)
    have b2' := b2.trans (below_drewN (Below.refl _ _) nq)
    generalize w2.drewN nq = w5 at b2' ⊢
    go_wp2_with (go_at_call 38; go_must (refine (cC _ _ _ _ (heaps2 _ _ _).2 ((hon w5).below (box_below _ _)) (bt b2' (bt (box_below _ _) (box_below _ _)))).mono ?_); rintro e w3 ⟨g, G, rfl, ho3, b3⟩)
    go_ret3
    have bb := bt b2' (bt (bt (box_below _ _) (box_below _ _)) b3)
    have sR : SeesI w3 _ ([N + 1] ++ ws) := Row.own ho3
    rw [HR.out] at sR
    exact ⟨_, rfl, sR, (New.own ho3).mono (le_alloc (le_alloc (by have := b2'.size; omega) _) _), bW.trans (bb.mono (by omega))⟩
    --]f
end Go.Proofs.Ytcfobifldlkfnaa.Gr
