/-
  What is kept: the document's Read.
-/
import Derived.Test.YtcfobifldlkfnaaNNr2
import Derived.Test.YtcfobifldlkfnaaNR
namespace Go.Proofs.Ytcfobifldlkfnaa.Gr
open Go.RowKit Go.Sort Qm Nm
set_option linter.unusedVariables false

/-- 'append' of a row of words, whatever it is, to an own row, as a step of a region that draws -/
theorem step64v {ops : Array Oper} {o : Oper} {a : Act} {w : World} {K : Act → World → Prop} {Q : Exit → Act → World → Prop} {E : Prop} (hg : o.guard = none) (s x : Operand)
    (hop : o.op = Op.call { callee := Callee.builtin Builtin.append, args := #[s, x], argTypes := #[22, 22] }) (base : Nat) (v : Value) (n : Nat) (xs : List Value)
    (hs : a.eval s = v) (hown : w.ownsRow base 2 1 v n xs) (hb : base ≤ w.heap.size) (vx : Value) (zs : List Int) (hx : a.eval x = vx) (sx : SeesI w vx zs) (hl : n + zs.length ≤ 100000)
    (hK : ∀ v' w', w'.ownsRow base 2 1 v' (n + zs.length) (xs ++ zs.map vw) → w.grownBy w' v.ownBlock → K (a.put o.dst v') w') :
    if Region.wanted o (yielded ops a.tmps) = true then Oper.wp Try.prog o a w K Q else E := by
  have hw : Region.wanted o (yielded ops a.tmps) = true := by simp [Region.wanted, hg]
  rw [if_pos hw]
  obtain ⟨i0, hi, hz0, hz1, hz2⟩ := info_parts info2
  obtain ⟨ao, cap, rfl⟩ := sx.slice
  cases ao with
  | some ad =>
    obtain ⟨v', w', hrun, r1, r2, _⟩ := run_append_own (P := Try.prog) w base 22 o.type 2 i0 (.int .i64 0) 1 8 under22 hi hz0 hz1 hz2 rfl (by decide) v n xs hown ad zs.length cap (zs.map vw) (by simp) (seesI_cells sx) (ws_one zs) (by unfold maxLen; omega) (by omega) hb
    unfold Oper.wp
    simp [execOp, hop, resolve, invoke, builtin, hs, hx, hrun, Result.andThen]
    exact hK v' w' r1 r2
  | none =>
    have h0 : zs.length = 0 := by have := (Row.of_none sx).1; simpa using this
    have hc0 : cap = 0 := (Row.of_none sx).2
    obtain rfl : zs = [] := List.eq_nil_of_length_eq_zero h0
    subst hc0
    have hrun := run_append_owned_none (P := Try.prog) w base 22 o.type 2 i0 1 under22 hi _ n xs hown
    unfold Oper.wp
    simp [execOp, hop, resolve, invoke, builtin, hs, hx, hrun, Result.andThen]
    exact hK v w (by simpa using hown) (gb_refl _ _)
set_option maxRecDepth 20000 in
set_option maxHeartbeats 2000000 in
theorem rread_any (v : Value) (s : Nv) (w : World) (hna : s.a.length ≤ 1000) (hnb : s.b.length ≤ 1000) (sv : SeesN w v s) :
    Calls Try.prog 13 #[v] w fun e w' => ∃ vr, e = .returned (.tuple #[vr, .int .i64 (numS s), .bool (isS s)]) ∧ SeesI w' vr (keptS s) ∧ Below w.heap.size w w' := by
  obtain ⟨va, vb', rfl, sa, sb⟩ := sv
  obtain ⟨ao, acap, rfl⟩ := sa.slice
  obtain ⟨bo, bcap, rfl⟩ := sb.slice
  obtain ⟨W, hW⟩ : ∃ W, w.alloc (.cells #[.slice ao s.a.length acap, .int .i64 s.c, .slice bo s.b.length bcap, .int .i64 s.d] 27) = W := ⟨_, rfl⟩
  have bW : Below w.heap.size w W := by rw [← hW]; exact box_below _ _
  have hB := heap_new w (.cells #[.slice ao s.a.length acap, .int .i64 s.c, .slice bo s.b.length bcap, .int .i64 s.d] 27)
  rw [hW] at hB
  have sA := sa.below bW
  have sB := sb.below bW
  have cN := rnewest_any (.slice ao s.a.length acap) (.slice bo s.b.length bcap) s W hna hnb sA sB
  obtain ⟨B, hBe⟩ : ∃ B, w.heap.size = B := ⟨_, rfl⟩
  have HBe : Hid (w.heap.size = B) := hBe
  rw [hBe] at hB bW ⊢
  obtain ⟨p1, p2, p3, p4⟩ := four_cells hB
  have HB : Hid (W.heap[B]? = _) := hB
  have hwsz : B + 1 ≤ W.heap.size := lt_of_block hB
  rcases plc_cases s with h0 | h0 | h0
  · have e1 : numS s = 0 := by unfold numS; rw [h0]; rfl
    have e2 : keptS s = [] := by unfold keptS; rw [h0]; rfl
    have e3 : isS s = false := by unfold isS; rw [h0]; rfl
    rw [e1, e2, e3]
    rw [h0] at cN
    have e4 : (if (-1 : Int) = -1 then (2 : Int) else -1) = 2 := rfl
    rw [e4] at cN
    clear e1 e2 e3 e4 h0 sa sb sA sB hB
    generalize s.a.length = na at *
    generalize s.b.length = nb at *
    --[a
    go_enter Try.func13, Try.ntmps13
    go_wp2_with (go_at_call 27; go_must (refine cN.mono ?_); rintro e w2 ⟨rfl, b2⟩)
    go_ret3
    exact ⟨_, rfl, Row.nil _, bW.trans (b2.mono (by omega))⟩
    --]a
  · have hl := (whS_iff.1 (plc_zero h0)).1
    have e1 : numS s = hd s.a := by unfold numS; rw [if_pos h0]
    have e2 : keptS s = s.a.drop 1 := by unfold keptS; rw [if_pos h0]
    have e3 : isS s = true := by unfold isS; rw [h0]; rfl
    rw [e1, e2, e3]
    rw [h0] at cN
    have e4 : (if (0 : Int) = -1 then (2 : Int) else 0) = 0 := rfl
    rw [e4] at cN
    obtain ⟨ad, hao, _, ca⟩ := hd_cell sA hl
    subst hao
    have cb := fun (u : World) (h : Below W.heap.size W u) => (h.cell (block_lt_of_cell ca)).trans ca
    have HD := fun (u : World) (h : Below W.heap.size W u) => drop_one (sA.below h) hl
    have hdl : (s.a.drop 1).length ≤ 1000 := by rw [List.length_drop]; omega
    have hcap := sA.le.1
    clear e1 e2 e3 e4 h0 sa sb sA sB hB
    generalize s.a.drop 1 = T at *
    generalize hd s.a = x at *
    generalize s.a.length = na at *
    generalize s.b.length = nb at *
    have hl' : (0 : Int) < (na : Int) := by omega
    have hl2 : (1 : Int) ≤ (na : Int) := by omega
    have hl3 : (na : Int) ≤ (acap : Int) := by omega
    have hl4 : (1 : Int) ≤ (acap : Int) := by omega
    have hl5 : na ≤ acap := by omega
    have hl6 : 1 ≤ na := by omega
    by_cases hc : acap = 1
    · subst hc
      have hz : na - 1 = 0 := by omega
      have HD' := fun (u : World) (h : Below W.heap.size W u) => (HD u h).2 rfl
      simp only [hz] at HD'
      clear HD
      --[b
      go_enter Try.func13, Try.ntmps13
      go_wp2_with (go_at_call 27; go_must (refine cN.mono ?_); rintro e w2 ⟨rfl, b2⟩; obtain ⟨t1, t2, t3, t4⟩ := four_cells (keep b2 HB.out); have cb2 := cb _ b2)
      have hz2 : B < w2.heap.size := by have := b2.size; omega
      have bd : Below W.heap.size W (w2.alloc (.cells #[] 2)).drew := (bt b2 (box_below _ _)).drew
      have ho := own_nil64 w2 w2.heap.size rfl
      go_region_law (first
        | (refine step64v rfl _ _ rfl w2.heap.size (.slice (some ⟨w2.heap.size, 0, none⟩) 0 0) 0 [] rfl ho.drew (Nat.le_of_lt (by simp)) _ T rfl (HD' _ bd) (by omega) ?_; intro v2 w3 ho2 hg2; have b3 : Below W.heap.size W w3 := bd.grown hg2 bd.size (fun k e => by cases e; exact b2.size); obtain ⟨g1, g2, g3, g4⟩ := four_cells (keep b3 HB.out); have cb3 := cb _ b3))
      all_goals (try go_wp2)
      all_goals go_ret3
      all_goals exact ⟨_, rfl, Row.own ho2, bW.trans (b3.mono (by omega))⟩
      --]b
    · have HD' := fun (u : World) (h : Below W.heap.size W u) => (HD u h).1 hc
      clear HD
      --[c
      go_enter Try.func13, Try.ntmps13
      go_wp2_with (go_at_call 27; go_must (refine cN.mono ?_); rintro e w2 ⟨rfl, b2⟩; obtain ⟨t1, t2, t3, t4⟩ := four_cells (keep b2 HB.out); have cb2 := cb _ b2)
      have hz2 : B < w2.heap.size := by have := b2.size; omega
      have bd : Below W.heap.size W (w2.alloc (.cells #[] 2)).drew := (bt b2 (box_below _ _)).drew
      have ho := own_nil64 w2 w2.heap.size rfl
      go_region_law (first
        | (refine step64v rfl _ _ rfl w2.heap.size (.slice (some ⟨w2.heap.size, 0, none⟩) 0 0) 0 [] rfl ho.drew (Nat.le_of_lt (by simp)) _ T rfl (HD' _ bd) (by omega) ?_; intro v2 w3 ho2 hg2; have b3 : Below W.heap.size W w3 := bd.grown hg2 bd.size (fun k e => by cases e; exact b2.size); obtain ⟨g1, g2, g3, g4⟩ := four_cells (keep b3 HB.out); have cb3 := cb _ b3))
      all_goals (try go_wp2)
      all_goals go_ret3
      all_goals exact ⟨_, rfl, Row.own ho2, bW.trans (b3.mono (by omega))⟩
      --]c
  · have hl := (whS_iff.1 (plc_one h0)).1
    have e1 : numS s = hd s.b := by unfold numS; rw [h0]; rfl
    have e2 : keptS s = s.b.drop 1 := by unfold keptS; rw [h0]; rfl
    have e3 : isS s = true := by unfold isS; rw [h0]; rfl
    rw [e1, e2, e3]
    rw [h0] at cN
    have e4 : (if (1 : Int) = -1 then (2 : Int) else 1) = 1 := rfl
    rw [e4] at cN
    obtain ⟨ad, hao, _, ca⟩ := hd_cell sB hl
    subst hao
    have cb := fun (u : World) (h : Below W.heap.size W u) => (h.cell (block_lt_of_cell ca)).trans ca
    have HD := fun (u : World) (h : Below W.heap.size W u) => drop_one (sB.below h) hl
    have hdl : (s.b.drop 1).length ≤ 1000 := by rw [List.length_drop]; omega
    have hcap := sB.le.1
    clear e1 e2 e3 e4 h0 sa sb sA sB hB
    generalize s.b.drop 1 = T at *
    generalize hd s.b = x at *
    generalize s.a.length = na at *
    generalize s.b.length = nb at *
    have hl' : (0 : Int) < (nb : Int) := by omega
    have hl2 : (1 : Int) ≤ (nb : Int) := by omega
    have hl3 : (nb : Int) ≤ (bcap : Int) := by omega
    have hl4 : (1 : Int) ≤ (bcap : Int) := by omega
    have hl5 : nb ≤ bcap := by omega
    have hl6 : 1 ≤ nb := by omega
    by_cases hc : bcap = 1
    · subst hc
      have hz : nb - 1 = 0 := by omega
      have HD' := fun (u : World) (h : Below W.heap.size W u) => (HD u h).2 rfl
      simp only [hz] at HD'
      clear HD
      --[d
      go_enter Try.func13, Try.ntmps13
      go_wp2_with (go_at_call 27; go_must (refine cN.mono ?_); rintro e w2 ⟨rfl, b2⟩; obtain ⟨t1, t2, t3, t4⟩ := four_cells (keep b2 HB.out); have cb2 := cb _ b2)
      have hz2 : B < w2.heap.size := by have := b2.size; omega
      have bd : Below W.heap.size W (w2.alloc (.cells #[] 2)).drew := (bt b2 (box_below _ _)).drew
      have ho := own_nil64 w2 w2.heap.size rfl
      go_region_law (first
        | (refine step64v rfl _ _ rfl w2.heap.size (.slice (some ⟨w2.heap.size, 0, none⟩) 0 0) 0 [] rfl ho.drew (Nat.le_of_lt (by simp)) _ T rfl (HD' _ bd) (by omega) ?_; intro v2 w3 ho2 hg2; have b3 : Below W.heap.size W w3 := bd.grown hg2 bd.size (fun k e => by cases e; exact b2.size); obtain ⟨g1, g2, g3, g4⟩ := four_cells (keep b3 HB.out); have cb3 := cb _ b3))
      all_goals (try go_wp2)
      all_goals go_ret3
      all_goals exact ⟨_, rfl, Row.own ho2, bW.trans (b3.mono (by omega))⟩
      --]d
    · have HD' := fun (u : World) (h : Below W.heap.size W u) => (HD u h).1 hc
      clear HD
      --[e
      go_enter Try.func13, Try.ntmps13
      go_wp2_with (go_at_call 27; go_must (refine cN.mono ?_); rintro e w2 ⟨rfl, b2⟩; obtain ⟨t1, t2, t3, t4⟩ := four_cells (keep b2 HB.out); have cb2 := cb _ b2)
      have hz2 : B < w2.heap.size := by have := b2.size; omega
      have bd : Below W.heap.size W (w2.alloc (.cells #[] 2)).drew := (bt b2 (box_below _ _)).drew
      have ho := own_nil64 w2 w2.heap.size rfl
      go_region_law (first
        | (refine step64v rfl _ _ rfl w2.heap.size (.slice (some ⟨w2.heap.size, 0, none⟩) 0 0) 0 [] rfl ho.drew (Nat.le_of_lt (by simp)) _ T rfl (HD' _ bd) (by omega) ?_; intro v2 w3 ho2 hg2; have b3 : Below W.heap.size W w3 := bd.grown hg2 bd.size (fun k e => by cases e; exact b2.size); obtain ⟨g1, g2, g3, g4⟩ := four_cells (keep b3 HB.out); have cb3 := cb _ b3))
      all_goals (try go_wp2)
      all_goals go_ret3
      all_goals exact ⟨_, rfl, Row.own ho2, bW.trans (b3.mono (by omega))⟩
      --]e
end Go.Proofs.Ytcfobifldlkfnaa.Gr
