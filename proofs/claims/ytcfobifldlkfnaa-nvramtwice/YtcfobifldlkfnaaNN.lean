/-
  Which slot is the newest whole one: the code's.
-/
import Derived.Test.YtcfobifldlkfnaaNC
namespace Go.Proofs.Ytcfobifldlkfnaa.Gr
open Go.RowKit Go.Sort Qm Nm
set_option linter.unusedVariables false

theorem commit_calm (v : Value) (ws : List Int) (w : World) (hn : ws.length ≤ 1000) (hs : SeesI w v ws) (d : Nat) (os : Array Obj) :
    Calls Try.prog 19 #[v] (grow (redrawn w d) os) fun e w'' => e = .returned (.int .i64 (comS ws)) ∧ ∃ p : Regrown, w'' = grow (redrawn w p.d) p.os :=
  Calls.regrown_of (commit_any v ws _ hn (hs.below (below_regrown w d os)))
/-- the cells of a slot, of a store -/
theorem two_cells {w : World} {b : Nat} {x y : Value} {t : TypeId} (h : w.heap[b]? = some (.cells #[x, y] t (0, 0))) : w.cell? ⟨b, 0, none⟩ = some x ∧ w.cell? ⟨b, 1, none⟩ = some y := by
  constructor <;> simp [World.cell?, h]
theorem four_cells {w : World} {b : Nat} {x y z u : Value} {t : TypeId} (h : w.heap[b]? = some (.cells #[x, y, z, u] t (0, 0))) : w.cell? ⟨b, 0, none⟩ = some x ∧ w.cell? ⟨b, 1, none⟩ = some y ∧ w.cell? ⟨b, 2, none⟩ = some z ∧ w.cell? ⟨b, 3, none⟩ = some u := by
  refine ⟨?_, ?_, ?_, ?_⟩ <;> simp [World.cell?, h]
theorem whS_no1 {ws : List Int} {c : Int} (h : ¬ 0 < ws.length) : whS ws c = false := by unfold whS; rw [decide_eq_false h]; rfl
theorem whS_no2 {ws : List Int} {c : Int} (h : ¬ 0 ≤ hd ws) : whS ws c = false := by unfold whS; rw [decide_eq_false h]; simp
theorem whS_no3 {ws : List Int} {c : Int} (h : ¬ hd ws ≤ 4611686018427387904) : whS ws c = false := by unfold whS; rw [decide_eq_false h]; simp
theorem whS_no4 {ws : List Int} {c : Int} (h : ¬ c = comS ws) : whS ws c = false := by unfold whS; rw [decide_eq_false h]; simp
theorem hd_cell {w : World} {ao : Option Addr} {n cap : Nat} {ws : List Int} (h : SeesI w (.slice ao n cap) ws) (h0 : 0 < ws.length) : ∃ ad, ao = some ad ∧ ad.block < w.heap.size ∧ w.cell? ad = some (vw (hd ws)) := by
  obtain ⟨ad, e, hl, hc⟩ := h.at 0 h0
  have ha : ad.add 0 = ad := by unfold Addr.add; simp
  rw [ha] at hc
  exact ⟨ad, e, hl, hc⟩
set_option maxRecDepth 20000 in
set_option maxHeartbeats 2000000 in
theorem whole_any (k : Nat) (hk : k < 2) (B : Nat) (v : Value) (ws : List Int) (c : Int) (w : World) (hn : ws.length ≤ 1000) (c0 : w.cell? ⟨B, 2 * k, none⟩ = some v) (c1 : w.cell? ⟨B, 2 * k + 1, none⟩ = some (.int .i64 c)) (hs : SeesI w v ws) :
    Calls Try.prog 36 #[.int .i64 k, .pointer (some ⟨B, 0, none⟩)] w fun e w' => e = .returned (.bool (whS ws c)) ∧ Below w.heap.size w w' := by
  obtain ⟨ao, cap, rfl⟩ := hs.slice
  obtain ⟨W, hW⟩ : ∃ W, w.alloc (.cells #[.slice ao ws.length cap, .int .i64 c] 24) = W := ⟨_, rfl⟩
  have bW : Below w.heap.size w W := by rw [← hW]; exact box_below w _
  have cC := fun d os => commit_calm (.slice ao ws.length cap) ws W hn (hs.below bW) d os
  obtain ⟨m0, m1⟩ := two_cells (heap_new w (.cells #[.slice ao ws.length cap, .int .i64 c] 24))
  rw [hW] at m0 m1
  have q0 := cell_regrown m0
  have q1 := cell_regrown m1
  have hsW := hs.below bW
  have e0 : ∀ E, whS ws c = E → Hid (whS ws c = E) := fun _ h => h
  by_cases h0 : 0 < ws.length
  · obtain ⟨ad, rfl, _, ch⟩ := hd_cell hsW h0
    have qh := cell_regrown ch
    have d0 : decide ((0 : Int) < (ws.length : Int)) = true := by simp; omega
    by_cases h1 : 0 ≤ hd ws
    · have d1 : decide (0 ≤ hd ws) = true := decide_eq_true h1
      by_cases h2 : hd ws ≤ 4611686018427387904
      · have d2 : decide (hd ws ≤ 4611686018427387904) = true := decide_eq_true h2
        by_cases h3 : c = comS ws
        · have HE := e0 _ (whS_iff.2 ⟨h0, h1, h2, h3⟩)
          rw [HE.out]
          rw [← h3] at cC
          clear h3 e0 ch m0 m1 hsW hs hn
          generalize hd ws = x at *
          generalize ws.length = n at *
          rcases (by omega : k = 0 ∨ k = 1) with rfl | rfl
          all_goals
            --[a
            simp only [Nat.mul_zero, Nat.mul_one, Nat.zero_add, Nat.reduceAdd] at c0 c1
            go_enter Try.func36, Try.ntmps36
            go_wp2
            refine wp_region_quiet_below (by kernel_rfl) (by kernel_rfl) ?_
            repeat (go_big_quiet_step (first | (go_at_call 19; exact cC _ _)))
            refine wpQuiet_nil ?_
            intro _ hw'
            obtain ⟨⟨dq, osq⟩, hw''⟩ := hw'
            subst hw''
            have bz := below_regrown W dq osq
            generalize grow (redrawn W dq) osq = u at bz ⊢
            go_wp2
            go_ret
            exact ⟨rfl, bt bW bz⟩
            --]a
        · have HE := e0 _ (whS_no4 h3)
          rw [HE.out]
          obtain ⟨C, hC⟩ : ∃ C, comS ws = C := ⟨_, rfl⟩
          rw [hC] at cC h3
          have d3 : decide (c = C) = false := decide_eq_false h3
          have d4 : (c == C) = false := by simpa using h3
          clear e0 ch m0 m1 hsW hs hn hC
          generalize hd ws = x at *
          generalize ws.length = n at *
          rcases (by omega : k = 0 ∨ k = 1) with rfl | rfl
          all_goals
            --[b
            simp only [Nat.mul_zero, Nat.mul_one, Nat.zero_add, Nat.reduceAdd] at c0 c1
            go_enter Try.func36, Try.ntmps36
            go_wp2
            refine wp_region_quiet_below (by kernel_rfl) (by kernel_rfl) ?_
            repeat (go_big_quiet_step (first | (go_at_call 19; exact cC _ _)))
            refine wpQuiet_nil ?_
            intro _ hw'
            obtain ⟨⟨dq, osq⟩, hw''⟩ := hw'
            subst hw''
            have bz := below_regrown W dq osq
            generalize grow (redrawn W dq) osq = u at bz ⊢
            go_wp2
            go_ret
            exact ⟨rfl, bt bW bz⟩
            --]b
      · have HE := e0 _ (whS_no3 (c := c) h2)
        rw [HE.out]
        have d2 : decide (hd ws ≤ 4611686018427387904) = false := decide_eq_false h2
        clear e0 ch m0 m1 hsW hs hn cC
        generalize hd ws = x at *
        generalize ws.length = n at *
        rcases (by omega : k = 0 ∨ k = 1) with rfl | rfl
        all_goals
          --[c
          simp only [Nat.mul_zero, Nat.mul_one, Nat.zero_add, Nat.reduceAdd] at c0 c1
          go_enter Try.func36, Try.ntmps36
          go_wp2
          refine wp_region_quiet_below (by kernel_rfl) (by kernel_rfl) ?_
          repeat (go_big_quiet_step (fail))
          refine wpQuiet_nil ?_
          intro _ hw'
          obtain ⟨⟨dq, osq⟩, hw''⟩ := hw'
          subst hw''
          have bz := below_regrown W dq osq
          generalize grow (redrawn W dq) osq = u at bz ⊢
          go_wp2
          go_ret
          exact ⟨rfl, bt bW bz⟩
          --]c
    · have HE := e0 _ (whS_no2 (c := c) h1)
      rw [HE.out]
      have d1 : decide (0 ≤ hd ws) = false := decide_eq_false h1
      clear e0 ch m0 m1 hsW hs hn cC
      generalize hd ws = x at *
      generalize ws.length = n at *
      rcases (by omega : k = 0 ∨ k = 1) with rfl | rfl
      all_goals
        --[d
        simp only [Nat.mul_zero, Nat.mul_one, Nat.zero_add, Nat.reduceAdd] at c0 c1
        go_enter Try.func36, Try.ntmps36
        go_wp2
        refine wp_region_quiet_below (by kernel_rfl) (by kernel_rfl) ?_
        repeat (go_big_quiet_step (fail))
        refine wpQuiet_nil ?_
        intro _ hw'
        obtain ⟨⟨dq, osq⟩, hw''⟩ := hw'
        subst hw''
        have bz := below_regrown W dq osq
        generalize grow (redrawn W dq) osq = u at bz ⊢
        go_wp2
        go_ret
        exact ⟨rfl, bt bW bz⟩
        --]d
  · have HE := e0 _ (whS_no1 (c := c) h0)
    rw [HE.out]
    have d0 : decide ((0 : Int) < (ws.length : Int)) = false := decide_eq_false (by omega)
    have hnn : (ws.length : Int) ≤ 0 := by omega
    clear e0 m0 m1 hsW hs hn cC
    generalize ws.length = n at *
    rcases (by omega : k = 0 ∨ k = 1) with rfl | rfl
    all_goals
      --[e
      simp only [Nat.mul_zero, Nat.mul_one, Nat.zero_add, Nat.reduceAdd] at c0 c1
      go_enter Try.func36, Try.ntmps36
      go_wp2
      refine wp_region_quiet_below (by kernel_rfl) (by kernel_rfl) ?_
      repeat (go_big_quiet_step (fail))
      refine wpQuiet_nil ?_
      intro _ hw'
      obtain ⟨⟨dq, osq⟩, hw''⟩ := hw'
      subst hw''
      have bz := below_regrown W dq osq
      generalize grow (redrawn W dq) osq = u at bz ⊢
      go_wp2
      go_ret
      exact ⟨rfl, bt bW bz⟩
      --]e
end Go.Proofs.Ytcfobifldlkfnaa.Gr
