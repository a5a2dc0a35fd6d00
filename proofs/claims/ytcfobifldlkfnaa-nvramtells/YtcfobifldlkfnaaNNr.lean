/-
  Which slot is the newest whole one: the document's.
-/
import Derived.Test.YtcfobifldlkfnaaNN
import Derived.Test.YtcfobifldlkfnaaNCr
namespace Go.Proofs.Ytcfobifldlkfnaa.Gr
open Go.RowKit Go.Sort Qm Nm
set_option linter.unusedVariables false

theorem rcommit_calm (v : Value) (ws : List Int) (w : World) (hn : ws.length ≤ 1000) (hs : SeesI w v ws) (d : Nat) (os : Array Obj) :
    Calls Try.prog 20 #[v] (grow (redrawn w d) os) fun e w'' => e = .returned (.int .i64 (comS ws)) ∧ ∃ p : Regrown, w'' = grow (redrawn w p.d) p.os :=
  Calls.regrown_of (rcommit_any v ws _ hn (hs.below (below_regrown w d os)))
set_option maxRecDepth 20000 in
set_option maxHeartbeats 2000000 in
theorem rwhole_any (v : Value) (ws : List Int) (c : Int) (w : World) (hn : ws.length ≤ 1000) (hs : SeesI w v ws) :
    Calls Try.prog 37 #[.agg #[v, .int .i64 c]] w fun e w' => e = .returned (.bool (whS ws c)) ∧ Below w.heap.size w w' := by
  obtain ⟨ao, cap, rfl⟩ := hs.slice
  obtain ⟨W, hW⟩ : ∃ W, w.alloc (.cells #[.slice ao ws.length cap, .int .i64 c] 24) = W := ⟨_, rfl⟩
  have bW : Below w.heap.size w W := by rw [← hW]; exact box_below w _
  have cC := fun d os => rcommit_calm (.slice ao ws.length cap) ws W hn (hs.below bW) d os
  obtain ⟨m0, m1⟩ := two_cells (heap_new w (.cells #[.slice ao ws.length cap, .int .i64 c] 24))
  rw [hW] at m0 m1
  have q0 := cell_regrown m0
  have q1 := cell_regrown m1
  have hsW := hs.below bW
  by_cases h0 : 0 < ws.length
  · obtain ⟨ad, rfl, _, ch⟩ := hd_cell hsW h0
    have d0 : decide ((ws.length : Int) = 0) = false := decide_eq_false (by omega)
    have d00 : ((ws.length : Int) == 0) = false := by simp; intro e; rw [e] at h0; simp at h0
    by_cases h1 : 0 ≤ hd ws
    · have d1 : decide (0 ≤ hd ws) = true := decide_eq_true h1
      by_cases h2 : hd ws ≤ 4611686018427387904
      · have d2 : decide (hd ws ≤ 4611686018427387904) = true := decide_eq_true h2
        by_cases h3 : c = comS ws
        · have HE : Hid (_) := whS_iff.2 ⟨h0, h1, h2, h3⟩
          rw [HE.out]
          rw [← h3] at cC
          clear h3 hsW hs hn
          generalize hd ws = x at *
          generalize ws.length = n at *
          --[a
          go_enter Try.func37, Try.ntmps37
          go_wp2
          refine wp_region_quiet_below (by kernel_rfl) (by kernel_rfl) ?_
          repeat (go_big_quiet_step (first | (go_at_call 20; exact cC _ _)))
          refine wpQuiet_nil ?_
          intro _ hw'
          obtain ⟨⟨dq, osq⟩, hw''⟩ := hw'
          subst hw''
          have bz := below_regrown W dq osq
          generalize grow (redrawn W dq) osq = u at bz ⊢
          go_wp2
          go_ret
          exact ⟨rfl, bt bW bz⟩
          --]a
        · have HE : Hid (_) := whS_no4 h3
          rw [HE.out]
          obtain ⟨C, hC⟩ : ∃ C, comS ws = C := ⟨_, rfl⟩
          rw [hC] at cC h3
          have d3 : decide (c = C) = false := decide_eq_false h3
          have d4 : (c == C) = false := by simpa using h3
          clear hsW hs hn hC
          generalize hd ws = x at *
          generalize ws.length = n at *
          --[b
          go_enter Try.func37, Try.ntmps37
          go_wp2
          refine wp_region_quiet_below (by kernel_rfl) (by kernel_rfl) ?_
          repeat (go_big_quiet_step (first | (go_at_call 20; exact cC _ _)))
          refine wpQuiet_nil ?_
          intro _ hw'
          obtain ⟨⟨dq, osq⟩, hw''⟩ := hw'
          subst hw''
          have bz := below_regrown W dq osq
          generalize grow (redrawn W dq) osq = u at bz ⊢
          go_wp2
          go_ret
          exact ⟨rfl, bt bW bz⟩
          --]b
      · have HE : Hid (_) := whS_no3 (c := c) h2
        rw [HE.out]
        have d2 : decide (hd ws ≤ 4611686018427387904) = false := decide_eq_false h2
        clear hsW hs hn cC
        generalize hd ws = x at *
        generalize ws.length = n at *
        --[c
        go_enter Try.func37, Try.ntmps37
        go_wp2
        refine wp_region_quiet_below (by kernel_rfl) (by kernel_rfl) ?_
        repeat (go_big_quiet_step (fail))
        refine wpQuiet_nil ?_
        intro _ hw'
        obtain ⟨⟨dq, osq⟩, hw''⟩ := hw'
        subst hw''
        have bz := below_regrown W dq osq
        generalize grow (redrawn W dq) osq = u at bz ⊢
        go_wp2
        go_ret
        exact ⟨rfl, bt bW bz⟩
        --]c
    · have HE : Hid (_) := whS_no2 (c := c) h1
      rw [HE.out]
      have d1 : decide (0 ≤ hd ws) = false := decide_eq_false h1
      clear hsW hs hn cC
      generalize hd ws = x at *
      generalize ws.length = n at *
      --[d
      go_enter Try.func37, Try.ntmps37
      go_wp2
      refine wp_region_quiet_below (by kernel_rfl) (by kernel_rfl) ?_
      repeat (go_big_quiet_step (fail))
      refine wpQuiet_nil ?_
      intro _ hw'
      obtain ⟨⟨dq, osq⟩, hw''⟩ := hw'
      subst hw''
      have bz := below_regrown W dq osq
      generalize grow (redrawn W dq) osq = u at bz ⊢
      go_wp2
      go_ret
      exact ⟨rfl, bt bW bz⟩
      --]d
  · have HE : Hid (_) := whS_no1 (c := c) h0
    rw [HE.out]
    have hn0 : ws.length = 0 := by omega
    rw [hn0] at m0 ⊢
    have HW := hW
    rw [hn0] at HW
    clear hsW hs hn cC h0 hn0 hW q0 q1
    --[e
    go_enter Try.func37, Try.ntmps37
    go_wp2
    go_ret
    exact ⟨rfl, bW⟩
    --]e
end Go.Proofs.Ytcfobifldlkfnaa.Gr
