/-
  The walk of QuatRounds.
-/
import Derived.Test.YtgekignonjfaiaaDoorQSh
import Derived.Test.YtgekignonjfaiaaDoorRQN
import Derived.Test.YtgekignonjfaiaaDoorQG
namespace Go.Proofs.YtgekignonjfaiaaDoor
open Go.RowKit Go.Sort Qm

theorem conj_calm' (p : Nat → Int) (w : World) (d : Nat) (os : Array Obj) : Calls Tryd.prog 17 #[.agg #[.int .i64 (p 0), .int .i64 (p 1), .int .i64 (p 2), .int .i64 (p 3)]] (grow (redrawn w d) os) fun e w'' => e = .returned (.agg #[.int .i64 (cj p 0), .int .i64 (cj p 1), .int .i64 (cj p 2), .int .i64 (cj p 3)]) ∧ ∃ p : Regrown, w'' = grow (redrawn w p.d) p.os :=
  Calls.regrown_of (conj_any p _)

namespace Qm
theorem any_in {p : Nat → Int} (h : anyB (fun k => ob (p k)) 4 = false) : In4 p := by
  simp only [anyB, Bool.false_or, Bool.or_eq_false_iff] at h
  obtain ⟨⟨⟨h0, h1⟩, h2⟩, h3⟩ := h
  exact four_cases (P := fun k => -70368744177664 ≤ p k ∧ p k ≤ 70368744177663) (ob_out h0) (ob_out h1) (ob_out h2) (ob_out h3)
end Qm

set_option maxHeartbeats 4000000 in
set_option maxRecDepth 20000 in
theorem quatRounds_walk (q v : Nat → Int) (w : World) (hG : Less w) :
    Calls Tryd.prog 6 #[.agg #[.int .i64 (q 0), .int .i64 (q 1), .int .i64 (q 2), .int .i64 (q 3)], .agg #[.int .i64 (v 0), .int .i64 (v 1), .int .i64 (v 2)]] w fun e w' => e = .returned (.bool true) ∧ Below w.heap.size w w' := by
  obtain ⟨W, hW⟩ : ∃ W, (w.alloc (.cells #[.int .i64 (q 0), .int .i64 (q 1), .int .i64 (q 2), .int .i64 (q 3)] 24)).alloc (.cells #[.int .i64 (v 0), .int .i64 (v 1), .int .i64 (v 2)] 35) = W := ⟨_, rfl⟩
  obtain ⟨g1, g2⟩ := allocs2 w (.cells #[.int .i64 (q 0), .int .i64 (q 1), .int .i64 (q 2), .int .i64 (q 3)] 24) (.cells #[.int .i64 (v 0), .int .i64 (v 1), .int .i64 (v 2)] 35)
  have bW := ball2 w (.cells #[.int .i64 (q 0), .int .i64 (q 1), .int .i64 (q 2), .int .i64 (q 3)] 24) (.cells #[.int .i64 (v 0), .int .i64 (v 1), .int .i64 (v 2)] 35)
  rw [hW] at g1 g2 bW
  have hGW := hG.below bW
  have M0 := shown_any W hGW
  rw [← hW] at M0
  have HW : Hid (_ = W) := hW
  clear hW hG
  have K1 : Hid (∀ a, Below W.heap.size W a → _) := fun a ha => four_cells (keep ha g1)
  have K2 : Hid (∀ a, Below W.heap.size W a → _) := fun a ha => three_cells (keep ha g2)
  have R1 : ∀ a, Calls Tryd.prog 20 #[.agg #[.int .i64 (q 0), .int .i64 (q 1), .int .i64 (q 2), .int .i64 (q 3)]] a fun e w' => e = .returned (.bool (!anyB (fun k => ob (q k)) 4)) ∧ Below a.heap.size a w' := fun a => rright_any q a
  have R2 : ∀ a, Calls Tryd.prog 20 #[.agg #[.int .i64 0, .int .i64 (v 0), .int .i64 (v 1), .int .i64 (v 2)]] a fun e w' => e = .returned (.bool (!anyB (fun k => ob (vq 0 v k)) 4)) ∧ Below a.heap.size a w' := fun a => rright_any (vq 0 v) a
  cases hq : anyB (fun k => ob (q k)) 4
  · have inq := any_in hq
    simp only [hq, Bool.not_false] at R1
    clear hq
    cases hv : anyB (fun k => ob (vq 0 v k)) 4
    · have inv : In4 (vq 0 v) := any_in hv
      simp only [hv, Bool.not_false] at R2
      clear hv
      have HI1 : Hid (In4 q) := inq
      have HI2 : Hid (In4 (vq 0 v)) := inv
      clear inq inv
      go_enter Tryd.func6, Tryd.ntmps6
      go_wp2_with (first
        | (go_at_call 10; refine M0.mono ?_; rintro e wa ⟨rfl, ba⟩; rw [HW.out] at ba; obtain ⟨a0, a1, a2, a3, _⟩ := K1.out _ ba)
        | (go_at_call_of 20 (Value.int IntKind.i64 (q 1)); refine (R1 _).mono ?_; rintro e wb ⟨rfl, bb⟩; have bb1 := bt ba bb; obtain ⟨b0, b1, b2, _⟩ := K2.out _ bb1)
        | (go_at_call_of 20 (Value.int IntKind.i64 (v 1)); refine (R2 _).mono ?_; rintro e wc ⟨rfl, bc⟩; have bc1 := bt bb1 bc))
      have hP : Hid (Box4 wc w.heap.size q) := (Box4.of g1).below bc1
      have hV : Hid (Box3 wc (w.heap.size + 1) v) := (Box3.of g2).below bc1
      have b9 := bt bW bc1
      clear a0 a1 a2 a3 b0 b1 b2 M0 R1 R2
      go_loop [6] (fun i => ∃ k : Nat, 1 ≤ k ∧ k ≤ 4 ∧ i = .int .i64 k ∧ Hid (∀ j, 1 ≤ j → j < k → q j ≠ -70368744177664)) (fun i => 4 - (intOf i).toNat)
      case atStart => exact ⟨1, Nat.le_refl _, by omega, rfl, fun j h1 h2 => by omega⟩
      case round =>
        obtain ⟨k, hk1, hk, rfl, hall⟩ := hrel
        by_cases hlt : k < 4
        · have c1 := hP.out k hlt
          have c2 := hV.out (k - 1) (by omega)
          have HA : Hid (q k ≠ -70368744177664 → ∀ j, 1 ≤ j → j < k + 1 → q j ≠ -70368744177664) := fun x j h1 h2 => by
            by_cases e : j = k
            · subst e; exact x
            · exact hall.out j h1 (by omega)
          obtain ⟨x, hx⟩ : ∃ x, q k = x := ⟨_, rfl⟩
          obtain ⟨y, hy⟩ : ∃ y, v (k - 1) = y := ⟨_, rfl⟩
          rw [hx] at c1 HA
          rw [hy] at c2
          clear hx hy hall HI1 HI2 K1 K2
          have h3 : k = 1 ∨ k = 2 ∨ k = 3 := by omega
          cases hb1 : (x == -70368744177664)
          · have nx : Hid _ := HA.out (by simpa using hb1)
            cases hb2 : (y == -70368744177664)
            · rcases h3 with rfl | rfl | rfl
              all_goals
                simp only [Nat.reduceSub] at c2
                go_wp2
                go_round
                case rel => first | exact ⟨2, by omega, by omega, rfl, nx.out⟩ | exact ⟨3, by omega, by omega, rfl, nx.out⟩ | exact ⟨4, by omega, by omega, rfl, nx.out⟩
                case measure => simp [intOf]
            · rcases h3 with rfl | rfl | rfl
              all_goals
                simp only [Nat.reduceSub] at c2
                go_wp2
                go_ret
                exact ⟨rfl, b9⟩
          · rcases h3 with rfl | rfl | rfl
            all_goals
              go_wp2
              go_ret
              exact ⟨rfl, b9⟩
        · have e : k = 4 := by omega
          subst e
          have inq := HI1.out
          have inv := HI2.out
          have P1 : ∀ a, Less a → Calls Tryd.prog 11 #[.agg #[.int .i64 (q 0), .int .i64 (q 1), .int .i64 (q 2), .int .i64 (q 3)], .agg #[.int .i64 16777216, .int .i64 0, .int .i64 0, .int .i64 0]] a fun e w' =>
              e = .returned (.tuple #[.agg #[.int .i64 (q 0), .int .i64 (q 1), .int .i64 (q 2), .int .i64 (q 3)], .bool false]) ∧ Below a.heap.size a w' := fun a ha => by
            have := qmul_any q one4 a ha
            rw [(qm_one inq 0 (by omega)).1, (qm_one inq 1 (by omega)).1, (qm_one inq 2 (by omega)).1, (qm_one inq 3 (by omega)).1, any4 (o := qmB q one4) fun k hk => (qm_one inq k hk).2] at this
            exact this
          have P2 : ∀ a, Less a → Calls Tryd.prog 11 #[.agg #[.int .i64 16777216, .int .i64 0, .int .i64 0, .int .i64 0], .agg #[.int .i64 (q 0), .int .i64 (q 1), .int .i64 (q 2), .int .i64 (q 3)]] a fun e w' =>
              e = .returned (.tuple #[.agg #[.int .i64 (q 0), .int .i64 (q 1), .int .i64 (q 2), .int .i64 (q 3)], .bool false]) ∧ Below a.heap.size a w' := fun a ha => by
            have := qmul_any one4 q a ha
            rw [(one_qm inq 0 (by omega)).1, (one_qm inq 1 (by omega)).1, (one_qm inq 2 (by omega)).1, (one_qm inq 3 (by omega)).1, any4 (o := qmB one4 q) fun k hk => (one_qm inq k hk).2] at this
            exact this
          have P3 : ∀ a, Less a → Calls Tryd.prog 21 #[.agg #[.int .i64 16777216, .int .i64 0, .int .i64 0, .int .i64 0], .agg #[.int .i64 (v 0), .int .i64 (v 1), .int .i64 (v 2)]] a fun e w' =>
              e = .returned (.tuple #[.agg #[.int .i64 (v 0), .int .i64 (v 1), .int .i64 (v 2)], .bool false]) ∧ Below a.heap.size a w' := fun a ha => by
            have := turn_any one4 v a ha
            obtain ⟨t1, t2⟩ := tn_one inv
            rw [t1 1 (by omega), t1 2 (by omega), t1 3 (by omega), t2] at this
            exact this
          have cc := cj_cj inq hall.out
          have cc0 := cc 0 (by omega)
          have cc1 := cc 1 (by omega)
          have cc2 := cc 2 (by omega)
          have cc3 := cc 3 (by omega)
          have H1 : ∀ V d os, _ := fun V d os => conj_calm' q V d os
          have H2 : ∀ V d os, _ := fun V d os => conj_calm' (cj q) V d os
          simp only [cc0, cc1, cc2, cc3] at H2
          clear cc cc0 cc1 cc2 cc3 inq inv hall HI1 HI2
          obtain ⟨n1, hn1⟩ : ∃ n, cj q 1 = n := ⟨_, rfl⟩
          simp only [hn1] at H1 H2
          clear hn1
          have gO := heap_new wc (.cells #[.int .i64 16777216, .int .i64 0, .int .i64 0, .int .i64 0] 24)
          have bO := bc1.alloc bc1.size (.cells #[.int .i64 16777216, .int .i64 0, .int .i64 0, .int .i64 0] 24)
          obtain ⟨a0, a1, a2, a3, _⟩ := K1.out _ bO
          have q4' := run_eq4
          have q3' := run_eq3
          have z4 := guard24
          have z3 := guard35
          have s4 := eq4_self
          have s3 := eq3_self
          have GO : Hid _ := gO
          clear gO
          go_wp2_with (first
            | (go_at_call 21; refine (P3 _ (hGW.below be2)).mono ?_; rintro e wf ⟨rfl, bf⟩; have bf1 := bt be2 bf; have bf2 := bf1.alloc bf1.size (.cells #[.int .i64 (v 0), .int .i64 (v 1), .int .i64 (v 2)] 35); have gC := heap_new wf (.cells #[.int .i64 (v 0), .int .i64 (v 1), .int .i64 (v 2)] 35))
            | (go_at_call 11; refine (P1 _ (hGW.below bO)).mono ?_; rintro e wd ⟨rfl, bd⟩; have bd1 := bt bO bd; have bd2 := bd1.alloc bd1.size (.cells #[.int .i64 (q 0), .int .i64 (q 1), .int .i64 (q 2), .int .i64 (q 3)] 24); have gA := heap_new wd (.cells #[.int .i64 (q 0), .int .i64 (q 1), .int .i64 (q 2), .int .i64 (q 3)] 24); have o1 := heap_old (keep bd GO.out) (.cells #[.int .i64 (q 0), .int .i64 (q 1), .int .i64 (q 2), .int .i64 (q 3)] 24); obtain ⟨e0, e1, e2, e3, _⟩ := K1.out _ bd2; obtain ⟨o10, o11, o12, o13, _⟩ := four_cells o1; clear P1)
            | (go_at_call 11; refine (P2 _ (hGW.below bd2)).mono ?_; rintro e we ⟨rfl, be⟩; have be1 := bt bd2 be; have be2 := be1.alloc be1.size (.cells #[.int .i64 (q 0), .int .i64 (q 1), .int .i64 (q 2), .int .i64 (q 3)] 24); have gB := heap_new we (.cells #[.int .i64 (q 0), .int .i64 (q 1), .int .i64 (q 2), .int .i64 (q 3)] 24); have o2 := heap_old (keep be o1) (.cells #[.int .i64 (q 0), .int .i64 (q 1), .int .i64 (q 2), .int .i64 (q 3)] 24); have gA2 := heap_old (keep be gA) (.cells #[.int .i64 (q 0), .int .i64 (q 1), .int .i64 (q 2), .int .i64 (q 3)] 24); obtain ⟨f0, f1, f2, _⟩ := K2.out _ be2; obtain ⟨o20, o21, o22, o23, _⟩ := four_cells o2; clear P2))
          obtain ⟨A0, A1, A2, A3, _⟩ := four_cells (heap_old (keep bf gA2) (.cells #[.int .i64 (v 0), .int .i64 (v 1), .int .i64 (v 2)] 35))
          obtain ⟨B0, B1, B2, B3, _⟩ := four_cells (heap_old (keep bf gB) (.cells #[.int .i64 (v 0), .int .i64 (v 1), .int .i64 (v 2)] 35))
          obtain ⟨C0, C1, C2, _⟩ := three_cells gC
          obtain ⟨D0, D1, D2, D3, _⟩ := K1.out _ bf2
          obtain ⟨E0, E1, E2, _⟩ := K2.out _ bf2
          obtain ⟨V, hV'⟩ : ∃ V, wf.alloc (.cells #[.int .i64 (v 0), .int .i64 (v 1), .int .i64 (v 2)] 35) = V := ⟨_, rfl⟩
          rw [hV'] at A0 A1 A2 A3 B0 B1 B2 B3 C0 C1 C2 D0 D1 D2 D3 E0 E1 E2 bf2 ⊢
          clear hV' gA gB gC gA2 o1 o2 o10 o11 o12 o13 o20 o21 o22 o23 a0 a1 a2 a3 e0 e1 e2 e3 f0 f1 f2 P3
          have A0 := cell_regrown A0
          have A1 := cell_regrown A1
          have A2 := cell_regrown A2
          have A3 := cell_regrown A3
          have B0 := cell_regrown B0
          have B1 := cell_regrown B1
          have B2 := cell_regrown B2
          have B3 := cell_regrown B3
          have C0 := cell_regrown C0
          have C1 := cell_regrown C1
          have C2 := cell_regrown C2
          have D0 := cell_regrown D0
          have D1 := cell_regrown D1
          have D2 := cell_regrown D2
          have D3 := cell_regrown D3
          have E0 := cell_regrown E0
          have E1 := cell_regrown E1
          have E2 := cell_regrown E2
          have H1 := H1 V
          have H2 := H2 V
          refine wp_region_quiet_below (by kernel_rfl) (by kernel_rfl) ?_
          repeat (quiet_step (first | (go_at_call_of 17 (Value.int IntKind.i64 (q 1)); exact H1 _ _) | (go_at_call_of 17 (Value.int IntKind.i64 n1); exact H2 _ _)))
          refine wpQuiet_nil ?_
          intro _ hw'
          obtain ⟨⟨dq, osq⟩, hw''⟩ := hw'
          subst hw''
          go_wp2
          go_ret
          exact ⟨rfl, bt (bt bW bf2) (below_regrown V dq osq)⟩
    · simp only [hv, Bool.not_true] at R2
      clear hv
      go_enter Tryd.func6, Tryd.ntmps6
      go_wp2_with (first
        | (go_at_call 10; refine M0.mono ?_; rintro e wa ⟨rfl, ba⟩; rw [HW.out] at ba; obtain ⟨a0, a1, a2, a3, _⟩ := K1.out _ ba)
        | (go_at_call_of 20 (Value.int IntKind.i64 (q 1)); refine (R1 _).mono ?_; rintro e wb ⟨rfl, bb⟩; have bb1 := bt ba bb; obtain ⟨b0, b1, b2, _⟩ := K2.out _ bb1)
        | (go_at_call_of 20 (Value.int IntKind.i64 (v 1)); refine (R2 _).mono ?_; rintro e wc ⟨rfl, bc⟩; have bc1 := bt bb1 bc))
      go_ret
      exact ⟨rfl, bt bW bc1⟩
  · simp only [hq, Bool.not_true] at R1
    clear hq R2
    go_enter Tryd.func6, Tryd.ntmps6
    go_wp2_with (first
      | (go_at_call 10; refine M0.mono ?_; rintro e wa ⟨rfl, ba⟩; rw [HW.out] at ba; obtain ⟨a0, a1, a2, a3, _⟩ := K1.out _ ba)
      | (go_at_call_of 20 (Value.int IntKind.i64 (q 1)); refine (R1 _).mono ?_; rintro e wb ⟨rfl, bb⟩; have bb1 := bt ba bb))
    go_ret
    exact ⟨rfl, bt bW bb1⟩
end Go.Proofs.YtgekignonjfaiaaDoor
