/-
  The contract of the document's Atan.
-/
import Derived.Test.YtliebglildaneaaRSinCos
namespace Go.Proofs.Ytliebglildaneaa
open Go.RowKit Qm Tm

theorem rclamp_from (w0 : World) (a : Int) (w : World) (b : Below w0.heap.size w0 w) :
    Calls Try.prog 26 #[.int .i64 a] w fun e w' => e = .returned (.tuple #[.int .i64 (cl a), .bool (ob a)]) ∧ Below w0.heap.size w0 w' := by
  refine (rclamp_any a w).mono ?_
  rintro e w' ⟨rfl, rfl⟩
  exact ⟨rfl, b⟩
theorem zA_of {p q X Y Z : Int} (h : runA p q 30 = (X, Y, Z)) : zA p q = Z := by unfold zA; rw [h]

set_option maxRecDepth 20000 in
theorem ratan_zero {c d : Int} (hc : c = 0) (hd : d = 0) (y x : Int) (w : World) (h1 : cl y = d) (h2 : cl x = c) :
    Calls Try.prog 13 #[.int .i64 y, .int .i64 x] w fun e w' => e = .returned (.int .u32 0) ∧ Below w.heap.size w w' := by
  subst hc hd
  go_enter Try.func13, Try.ntmps13
  go_wp2_with (go_at_call 26; refine (rclamp_any _ _).mono ?_; rintro e w' ⟨rfl, rfl⟩)
  go_ret
  exact ⟨rfl, Below.refl _ _⟩

set_option maxRecDepth 20000 in
set_option maxHeartbeats 2000000 in
theorem ratan_neg (c d y x : Int) (w : World) (h1 : cl y = d) (h2 : cl x = c) (c0 : -70368744177664 ≤ c) (c1 : c < 0) (d0 : -70368744177664 ≤ d) (d1 : d ≤ 70368744177663) :
    Calls Try.prog 13 #[.int .i64 y, .int .i64 x] w fun e w' => e = .returned (.int .u32 ((2147483648 + zA (-c * 4096) (-d * 4096)) % 4294967296)) ∧ Below w.heap.size w w' := by
  have b0 : Below w.heap.size w w := Below.refl _ _
  obtain ⟨V, hV⟩ : ∃ V, (2147483648 + zA (-c * 4096) (-d * 4096)) % 4294967296 = V := ⟨_, rfl⟩
  rw [hV]
  have HV : Hid ((2147483648 + zA (-c * 4096) (-d * 4096)) % 4294967296 = V) := hV
  clear hV
  have k0 : (c == 0) = false := by simp; omega
  obtain ⟨p, hp⟩ : ∃ p, -c * 4096 = p := ⟨_, rfl⟩
  obtain ⟨q, hq⟩ : ∃ q, -d * 4096 = q := ⟨_, rfl⟩
  rw [hp, hq] at HV
  have P0 : -288230376151711744 ≤ p := by omega
  have P1 : p ≤ 288230376151711744 := by omega
  have Q0 : -288230376151711744 ≤ q := by omega
  have Q1 : q ≤ 288230376151711744 := by omega
  go_enter Try.func13, Try.ntmps13
  go_wp2_with (go_at_call 26; refine (rclamp_from w _ _ (by assumption)).mono ?_; rintro e wc ⟨rfl, bc⟩)
  go_loopw [10, 11, 12, 13] (fun x y z i wr => ∃ (j : Nat) (X Y Z : Int), j ≤ 30 ∧ i = .int .i64 (j : Int) ∧ x = .int .i64 X ∧ y = .int .i64 Y ∧ z = .int .i32 Z ∧ Hid (runA p q j = (X, Y, Z)) ∧ Below w.heap.size w wr) (fun _ _ _ i _ => (30 - intOf i).toNat)
  case atStart => exact ⟨0, _, _, _, by omega, rfl, rfl, rfl, rfl, rfl, by assumption⟩
  case round =>
    obtain ⟨j, X, Y, Z, hj, rfl, rfl, rfl, rfl, HR, hbel⟩ := hrel
    clear b0 bc
    have be := runA_top P0 P1 Q0 Q1 j hj
    rw [HR.out] at be
    simp only at be
    obtain ⟨⟨x0, x1⟩, ⟨y0, y1⟩, ⟨z0, z1⟩⟩ := be
    clear P0 P1 Q0 Q1 hp hq c0 c1 d0 d1 h1 h2
    by_cases lt : j < 30
    · have lt2 : (j : Int) < 30 := by omega
      obtain ⟨t0, t1⟩ := T_bd ⟨j, lt⟩
      simp only at t0 t1
      obtain ⟨p0, p1⟩ := shr_bd (x := X) j (by omega) (by omega)
      obtain ⟨q0, q1⟩ := shr_bd (x := Y) j (by omega) (by omega)
      obtain ⟨P, hP⟩ : ∃ P, X / 2 ^ j = P := ⟨_, rfl⟩
      obtain ⟨Q, hQ⟩ : ∃ Q, Y / 2 ^ j = Q := ⟨_, rfl⟩
      obtain ⟨t, ht⟩ : ∃ t, T j = t := ⟨_, rfl⟩
      rw [hP] at p0 p1
      rw [hQ] at q0 q1
      rw [ht] at t0 t1
      by_cases hz : Y < 0
      · go_wp2_with (first | (go_at_call 22; refine (down_from w _ _ _ (by omega) (by omega) lt (by assumption)).mono ?_; rintro e wx ⟨rfl, bx⟩) | (go_at_call 15; refine (rturn_from w _ _ lt (by assumption)).mono ?_; rintro e wx ⟨rfl, bx⟩))
        go_round
        case rel =>
          refine ⟨j + 1, _, _, _, by omega, by go_num, rfl, rfl, rfl, ?_, by assumption⟩
          show runA p q (j + 1) = _
          rw [runA_next HR.out]
          unfold stA
          rw [if_pos (show Y < 0 by omega), hP, hQ, ht]
        case measure => simp [intOf]; omega
      · go_wp2_with (first | (go_at_call 22; refine (down_from w _ _ _ (by omega) (by omega) lt (by assumption)).mono ?_; rintro e wx ⟨rfl, bx⟩) | (go_at_call 15; refine (rturn_from w _ _ lt (by assumption)).mono ?_; rintro e wx ⟨rfl, bx⟩))
        go_round
        case rel =>
          refine ⟨j + 1, _, _, _, by omega, by go_num, rfl, rfl, rfl, ?_, by assumption⟩
          show runA p q (j + 1) = _
          rw [runA_next HR.out]
          unfold stA
          rw [if_neg (show ¬ Y < 0 by omega), hP, hQ, ht]
        case measure => simp [intOf]; omega
    · obtain rfl : j = 30 := by omega
      have nlt : ¬ ((30 : Nat) : Int) < 30 := by omega
      have hv := HV.out
      rw [zA_of HR.out] at hv
      clear HR HV
      obtain ⟨U, hU⟩ : ∃ U, IntKind.u32.wrap Z = U := ⟨_, rfl⟩
      have hW : IntKind.u32.wrap (2147483648 + U) = V := by rw [← hU, ← hv, IntKind.wrap_u32, IntKind.wrap_u32]; omega
      clear hv
      go_wp2
      go_ret
      exact ⟨rfl, by assumption⟩

set_option maxRecDepth 20000 in
set_option maxHeartbeats 2000000 in
theorem ratan_mid (c d y x : Int) (w : World) (h1 : cl y = d) (h2 : cl x = c) (c0 : (c == 0) = true) (c1 : (d == 0) = false) (d0 : -70368744177664 ≤ d) (d1 : d ≤ 70368744177663) :
    Calls Try.prog 13 #[.int .i64 y, .int .i64 x] w fun e w' => e = .returned (.int .u32 (zA (c * 4096) (d * 4096) % 4294967296)) ∧ Below w.heap.size w w' := by
  have b0 : Below w.heap.size w w := Below.refl _ _
  obtain ⟨V, hV⟩ : ∃ V, zA (c * 4096) (d * 4096) % 4294967296 = V := ⟨_, rfl⟩
  rw [hV]
  have HV : Hid (zA (c * 4096) (d * 4096) % 4294967296 = V) := hV
  clear hV
  have e0 : 0 ≤ c := by simp at c0; omega
  have e1 : c ≤ 70368744177663 := by simp at c0; omega
  obtain ⟨p, hp⟩ : ∃ p, c * 4096 = p := ⟨_, rfl⟩
  obtain ⟨q, hq⟩ : ∃ q, d * 4096 = q := ⟨_, rfl⟩
  rw [hp, hq] at HV
  have P0 : -288230376151711744 ≤ p := by omega
  have P1 : p ≤ 288230376151711744 := by omega
  have Q0 : -288230376151711744 ≤ q := by omega
  have Q1 : q ≤ 288230376151711744 := by omega
  go_enter Try.func13, Try.ntmps13
  go_wp2_with (go_at_call 26; refine (rclamp_from w _ _ (by assumption)).mono ?_; rintro e wc ⟨rfl, bc⟩)
  go_loopw [10, 11, 12, 13] (fun x y z i wr => ∃ (j : Nat) (X Y Z : Int), j ≤ 30 ∧ i = .int .i64 (j : Int) ∧ x = .int .i64 X ∧ y = .int .i64 Y ∧ z = .int .i32 Z ∧ Hid (runA p q j = (X, Y, Z)) ∧ Below w.heap.size w wr) (fun _ _ _ i _ => (30 - intOf i).toNat)
  case atStart => exact ⟨0, _, _, _, by omega, rfl, rfl, rfl, rfl, rfl, by assumption⟩
  case round =>
    obtain ⟨j, X, Y, Z, hj, rfl, rfl, rfl, rfl, HR, hbel⟩ := hrel
    clear b0 bc
    have be := runA_top P0 P1 Q0 Q1 j hj
    rw [HR.out] at be
    simp only at be
    obtain ⟨⟨x0, x1⟩, ⟨y0, y1⟩, ⟨z0, z1⟩⟩ := be
    clear P0 P1 Q0 Q1 hp hq c0 c1 d0 d1 h1 h2
    by_cases lt : j < 30
    · have lt2 : (j : Int) < 30 := by omega
      obtain ⟨t0, t1⟩ := T_bd ⟨j, lt⟩
      simp only at t0 t1
      obtain ⟨p0, p1⟩ := shr_bd (x := X) j (by omega) (by omega)
      obtain ⟨q0, q1⟩ := shr_bd (x := Y) j (by omega) (by omega)
      obtain ⟨P, hP⟩ : ∃ P, X / 2 ^ j = P := ⟨_, rfl⟩
      obtain ⟨Q, hQ⟩ : ∃ Q, Y / 2 ^ j = Q := ⟨_, rfl⟩
      obtain ⟨t, ht⟩ : ∃ t, T j = t := ⟨_, rfl⟩
      rw [hP] at p0 p1
      rw [hQ] at q0 q1
      rw [ht] at t0 t1
      by_cases hz : Y < 0
      · go_wp2_with (first | (go_at_call 22; refine (down_from w _ _ _ (by omega) (by omega) lt (by assumption)).mono ?_; rintro e wx ⟨rfl, bx⟩) | (go_at_call 15; refine (rturn_from w _ _ lt (by assumption)).mono ?_; rintro e wx ⟨rfl, bx⟩))
        go_round
        case rel =>
          refine ⟨j + 1, _, _, _, by omega, by go_num, rfl, rfl, rfl, ?_, by assumption⟩
          show runA p q (j + 1) = _
          rw [runA_next HR.out]
          unfold stA
          rw [if_pos (show Y < 0 by omega), hP, hQ, ht]
        case measure => simp [intOf]; omega
      · go_wp2_with (first | (go_at_call 22; refine (down_from w _ _ _ (by omega) (by omega) lt (by assumption)).mono ?_; rintro e wx ⟨rfl, bx⟩) | (go_at_call 15; refine (rturn_from w _ _ lt (by assumption)).mono ?_; rintro e wx ⟨rfl, bx⟩))
        go_round
        case rel =>
          refine ⟨j + 1, _, _, _, by omega, by go_num, rfl, rfl, rfl, ?_, by assumption⟩
          show runA p q (j + 1) = _
          rw [runA_next HR.out]
          unfold stA
          rw [if_neg (show ¬ Y < 0 by omega), hP, hQ, ht]
        case measure => simp [intOf]; omega
    · obtain rfl : j = 30 := by omega
      have nlt : ¬ ((30 : Nat) : Int) < 30 := by omega
      have hv := HV.out
      rw [zA_of HR.out] at hv
      clear HR HV
      have hU : IntKind.u32.wrap Z = V := by rw [← hv, IntKind.wrap_u32]
      obtain ⟨U0, U1⟩ : 0 ≤ V ∧ V ≤ 4294967295 := by omega
      clear hv
      go_wp2
      go_ret
      exact ⟨rfl, by assumption⟩

set_option maxRecDepth 20000 in
set_option maxHeartbeats 2000000 in
theorem ratan_pos (c d y x : Int) (w : World) (h1 : cl y = d) (h2 : cl x = c) (c0 : 1 ≤ c) (c1 : c ≤ 70368744177663) (d0 : -70368744177664 ≤ d) (d1 : d ≤ 70368744177663) :
    Calls Try.prog 13 #[.int .i64 y, .int .i64 x] w fun e w' => e = .returned (.int .u32 (zA (c * 4096) (d * 4096) % 4294967296)) ∧ Below w.heap.size w w' := by
  have b0 : Below w.heap.size w w := Below.refl _ _
  obtain ⟨V, hV⟩ : ∃ V, zA (c * 4096) (d * 4096) % 4294967296 = V := ⟨_, rfl⟩
  rw [hV]
  have HV : Hid (zA (c * 4096) (d * 4096) % 4294967296 = V) := hV
  clear hV
  have k0 : (c == 0) = false := by simp; omega
  obtain ⟨p, hp⟩ : ∃ p, c * 4096 = p := ⟨_, rfl⟩
  obtain ⟨q, hq⟩ : ∃ q, d * 4096 = q := ⟨_, rfl⟩
  rw [hp, hq] at HV
  have P0 : -288230376151711744 ≤ p := by omega
  have P1 : p ≤ 288230376151711744 := by omega
  have Q0 : -288230376151711744 ≤ q := by omega
  have Q1 : q ≤ 288230376151711744 := by omega
  go_enter Try.func13, Try.ntmps13
  go_wp2_with (go_at_call 26; refine (rclamp_from w _ _ (by assumption)).mono ?_; rintro e wc ⟨rfl, bc⟩)
  go_loopw [10, 11, 12, 13] (fun x y z i wr => ∃ (j : Nat) (X Y Z : Int), j ≤ 30 ∧ i = .int .i64 (j : Int) ∧ x = .int .i64 X ∧ y = .int .i64 Y ∧ z = .int .i32 Z ∧ Hid (runA p q j = (X, Y, Z)) ∧ Below w.heap.size w wr) (fun _ _ _ i _ => (30 - intOf i).toNat)
  case atStart => exact ⟨0, _, _, _, by omega, rfl, rfl, rfl, rfl, rfl, by assumption⟩
  case round =>
    obtain ⟨j, X, Y, Z, hj, rfl, rfl, rfl, rfl, HR, hbel⟩ := hrel
    clear b0 bc
    have be := runA_top P0 P1 Q0 Q1 j hj
    rw [HR.out] at be
    simp only at be
    obtain ⟨⟨x0, x1⟩, ⟨y0, y1⟩, ⟨z0, z1⟩⟩ := be
    clear P0 P1 Q0 Q1 hp hq c0 c1 d0 d1 h1 h2
    by_cases lt : j < 30
    · have lt2 : (j : Int) < 30 := by omega
      obtain ⟨t0, t1⟩ := T_bd ⟨j, lt⟩
      simp only at t0 t1
      obtain ⟨p0, p1⟩ := shr_bd (x := X) j (by omega) (by omega)
      obtain ⟨q0, q1⟩ := shr_bd (x := Y) j (by omega) (by omega)
      obtain ⟨P, hP⟩ : ∃ P, X / 2 ^ j = P := ⟨_, rfl⟩
      obtain ⟨Q, hQ⟩ : ∃ Q, Y / 2 ^ j = Q := ⟨_, rfl⟩
      obtain ⟨t, ht⟩ : ∃ t, T j = t := ⟨_, rfl⟩
      rw [hP] at p0 p1
      rw [hQ] at q0 q1
      rw [ht] at t0 t1
      by_cases hz : Y < 0
      · go_wp2_with (first | (go_at_call 22; refine (down_from w _ _ _ (by omega) (by omega) lt (by assumption)).mono ?_; rintro e wx ⟨rfl, bx⟩) | (go_at_call 15; refine (rturn_from w _ _ lt (by assumption)).mono ?_; rintro e wx ⟨rfl, bx⟩))
        go_round
        case rel =>
          refine ⟨j + 1, _, _, _, by omega, by go_num, rfl, rfl, rfl, ?_, by assumption⟩
          show runA p q (j + 1) = _
          rw [runA_next HR.out]
          unfold stA
          rw [if_pos (show Y < 0 by omega), hP, hQ, ht]
        case measure => simp [intOf]; omega
      · go_wp2_with (first | (go_at_call 22; refine (down_from w _ _ _ (by omega) (by omega) lt (by assumption)).mono ?_; rintro e wx ⟨rfl, bx⟩) | (go_at_call 15; refine (rturn_from w _ _ lt (by assumption)).mono ?_; rintro e wx ⟨rfl, bx⟩))
        go_round
        case rel =>
          refine ⟨j + 1, _, _, _, by omega, by go_num, rfl, rfl, rfl, ?_, by assumption⟩
          show runA p q (j + 1) = _
          rw [runA_next HR.out]
          unfold stA
          rw [if_neg (show ¬ Y < 0 by omega), hP, hQ, ht]
        case measure => simp [intOf]; omega
    · obtain rfl : j = 30 := by omega
      have nlt : ¬ ((30 : Nat) : Int) < 30 := by omega
      have hv := HV.out
      rw [zA_of HR.out] at hv
      clear HR HV
      have hU : IntKind.u32.wrap Z = V := by rw [← hv, IntKind.wrap_u32]
      obtain ⟨U0, U1⟩ : 0 ≤ V ∧ V ≤ 4294967295 := by omega
      clear hv
      go_wp2
      go_ret
      exact ⟨rfl, by assumption⟩

/-- the document's Atan -/
theorem ratan_any (y x : Int) (w : World) : Calls Try.prog 13 #[.int .i64 y, .int .i64 x] w fun e w' => e = .returned (.int .u32 (atanv y x)) ∧ Below w.heap.size w w' := by
  have a1 := cl_lo x; have a2 := cl_hi x; have a3 := cl_lo y; have a4 := cl_hi y
  unfold atanv
  by_cases h : cl x = 0 ∧ cl y = 0
  · rw [if_pos h]
    exact ratan_zero h.1 h.2 y x w rfl rfl
  · rw [if_neg h]
    by_cases h2 : cl x < 0
    · rw [if_pos h2]
      exact ratan_neg _ _ y x w rfl rfl a1 h2 a3 a4
    · rw [if_neg h2]
      by_cases h3 : cl x = 0
      · exact ratan_mid _ _ y x w rfl rfl (by simpa using h3) (by simp; intro h4; exact h ⟨h3, h4⟩) a3 a4
      · exact ratan_pos _ _ y x w rfl rfl (by omega) a2 a3 a4
end Go.Proofs.Ytliebglildaneaa
