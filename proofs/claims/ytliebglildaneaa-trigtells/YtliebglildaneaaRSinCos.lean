/-
  The contract of the document's SinCos.
-/
import Derived.Test.YtliebglildaneaaRTurn
namespace Go.Proofs.Ytliebglildaneaa
open Go.RowKit Qm Tm

theorem runS_next {z X Y Z : Int} {j : Nat} (h : runS z j = (X, Y, Z)) : runS z (j + 1) = stS j (X, Y, Z) := by
  show stS j (runS z j) = _
  rw [h]
theorem runA_next {p q X Y Z : Int} {j : Nat} (h : runA p q j = (X, Y, Z)) : runA p q (j + 1) = stA j (X, Y, Z) := by
  show stA j (runA p q j) = _
  rw [h]
theorem down_from (w0 : World) (n : Int) (k : Nat) (w : World) (n0 : -2305843009213693952 ≤ n) (n1 : n ≤ 2305843009213693952) (hk : k < 30) (b : Below w0.heap.size w0 w) :
    Calls Try.prog 22 #[.int .i64 n, .int .i64 k] w fun e w' => e = .returned (.int .i64 (n / 2 ^ k)) ∧ Below w0.heap.size w0 w' := by
  refine (down_any n k w n0 n1 hk).mono ?_
  rintro e w' ⟨rfl, rfl⟩
  exact ⟨rfl, b⟩
theorem rturn_from (w0 : World) (k : Nat) (w : World) (hk : k < 30) (b : Below w0.heap.size w0 w) :
    Calls Try.prog 15 #[.int .i64 k] w fun e w' => e = .returned (.int .i32 (T k)) ∧ Below w0.heap.size w0 w' := by
  refine (rturn_in k w hk).mono ?_
  rintro e w' ⟨rfl, rfl⟩
  exact ⟨rfl, b.alloc b.size _⟩
theorem rhalf_from (w0 : World) (n b : Int) (w : World) (n0 : -9223372036854775808 ≤ n) (n1 : n ≤ 9223372036854775807) (h : Below w0.heap.size w0 w) :
    Calls Try.prog 23 #[.int .i64 n, .int .i64 b] w fun e w' => e = .returned (.int .i64 (half n b)) ∧ Below w0.heap.size w0 w' := by
  refine (rhalf_any n b w n0 n1).mono ?_
  rintro e w' ⟨rfl, rfl⟩
  exact ⟨rfl, h⟩

theorem sn_of {z X Y Z : Int} (h : runS z 30 = (X, Y, Z)) : sn z = half Y 6 := by unfold sn; rw [h]
theorem cs_of {z X Y Z : Int} (h : runS z 30 = (X, Y, Z)) : cs z = half X 6 := by unfold cs; rw [h]

set_option maxRecDepth 20000 in
set_option maxHeartbeats 2000000 in
theorem rsincos_front (b : Int) (w : World) (h0 : 0 ≤ b) (h1 : b < 1073741824) :
    Calls Try.prog 11 #[.int .u32 (b)] w fun e w' => e = .returned (.tuple #[.int .i64 (sn b), .int .i64 (cs b)]) ∧ Below w.heap.size w w' := by
  obtain ⟨U, hU⟩ : ∃ U, sn b = U := ⟨_, rfl⟩
  obtain ⟨V, hV⟩ : ∃ V, cs b = V := ⟨_, rfl⟩
  rw [hU, hV]
  have HU : Hid (sn b = U ∧ cs b = V) := ⟨hU, hV⟩
  clear hU hV
  have b0 : Below w.heap.size w w := Below.refl _ _
  go_enter Try.func11, Try.ntmps11
  go_wp2
  go_loopw [4, 6, 7, 8] (fun z x y i wr => ∃ (j : Nat) (X Y Z : Int), j ≤ 30 ∧ i = .int .i64 (j : Int) ∧ x = .int .i64 X ∧ y = .int .i64 Y ∧ z = .int .i32 Z ∧ Hid (runS b j = (X, Y, Z)) ∧ Below w.heap.size w wr) (fun _ _ _ i _ => (30 - intOf i).toNat)
  case atStart => exact ⟨0, _, _, _, by omega, rfl, rfl, rfl, rfl, rfl, b0⟩
  case round =>
    obtain ⟨j, X, Y, Z, hj, rfl, rfl, rfl, rfl, HR, hbel⟩ := hrel
    clear b0
    have bd := runS_z (z := b) (by omega) (by omega) j hj
    have be := runS_xy b j hj
    rw [HR.out] at bd be
    simp only at bd be
    obtain ⟨z0, z1⟩ := bd
    obtain ⟨⟨x0, x1⟩, ⟨y0, y1⟩⟩ := be
    by_cases lt : j < 30
    · have lt2 : (j : Int) < 30 := by omega
      obtain ⟨t0, t1⟩ := T_bd ⟨j, lt⟩
      simp only at t0 t1
      obtain ⟨p0, p1⟩ := shr_bd (x := X) j (by omega) (by omega)
      obtain ⟨q0, q1⟩ := shr_bd (x := Y) j (by omega) (by omega)
      obtain ⟨P, hP⟩ : ∃ P, X / 2 ^ j = P := ⟨_, rfl⟩
      obtain ⟨Q, hQ⟩ : ∃ Q, Y / 2 ^ j = Q := ⟨_, rfl⟩
      obtain ⟨t, ht⟩ : ∃ t, T j = t := ⟨_, rfl⟩
      rw [hP] at p0 p1
      rw [hQ] at q0 q1
      rw [ht] at t0 t1
      by_cases hz : 0 ≤ Z
      · go_wp2_with (first | (go_at_call 22; refine (down_from w _ _ _ (by omega) (by omega) lt (by assumption)).mono ?_; rintro e wx ⟨rfl, bx⟩) | (go_at_call 15; refine (rturn_from w _ _ lt (by assumption)).mono ?_; rintro e wx ⟨rfl, bx⟩))
        go_round
        case rel =>
          refine ⟨j + 1, _, _, _, by omega, by go_num, rfl, rfl, rfl, ?_, by assumption⟩
          show runS b (j + 1) = _
          rw [runS_next HR.out]
          unfold stS
          rw [if_pos hz, hP, hQ, ht]
        case measure => simp [intOf]; omega
      · go_wp2_with (first | (go_at_call 22; refine (down_from w _ _ _ (by omega) (by omega) lt (by assumption)).mono ?_; rintro e wx ⟨rfl, bx⟩) | (go_at_call 15; refine (rturn_from w _ _ lt (by assumption)).mono ?_; rintro e wx ⟨rfl, bx⟩))
        go_round
        case rel =>
          refine ⟨j + 1, _, _, _, by omega, by go_num, rfl, rfl, rfl, ?_, by assumption⟩
          show runS b (j + 1) = _
          rw [runS_next HR.out]
          unfold stS
          rw [if_neg (show ¬ (0 : Int) ≤ Z by omega), hP, hQ, ht]
        case measure => simp [intOf]; omega
    · obtain rfl : j = 30 := by omega
      have nlt : ¬ ((30 : Nat) : Int) < 30 := by omega
      obtain ⟨u, v⟩ := HU.out
      rw [sn_of HR.out] at u
      rw [cs_of HR.out] at v
      obtain ⟨u0, u1⟩ := half6_bd y0 y1
      obtain ⟨v0, v1⟩ := half6_bd x0 x1
      rw [u] at u0 u1
      rw [v] at v0 v1
      clear HR HU
      go_wp2_with (go_at_call 23; refine (rhalf_from w _ _ _ (by omega) (by omega) (by assumption)).mono ?_; rintro e wx ⟨rfl, bx⟩)
      go_ret2
      exact ⟨rfl, by assumption⟩

set_option maxRecDepth 20000 in
set_option maxHeartbeats 2000000 in
theorem rsincos_left (b : Int) (w : World) (h0 : -1073741824 ≤ b) (h1 : b < 0) :
    Calls Try.prog 11 #[.int .u32 (b + 2147483648)] w fun e w' => e = .returned (.tuple #[.int .i64 (-(sn b)), .int .i64 (-(cs b))]) ∧ Below w.heap.size w w' := by
  obtain ⟨U, hU⟩ : ∃ U, sn b = U := ⟨_, rfl⟩
  obtain ⟨V, hV⟩ : ∃ V, cs b = V := ⟨_, rfl⟩
  rw [hU, hV]
  have HU : Hid (sn b = U ∧ cs b = V) := ⟨hU, hV⟩
  clear hU hV
  have b0 : Below w.heap.size w w := Below.refl _ _
  have k1 : IntKind.i32.wrap (b + 2147483648 + 2147483648) = b := by rw [IntKind.wrap_i32]; omega
  go_enter Try.func11, Try.ntmps11
  go_wp2
  go_loopw [4, 6, 7, 8] (fun z x y i wr => ∃ (j : Nat) (X Y Z : Int), j ≤ 30 ∧ i = .int .i64 (j : Int) ∧ x = .int .i64 X ∧ y = .int .i64 Y ∧ z = .int .i32 Z ∧ Hid (runS b j = (X, Y, Z)) ∧ Below w.heap.size w wr) (fun _ _ _ i _ => (30 - intOf i).toNat)
  case atStart => exact ⟨0, _, _, _, by omega, rfl, rfl, rfl, rfl, rfl, b0⟩
  case round =>
    obtain ⟨j, X, Y, Z, hj, rfl, rfl, rfl, rfl, HR, hbel⟩ := hrel
    clear b0
    have bd := runS_z (z := b) (by omega) (by omega) j hj
    have be := runS_xy b j hj
    rw [HR.out] at bd be
    simp only at bd be
    obtain ⟨z0, z1⟩ := bd
    obtain ⟨⟨x0, x1⟩, ⟨y0, y1⟩⟩ := be
    by_cases lt : j < 30
    · have lt2 : (j : Int) < 30 := by omega
      obtain ⟨t0, t1⟩ := T_bd ⟨j, lt⟩
      simp only at t0 t1
      obtain ⟨p0, p1⟩ := shr_bd (x := X) j (by omega) (by omega)
      obtain ⟨q0, q1⟩ := shr_bd (x := Y) j (by omega) (by omega)
      obtain ⟨P, hP⟩ : ∃ P, X / 2 ^ j = P := ⟨_, rfl⟩
      obtain ⟨Q, hQ⟩ : ∃ Q, Y / 2 ^ j = Q := ⟨_, rfl⟩
      obtain ⟨t, ht⟩ : ∃ t, T j = t := ⟨_, rfl⟩
      rw [hP] at p0 p1
      rw [hQ] at q0 q1
      rw [ht] at t0 t1
      by_cases hz : 0 ≤ Z
      · go_wp2_with (first | (go_at_call 22; refine (down_from w _ _ _ (by omega) (by omega) lt (by assumption)).mono ?_; rintro e wx ⟨rfl, bx⟩) | (go_at_call 15; refine (rturn_from w _ _ lt (by assumption)).mono ?_; rintro e wx ⟨rfl, bx⟩))
        go_round
        case rel =>
          refine ⟨j + 1, _, _, _, by omega, by go_num, rfl, rfl, rfl, ?_, by assumption⟩
          show runS b (j + 1) = _
          rw [runS_next HR.out]
          unfold stS
          rw [if_pos hz, hP, hQ, ht]
        case measure => simp [intOf]; omega
      · go_wp2_with (first | (go_at_call 22; refine (down_from w _ _ _ (by omega) (by omega) lt (by assumption)).mono ?_; rintro e wx ⟨rfl, bx⟩) | (go_at_call 15; refine (rturn_from w _ _ lt (by assumption)).mono ?_; rintro e wx ⟨rfl, bx⟩))
        go_round
        case rel =>
          refine ⟨j + 1, _, _, _, by omega, by go_num, rfl, rfl, rfl, ?_, by assumption⟩
          show runS b (j + 1) = _
          rw [runS_next HR.out]
          unfold stS
          rw [if_neg (show ¬ (0 : Int) ≤ Z by omega), hP, hQ, ht]
        case measure => simp [intOf]; omega
    · obtain rfl : j = 30 := by omega
      have nlt : ¬ ((30 : Nat) : Int) < 30 := by omega
      obtain ⟨u, v⟩ := HU.out
      rw [sn_of HR.out] at u
      rw [cs_of HR.out] at v
      obtain ⟨u0, u1⟩ := half6_bd y0 y1
      obtain ⟨v0, v1⟩ := half6_bd x0 x1
      rw [u] at u0 u1
      rw [v] at v0 v1
      clear HR HU
      go_wp2_with (go_at_call 23; refine (rhalf_from w _ _ _ (by omega) (by omega) (by assumption)).mono ?_; rintro e wx ⟨rfl, bx⟩)
      go_ret2
      exact ⟨rfl, by assumption⟩

set_option maxRecDepth 20000 in
set_option maxHeartbeats 2000000 in
theorem rsincos_right (b : Int) (w : World) (h0 : 0 ≤ b) (h1 : b < 1073741824) :
    Calls Try.prog 11 #[.int .u32 (b + 2147483648)] w fun e w' => e = .returned (.tuple #[.int .i64 (-(sn b)), .int .i64 (-(cs b))]) ∧ Below w.heap.size w w' := by
  obtain ⟨U, hU⟩ : ∃ U, sn b = U := ⟨_, rfl⟩
  obtain ⟨V, hV⟩ : ∃ V, cs b = V := ⟨_, rfl⟩
  rw [hU, hV]
  have HU : Hid (sn b = U ∧ cs b = V) := ⟨hU, hV⟩
  clear hU hV
  have b0 : Below w.heap.size w w := Below.refl _ _
  have k1 : IntKind.i32.wrap (b + 2147483648) = b - 2147483648 := by rw [IntKind.wrap_i32]; omega
  have k2 : IntKind.u32.wrap (b + 2147483648 + 2147483648) = b := by rw [IntKind.wrap_u32]; omega
  go_enter Try.func11, Try.ntmps11
  go_wp2
  go_loopw [4, 6, 7, 8] (fun z x y i wr => ∃ (j : Nat) (X Y Z : Int), j ≤ 30 ∧ i = .int .i64 (j : Int) ∧ x = .int .i64 X ∧ y = .int .i64 Y ∧ z = .int .i32 Z ∧ Hid (runS b j = (X, Y, Z)) ∧ Below w.heap.size w wr) (fun _ _ _ i _ => (30 - intOf i).toNat)
  case atStart => exact ⟨0, _, _, _, by omega, rfl, rfl, rfl, rfl, rfl, b0⟩
  case round =>
    obtain ⟨j, X, Y, Z, hj, rfl, rfl, rfl, rfl, HR, hbel⟩ := hrel
    clear b0
    have bd := runS_z (z := b) (by omega) (by omega) j hj
    have be := runS_xy b j hj
    rw [HR.out] at bd be
    simp only at bd be
    obtain ⟨z0, z1⟩ := bd
    obtain ⟨⟨x0, x1⟩, ⟨y0, y1⟩⟩ := be
    by_cases lt : j < 30
    · have lt2 : (j : Int) < 30 := by omega
      obtain ⟨t0, t1⟩ := T_bd ⟨j, lt⟩
      simp only at t0 t1
      obtain ⟨p0, p1⟩ := shr_bd (x := X) j (by omega) (by omega)
      obtain ⟨q0, q1⟩ := shr_bd (x := Y) j (by omega) (by omega)
      obtain ⟨P, hP⟩ : ∃ P, X / 2 ^ j = P := ⟨_, rfl⟩
      obtain ⟨Q, hQ⟩ : ∃ Q, Y / 2 ^ j = Q := ⟨_, rfl⟩
      obtain ⟨t, ht⟩ : ∃ t, T j = t := ⟨_, rfl⟩
      rw [hP] at p0 p1
      rw [hQ] at q0 q1
      rw [ht] at t0 t1
      by_cases hz : 0 ≤ Z
      · go_wp2_with (first | (go_at_call 22; refine (down_from w _ _ _ (by omega) (by omega) lt (by assumption)).mono ?_; rintro e wx ⟨rfl, bx⟩) | (go_at_call 15; refine (rturn_from w _ _ lt (by assumption)).mono ?_; rintro e wx ⟨rfl, bx⟩))
        go_round
        case rel =>
          refine ⟨j + 1, _, _, _, by omega, by go_num, rfl, rfl, rfl, ?_, by assumption⟩
          show runS b (j + 1) = _
          rw [runS_next HR.out]
          unfold stS
          rw [if_pos hz, hP, hQ, ht]
        case measure => simp [intOf]; omega
      · go_wp2_with (first | (go_at_call 22; refine (down_from w _ _ _ (by omega) (by omega) lt (by assumption)).mono ?_; rintro e wx ⟨rfl, bx⟩) | (go_at_call 15; refine (rturn_from w _ _ lt (by assumption)).mono ?_; rintro e wx ⟨rfl, bx⟩))
        go_round
        case rel =>
          refine ⟨j + 1, _, _, _, by omega, by go_num, rfl, rfl, rfl, ?_, by assumption⟩
          show runS b (j + 1) = _
          rw [runS_next HR.out]
          unfold stS
          rw [if_neg (show ¬ (0 : Int) ≤ Z by omega), hP, hQ, ht]
        case measure => simp [intOf]; omega
    · obtain rfl : j = 30 := by omega
      have nlt : ¬ ((30 : Nat) : Int) < 30 := by omega
      obtain ⟨u, v⟩ := HU.out
      rw [sn_of HR.out] at u
      rw [cs_of HR.out] at v
      obtain ⟨u0, u1⟩ := half6_bd y0 y1
      obtain ⟨v0, v1⟩ := half6_bd x0 x1
      rw [u] at u0 u1
      rw [v] at v0 v1
      clear HR HU
      go_wp2_with (go_at_call 23; refine (rhalf_from w _ _ _ (by omega) (by omega) (by assumption)).mono ?_; rintro e wx ⟨rfl, bx⟩)
      go_ret2
      exact ⟨rfl, by assumption⟩

set_option maxRecDepth 20000 in
set_option maxHeartbeats 2000000 in
theorem rsincos_back (b : Int) (w : World) (h0 : -1073741824 ≤ b) (h1 : b < 0) :
    Calls Try.prog 11 #[.int .u32 (b + 4294967296)] w fun e w' => e = .returned (.tuple #[.int .i64 (sn b), .int .i64 (cs b)]) ∧ Below w.heap.size w w' := by
  obtain ⟨U, hU⟩ : ∃ U, sn b = U := ⟨_, rfl⟩
  obtain ⟨V, hV⟩ : ∃ V, cs b = V := ⟨_, rfl⟩
  rw [hU, hV]
  have HU : Hid (sn b = U ∧ cs b = V) := ⟨hU, hV⟩
  clear hU hV
  have b0 : Below w.heap.size w w := Below.refl _ _
  have k1 : IntKind.i32.wrap (b + 4294967296) = b := by rw [IntKind.wrap_i32]; omega
  go_enter Try.func11, Try.ntmps11
  go_wp2
  go_loopw [4, 6, 7, 8] (fun z x y i wr => ∃ (j : Nat) (X Y Z : Int), j ≤ 30 ∧ i = .int .i64 (j : Int) ∧ x = .int .i64 X ∧ y = .int .i64 Y ∧ z = .int .i32 Z ∧ Hid (runS b j = (X, Y, Z)) ∧ Below w.heap.size w wr) (fun _ _ _ i _ => (30 - intOf i).toNat)
  case atStart => exact ⟨0, _, _, _, by omega, rfl, rfl, rfl, rfl, rfl, b0⟩
  case round =>
    obtain ⟨j, X, Y, Z, hj, rfl, rfl, rfl, rfl, HR, hbel⟩ := hrel
    clear b0
    have bd := runS_z (z := b) (by omega) (by omega) j hj
    have be := runS_xy b j hj
    rw [HR.out] at bd be
    simp only at bd be
    obtain ⟨z0, z1⟩ := bd
    obtain ⟨⟨x0, x1⟩, ⟨y0, y1⟩⟩ := be
    by_cases lt : j < 30
    · have lt2 : (j : Int) < 30 := by omega
      obtain ⟨t0, t1⟩ := T_bd ⟨j, lt⟩
      simp only at t0 t1
      obtain ⟨p0, p1⟩ := shr_bd (x := X) j (by omega) (by omega)
      obtain ⟨q0, q1⟩ := shr_bd (x := Y) j (by omega) (by omega)
      obtain ⟨P, hP⟩ : ∃ P, X / 2 ^ j = P := ⟨_, rfl⟩
      obtain ⟨Q, hQ⟩ : ∃ Q, Y / 2 ^ j = Q := ⟨_, rfl⟩
      obtain ⟨t, ht⟩ : ∃ t, T j = t := ⟨_, rfl⟩
      rw [hP] at p0 p1
      rw [hQ] at q0 q1
      rw [ht] at t0 t1
      by_cases hz : 0 ≤ Z
      · go_wp2_with (first | (go_at_call 22; refine (down_from w _ _ _ (by omega) (by omega) lt (by assumption)).mono ?_; rintro e wx ⟨rfl, bx⟩) | (go_at_call 15; refine (rturn_from w _ _ lt (by assumption)).mono ?_; rintro e wx ⟨rfl, bx⟩))
        go_round
        case rel =>
          refine ⟨j + 1, _, _, _, by omega, by go_num, rfl, rfl, rfl, ?_, by assumption⟩
          show runS b (j + 1) = _
          rw [runS_next HR.out]
          unfold stS
          rw [if_pos hz, hP, hQ, ht]
        case measure => simp [intOf]; omega
      · go_wp2_with (first | (go_at_call 22; refine (down_from w _ _ _ (by omega) (by omega) lt (by assumption)).mono ?_; rintro e wx ⟨rfl, bx⟩) | (go_at_call 15; refine (rturn_from w _ _ lt (by assumption)).mono ?_; rintro e wx ⟨rfl, bx⟩))
        go_round
        case rel =>
          refine ⟨j + 1, _, _, _, by omega, by go_num, rfl, rfl, rfl, ?_, by assumption⟩
          show runS b (j + 1) = _
          rw [runS_next HR.out]
          unfold stS
          rw [if_neg (show ¬ (0 : Int) ≤ Z by omega), hP, hQ, ht]
        case measure => simp [intOf]; omega
    · obtain rfl : j = 30 := by omega
      have nlt : ¬ ((30 : Nat) : Int) < 30 := by omega
      obtain ⟨u, v⟩ := HU.out
      rw [sn_of HR.out] at u
      rw [cs_of HR.out] at v
      obtain ⟨u0, u1⟩ := half6_bd y0 y1
      obtain ⟨v0, v1⟩ := half6_bd x0 x1
      rw [u] at u0 u1
      rw [v] at v0 v1
      clear HR HU
      go_wp2_with (go_at_call 23; refine (rhalf_from w _ _ _ (by omega) (by omega) (by assumption)).mono ?_; rintro e wx ⟨rfl, bx⟩)
      go_ret2
      exact ⟨rfl, by assumption⟩

/-- the document's SinCos -/
theorem rsincos_any (a : Int) (w : World) (h0 : 0 ≤ a) (h1 : a ≤ 4294967295) :
    Calls Try.prog 11 #[.int .u32 a] w fun e w' => e = .returned (.tuple #[.int .i64 (sine a), .int .i64 (cosine a)]) ∧ Below w.heap.size w w' := by
  unfold sine cosine
  by_cases c1 : a < 1073741824
  · obtain ⟨e1, e2⟩ := ang1 h0 c1
    rw [e1, e2]
    simp only [Bool.false_eq_true, if_false]
    exact rsincos_front a w h0 c1
  · by_cases c2 : a < 3221225472
    · obtain ⟨e1, e2⟩ := ang2 (by omega) c2
      rw [e1, e2]
      simp only [if_true]
      obtain ⟨b, hb⟩ : ∃ b, a = b + 2147483648 := ⟨a - 2147483648, by omega⟩
      subst hb
      rw [show b + 2147483648 - 2147483648 = b by omega]
      by_cases c3 : b < 0
      · exact rsincos_left b w (by omega) c3
      · exact rsincos_right b w (by omega) (by omega)
    · obtain ⟨e1, e2⟩ := ang3 (by omega) (by omega : a < 4294967296)
      rw [e1, e2]
      simp only [Bool.false_eq_true, if_false]
      obtain ⟨b, hb⟩ : ∃ b, a = b + 4294967296 := ⟨a - 4294967296, by omega⟩
      subst hb
      rw [show b + 4294967296 - 4294967296 = b by omega]
      exact rsincos_back b w (by omega) (by omega)
end Go.Proofs.Ytliebglildaneaa
