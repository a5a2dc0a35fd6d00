/-
  The contracts of the document's Turn, Wrap and down.
-/
import Derived.Test.YtliebglildaneaaAtan
import Derived.Test.YtliebglildaneaaRHalf
namespace Go.Proofs.Ytliebglildaneaa
open Go.RowKit Qm Tm

set_option maxHeartbeats 400000 in
theorem rwrap_any (a b : Int) (w : World) : Calls Try.prog 17 #[.int .u32 a, .int .u32 b] w fun e w' => e = .returned (.int .i32 (wrapv a b)) ∧ w' = w := by
  have k : wrap32 ((a - b) % 4294967296) = wrapv a b := by
    unfold wrapv wrap32
    omega
  go_enter Try.func17, Try.ntmps17
  go_wp2
  go_ret
  exact ⟨congrArg (fun v => Ending.returned (.int .i32 v)) k, rfl⟩

set_option maxHeartbeats 1000000 in
theorem down_any (n : Int) (k : Nat) (w : World) (n0 : -2305843009213693952 ≤ n) (n1 : n ≤ 2305843009213693952) (hk : k < 30) :
    Calls Try.prog 22 #[.int .i64 n, .int .i64 k] w fun e w' => e = .returned (.int .i64 (n / 2 ^ k)) ∧ w' = w := by
  obtain ⟨Z, hz⟩ : ∃ Z, n / 2 ^ k = Z := ⟨_, rfl⟩
  rw [hz]
  have HZ : Hid (n / 2 ^ k = Z) := hz
  clear hz
  go_enter Try.func22, Try.ntmps22
  go_wp2
  go_loop [5, 6] (fun d i => ∃ j : Nat, j ≤ k ∧ d = .int .i64 (2 ^ j) ∧ i = .int .i64 (j : Int)) (fun _ i => (30 - intOf i).toNat)
  case atStart => exact ⟨0, by omega, rfl, rfl⟩
  case round =>
    obtain ⟨j, hj, rfl, rfl⟩ := hrel
    by_cases lt : j < k
    · obtain ⟨g1, g2⟩ := pow_bd j (by omega)
      have e2 : (2 : Int) ^ (j + 1) = 2 ^ j * 2 := Int.pow_succ 2 j
      have g3 := (pow_bd (j + 1) (by omega)).2
      rw [e2] at g3
      have H2 : Hid ((2 : Int) ^ (j + 1) = 2 ^ j * 2) := e2
      clear e2
      have lt2 : (j : Int) < (k : Int) := by omega
      go_wp2
      go_round
      case rel => exact ⟨j + 1, by omega, by rw [H2.out], by go_num⟩
      case measure => simp [intOf]; omega
    · obtain rfl : j = k := by omega
      have nlt : ¬ (j : Int) < (j : Int) := by omega
      obtain ⟨p1, p2⟩ := pow_bd j (by omega)
      obtain ⟨D, hD⟩ : ∃ D : Int, (2 : Int) ^ j = D := ⟨_, rfl⟩
      have hz := HZ.out
      clear HZ
      rw [hD] at p1 p2 hz
      have e := Int.tmod_add_mul_tdiv n D
      obtain ⟨T, hT⟩ : ∃ T, n.tdiv D = T := ⟨_, rfl⟩
      obtain ⟨R, hR⟩ : ∃ R, n.tmod D = R := ⟨_, rfl⟩
      rw [hT, hR, Int.mul_comm D T] at e
      obtain ⟨M, hM⟩ : ∃ M, T * D = M := ⟨_, rfl⟩
      rw [hM] at e
      have t0 := Int.lt_tmod_of_pos n (show 0 < D by omega)
      have t1 := Int.tmod_lt_of_pos n (show 0 < D by omega)
      rw [hR] at t0 t1
      have m0 : -9223372036854775808 ≤ M := by omega
      have m1 : M ≤ 9223372036854775807 := by omega
      by_cases s : R < 0
      · obtain ⟨f1, -⟩ := floor_neg p1 (by rw [hR]; exact s)
        rw [hT, hz] at f1
        have s1 : n < 0 := by
          by_cases c : n < 0
          · exact c
          · have := Int.tmod_nonneg D (show 0 ≤ n by omega); omega
        have s2 : (M != n) = true := by simp; omega
        have b1 : -2305843009213693953 ≤ Z ∧ Z ≤ 2305843009213693952 := by rw [← hz, ← hD]; exact shr_bd j n0 n1
        have T0 : T = Z + 1 := by omega
        subst T0
        clear e f1 t0 t1 s
        go_wp2
        go_ret
        exact ⟨rfl, rfl⟩
      · obtain ⟨f1, -⟩ := floor_pos p1 (by rw [hR]; exact s)
        rw [hT, hz] at f1
        have b1 : -2305843009213693953 ≤ Z ∧ Z ≤ 2305843009213693952 := by rw [← hz, ← hD]; exact shr_bd j n0 n1
        subst f1
        by_cases s1 : n < 0
        · have r0 : R = 0 := by
            have h := Int.tmod_nonneg D (show 0 ≤ -n by omega)
            rw [Int.neg_tmod, hR] at h
            omega
          have s2 : (M != n) = false := by simp; omega
          clear e t0 t1 s r0
          go_wp2
          go_ret
          exact ⟨rfl, rfl⟩
        · clear e t0 t1 s
          go_wp2
          go_ret
          exact ⟨rfl, rfl⟩

/-! ### the document's Turn: a slice literal -/
set_option maxHeartbeats 400000 in
theorem rturn_in (k : Nat) (w : World) (h : k < 30) : Calls Try.prog 15 #[.int .i64 k] w fun e w' => e = .returned (.int .i32 (T k)) ∧ w' = w.alloc (.cells TV 21) := by
  have hk := TV_at h
  have h1 : (k : Int) < 30 := by omega
  have hc : (w.alloc (.cells TV 21)).cell? ⟨w.heap.size, k, none⟩ = some (.int .i32 (T k)) := by
    rw [cell_of_row _ _ k TV 21 (0, 0) (heap_alloc_last w _)]; exact hk
  go_enter Try.func15, Try.ntmps15
  refine wp_seq (wp_region_lit ?_)
  refine wp_run rfl (some 2) rfl (.int .i32 0) w (by kernel_rfl) ?_
  refine wpList_nil ?_
  refine wp_seq (wp_region_lit ?_)
  refine wpList_buildFlat rfl 50 21 30 _ rfl .i32 TL (by kernel_rfl) (by kernel_rfl) (by kernel_rfl) (by kernel_rfl) (by decide) (by decide) (by kernel_rfl) ?_
  rw [← TV_def]
  go_wp2
  go_ret
  exact ⟨rfl, rfl⟩
set_option maxHeartbeats 400000 in
theorem rturn_out (i : Int) (w : World) (h : i < 0 ∨ 30 ≤ i) : Calls Try.prog 15 #[.int .i64 i] w fun e w' => e = .returned (.int .i32 0) ∧ w' = w.alloc (.cells TV 21) := by
  rcases h with h | h
  all_goals
    go_enter Try.func15, Try.ntmps15
    refine wp_seq (wp_region_lit ?_)
    refine wp_run rfl (some 2) rfl (.int .i32 0) w (by kernel_rfl) ?_
    refine wpList_nil ?_
    refine wp_seq (wp_region_lit ?_)
    refine wpList_buildFlat rfl 50 21 30 _ rfl .i32 TL (by kernel_rfl) (by kernel_rfl) (by kernel_rfl) (by kernel_rfl) (by decide) (by decide) (by kernel_rfl) ?_
    rw [← TV_def]
    go_wp2
    go_ret
    exact ⟨rfl, rfl⟩
set_option maxHeartbeats 400000 in
theorem turn_out (i : Int) (w : World) (h : i < 0 ∨ 30 ≤ i) : Calls Try.prog 14 #[.int .i64 i] w fun e w' => e = .returned (.int .i32 0) ∧ w' = w := by
  rcases h with h | h
  all_goals
    go_enter Try.func14, Try.ntmps14
    go_wp2
    go_ret
    exact ⟨rfl, rfl⟩
namespace Tm
/-- the turn of a place -/
def turnv (i : Int) : Int := if 0 ≤ i ∧ i < 30 then T i.toNat else 0
end Tm
theorem turn_any (i : Int) (w : World) : Calls Try.prog 14 #[.int .i64 i] w fun e w' => e = .returned (.int .i32 (turnv i)) ∧ Below w.heap.size w w' := by
  unfold turnv
  by_cases h : 0 ≤ i ∧ i < 30
  · rw [if_pos h]
    obtain ⟨k, rfl⟩ := Int.eq_ofNat_of_zero_le h.1
    refine (turn_in k w (by omega)).mono ?_
    rintro e w' ⟨rfl, rfl⟩
    exact ⟨rfl, (Below.refl _ _).alloc (Nat.le_refl _) _⟩
  · rw [if_neg h]
    refine (turn_out i w (by omega)).mono ?_
    rintro e w' ⟨rfl, rfl⟩
    exact ⟨rfl, Below.refl _ _⟩
theorem rturn_any (i : Int) (w : World) : Calls Try.prog 15 #[.int .i64 i] w fun e w' => e = .returned (.int .i32 (turnv i)) ∧ Below w.heap.size w w' := by
  unfold turnv
  by_cases h : 0 ≤ i ∧ i < 30
  · rw [if_pos h]
    obtain ⟨k, rfl⟩ := Int.eq_ofNat_of_zero_le h.1
    refine (rturn_in k w (by omega)).mono ?_
    rintro e w' ⟨rfl, rfl⟩
    exact ⟨rfl, (Below.refl _ _).alloc (Nat.le_refl _) _⟩
  · rw [if_neg h]
    refine (rturn_out i w (by omega)).mono ?_
    rintro e w' ⟨rfl, rfl⟩
    exact ⟨rfl, (Below.refl _ _).alloc (Nat.le_refl _) _⟩
theorem turnv_in {k : Nat} (h : k < 30) : turnv (k : Int) = T k := by
  unfold turnv
  rw [if_pos (by omega)]
  rfl
theorem turnv_out {i : Int} (h : i < 0 ∨ 30 ≤ i) : turnv i = 0 := by
  unfold turnv
  rw [if_neg (by omega)]
end Go.Proofs.Ytliebglildaneaa
