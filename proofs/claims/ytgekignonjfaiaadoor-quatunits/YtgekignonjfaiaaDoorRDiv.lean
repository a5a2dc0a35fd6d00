/-
  The contract of the document's Div: bit by bit.
-/
import Derived.Test.YtgekignonjfaiaaDoorRMul
import Derived.Test.YtgekignonjfaiaaDoorMathC
namespace Go.Proofs.YtgekignonjfaiaaDoor
open Go.RowKit Qm

set_option maxHeartbeats 1000000 in
theorem rdiv_zero (a b : Int) (w : World) (hb : cl b = 0) :
    Calls Tryd.prog 37 #[.int .i64 a, .int .i64 b] w fun e w' => e = .returned (.tuple #[.int .i64 (div a b), .bool (divB a b)]) ∧ w' = w := by
  obtain ⟨e1, e2⟩ := div_z (a := a) hb
  rw [e1, e2]
  clear e1 e2
  unfold none0
  by_cases h1 : 0 < cl a
  · rw [if_pos h1]
    go_enter Tryd.func37, Tryd.ntmps37
    go_wp2_with (first | (go_at_call 56; refine (rclamp_any _ _).mono ?_; rintro e w' ⟨rfl, rfl⟩) | (go_at_call 58; refine (rabs_any _ _ (by omega) (by omega)).mono ?_; rintro e w' ⟨rfl, rfl⟩))
    go_ret2
    exact ⟨rfl, rfl⟩
  · rw [if_neg h1]
    by_cases h2 : cl a < 0
    · rw [if_pos h2]
      go_enter Tryd.func37, Tryd.ntmps37
      go_wp2_with (first | (go_at_call 56; refine (rclamp_any _ _).mono ?_; rintro e w' ⟨rfl, rfl⟩) | (go_at_call 58; refine (rabs_any _ _ (by omega) (by omega)).mono ?_; rintro e w' ⟨rfl, rfl⟩))
      go_ret2
      exact ⟨rfl, rfl⟩
    · rw [if_neg h2]
      go_enter Tryd.func37, Tryd.ntmps37
      go_wp2_with (first | (go_at_call 56; refine (rclamp_any _ _).mono ?_; rintro e w' ⟨rfl, rfl⟩) | (go_at_call 58; refine (rabs_any _ _ (by omega) (by omega)).mono ?_; rintro e w' ⟨rfl, rfl⟩))
      go_ret2
      exact ⟨rfl, rfl⟩

set_option maxHeartbeats 2000000 in
theorem rdiv_far (a b : Int) (w : World) (hb : ¬ cl b = 0) (hf : 16777216 ≤ ab (cl a) / ab (cl b)) :
    Calls Tryd.prog 37 #[.int .i64 a, .int .i64 b] w fun e w' => e = .returned (.tuple #[.int .i64 (div a b), .bool (divB a b)]) ∧ w' = w := by
  obtain ⟨e1, e2⟩ := div_nz (a := a) hb
  rw [e1, e2]
  clear e1 e2
  have hbz : (cl b == 0) = false := by simp [hb]
  have h1 := cl_lo a; have h2 := cl_hi a; have h3 := cl_lo b; have h4 := cl_hi b
  obtain ⟨a1, a2⟩ := ab_bd a
  obtain ⟨b1, b2⟩ := ab_bd b
  have b3 := ab_nz hb
  have hm : 70368744177664 < near (dw a b) (dm a b) (ab (cl b)) := by
    have n1 := (near_bd (dw a b) (dm a b) (ab (cl b))).1
    have hx : 16777216 * ab (cl b) ≤ ab (cl a) := (Int.le_ediv_iff_mul_le (by omega)).1 hf
    have : 281474976710656 ≤ dw a b := by
      unfold dw
      exact (Int.le_ediv_iff_mul_le (by omega)).2 (by omega)
    omega
  have HM : Hid (70368744177664 < near (dw a b) (dm a b) (ab (cl b))) := hm
  have hfd : decide (16777216 ≤ ab (cl a) / ab (cl b)) = true := decide_eq_true hf
  have hs := ng_eq a b
  have q1 : ab (cl a) / ab (cl b) ≤ 70368744177664 := Int.le_trans (Int.ediv_le_self _ a1) a2
  have m1 := Int.emod_nonneg (ab (cl a)) (show ab (cl b) ≠ 0 by omega)
  have m2 := Int.emod_lt_of_pos (ab (cl a)) (show 0 < ab (cl b) by omega)
  unfold divv ng
  clear hm hf hb
  go_enter Tryd.func37, Tryd.ntmps37
  go_wp2_with (first | (go_at_call 56; refine (rclamp_any _ _).mono ?_; rintro e w' ⟨rfl, rfl⟩) | (go_at_call 58; refine (rabs_any _ _ (by omega) (by omega)).mono ?_; rintro e w' ⟨rfl, rfl⟩) | (go_at_call 59; refine (rback_far _ _ _ _ HM.out).mono ?_; rintro e w' ⟨rfl, rfl⟩))
  refine wp_loop_rounds 1 ?_
  rw [rounds_succ]
  go_wp2_with (first | (go_at_call 56; refine (rclamp_any _ _).mono ?_; rintro e w' ⟨rfl, rfl⟩) | (go_at_call 58; refine (rabs_any _ _ (by omega) (by omega)).mono ?_; rintro e w' ⟨rfl, rfl⟩) | (go_at_call 59; refine (rback_far _ _ _ _ HM.out).mono ?_; rintro e w' ⟨rfl, rfl⟩))
  all_goals
    go_ret2
    exact ⟨by simp [ob2, *], rfl⟩

/-- what stands at the head of each bit -/
structure Bits (x y n r : Int) (j : Nat) : Prop where
  sum : n * y + r = x * 2 ^ j
  r0 : 0 ≤ r
  r1 : r < y
  n0 : 0 ≤ n
  n1 : n < 16777216 * 2 ^ j

theorem Bits.yes {x y n r : Int} {j : Nat} (h : Bits x y n r j) (c : y ≤ r * 2) : Bits x y (n * 2 + 1) (r * 2 - y) (j + 1) := by
  obtain ⟨s, r0, r1, n0, n1⟩ := h
  have e : (n * 2 + 1) * y = n * y * 2 + y := by rw [Int.add_mul, Int.one_mul, Int.mul_right_comm]
  have e2 : x * 2 ^ (j + 1) = x * 2 ^ j * 2 := by rw [Int.pow_succ, Int.mul_assoc]
  have e3 : (2 : Int) ^ (j + 1) = 2 ^ j * 2 := Int.pow_succ 2 j
  exact ⟨by omega, by omega, by omega, by omega, by omega⟩
theorem Bits.no {x y n r : Int} {j : Nat} (h : Bits x y n r j) (c : ¬ y ≤ r * 2) : Bits x y (n * 2) (r * 2) (j + 1) := by
  obtain ⟨s, r0, r1, n0, n1⟩ := h
  have e : n * 2 * y = n * y * 2 := by rw [Int.mul_right_comm]
  have e2 : x * 2 ^ (j + 1) = x * 2 ^ j * 2 := by rw [Int.pow_succ, Int.mul_assoc]
  have e3 : (2 : Int) ^ (j + 1) = 2 ^ j * 2 := Int.pow_succ 2 j
  exact ⟨by omega, by omega, by omega, by omega, by omega⟩
theorem pow24 (j : Nat) (h : j ≤ 24) : (2 : Int) ^ j ≤ 16777216 := by
  have h1 := Nat.pow_le_pow_right (n := 2) (by decide) h
  have h3 : ((2 ^ j : Nat) : Int) ≤ ((2 ^ 24 : Nat) : Int) := by omega
  simpa using h3

set_option maxHeartbeats 2000000 in
theorem rdiv_near (a b : Int) (w : World) (hb : ¬ cl b = 0) (hf : ¬ 16777216 ≤ ab (cl a) / ab (cl b)) :
    Calls Tryd.prog 37 #[.int .i64 a, .int .i64 b] w fun e w' => e = .returned (.tuple #[.int .i64 (div a b), .bool (divB a b)]) ∧ w' = w := by
  obtain ⟨e1, e2⟩ := div_nz (a := a) hb
  rw [e1, e2]
  clear e1 e2
  have hbz : (cl b == 0) = false := by simp [hb]
  have h1 := cl_lo a; have h2 := cl_hi a; have h3 := cl_lo b; have h4 := cl_hi b
  obtain ⟨a1, a2⟩ := ab_bd a
  obtain ⟨b1, b2⟩ := ab_bd b
  have b3 := ab_nz hb
  have hfd : decide (16777216 ≤ ab (cl a) / ab (cl b)) = false := decide_eq_false hf
  have hs := ng_eq a b
  have q0 : 0 ≤ ab (cl a) / ab (cl b) := Int.ediv_nonneg a1 b1
  have m1 := Int.emod_nonneg (ab (cl a)) (show ab (cl b) ≠ 0 by omega)
  have m2 := Int.emod_lt_of_pos (ab (cl a)) (show 0 < ab (cl b) by omega)
  have e := Int.emod_add_mul_ediv (ab (cl a)) (ab (cl b))
  have st : Bits (ab (cl a)) (ab (cl b)) (ab (cl a) / ab (cl b)) (ab (cl a) % ab (cl b)) 0 := by
    rw [Int.mul_comm] at e
    exact ⟨by rw [Int.pow_zero]; omega, m1, m2, q0, by rw [Int.pow_zero]; omega⟩
  have ST : Hid (Bits (ab (cl a)) (ab (cl b)) (ab (cl a) / ab (cl b)) (ab (cl a) % ab (cl b)) 0) := st
  clear e st m1 m2 q0 hf hb
  unfold divv ng
  obtain ⟨M, hM⟩ : ∃ M, near (dw a b) (dm a b) (ab (cl b)) = M := ⟨_, rfl⟩
  rw [hM]
  have HM : Hid (near (ab (cl a) * 16777216 / ab (cl b)) (ab (cl a) * 16777216 % ab (cl b)) (ab (cl b)) = M) := hM
  clear hM
  go_enter Tryd.func37, Tryd.ntmps37
  go_wp2_with (first | (go_at_call 56; refine (rclamp_any _ _).mono ?_; rintro e w' ⟨rfl, rfl⟩) | (go_at_call 58; refine (rabs_any _ _ (by omega) (by omega)).mono ?_; rintro e w' ⟨rfl, rfl⟩))
  go_loop [12, 13, 15] (fun u v i => ∃ (j : Nat) (n r : Int), j ≤ 24 ∧ Hid (Bits (ab (cl a)) (ab (cl b)) n r j) ∧ u = .int .i64 n ∧ v = .int .i64 r ∧ i = .int .i64 (j : Int)) (fun _ _ i => (24 - intOf i).toNat)
  case atStart => exact ⟨0, _, _, by omega, ST, rfl, rfl, rfl⟩
  case round =>
    obtain ⟨j, n, r, hj, hbt, rfl, rfl, rfl⟩ := hrel
    obtain ⟨-, r0, r1, n0, n1⟩ := hbt.out
    have p24 := pow24 j hj
    have n2 : n < 281474976710656 := by omega
    clear n1 p24
    by_cases lt : j < 24
    · have lt' : (j : Int) < 24 := by omega
      by_cases c : ab (cl b) ≤ r * 2
      · have HN : Hid (Bits (ab (cl a)) (ab (cl b)) (n * 2 + 1) (r * 2 - ab (cl b)) (j + 1)) := hbt.out.yes c
        go_wp2
        go_round
        case rel => exact ⟨j + 1, _, _, by omega, HN, rfl, rfl, by go_num⟩
        case measure => simp [intOf]; omega
      · have HN : Hid (Bits (ab (cl a)) (ab (cl b)) (n * 2) (r * 2) (j + 1)) := hbt.out.no c
        go_wp2
        go_round
        case rel => exact ⟨j + 1, _, _, by omega, HN, rfl, rfl, by go_num⟩
        case measure => simp [intOf]; omega
    · obtain rfl : j = 24 := by omega
      have hq := hbt.out.sum
      obtain ⟨g1, g2⟩ := div_by hq.symm r0 r1
      have hz := HM.out
      have e24 : ab (cl a) * 2 ^ 24 = ab (cl a) * 16777216 := rfl
      rw [e24] at g1 g2
      rw [g1, g2] at hz
      clear hq g1 g2 e24 HM ST
      by_cases c1 : ab (cl b) < r * 2
      · rw [near_up (Or.inl (by omega))] at hz
        subst hz
        go_wp2_with (go_at_call 59; refine (rback_near _ _ _ (by omega) (by omega)).mono ?_; rintro e w' ⟨rfl, rfl⟩)
        all_goals
          go_ret2
          exact ⟨by simp [ob2, *], rfl⟩
      · by_cases c2 : r * 2 = ab (cl b)
        · have c2' : (r * 2 == ab (cl b)) = true := by simp [c2]
          by_cases c3 : n % 2 = 1
          · rw [near_up (Or.inr ⟨by omega, c3⟩)] at hz
            have c3' : (n % 2 == 1) = true := by simp [c3]
            clear c2 c3
            subst hz
            go_wp2_with (go_at_call 59; refine (rback_near _ _ _ (by omega) (by omega)).mono ?_; rintro e w' ⟨rfl, rfl⟩)
            all_goals
              go_ret2
              exact ⟨by simp [ob2, *], rfl⟩
          · rw [near_stay (by omega)] at hz
            have c3' : (n % 2 == 1) = false := by simp [c3]
            clear c2 c3
            subst hz
            go_wp2_with (go_at_call 59; refine (rback_near _ _ _ (by omega) (by omega)).mono ?_; rintro e w' ⟨rfl, rfl⟩)
            all_goals
              go_ret2
              exact ⟨by simp [ob2, *], rfl⟩
        · rw [near_stay (by omega)] at hz
          have c2' : (r * 2 == ab (cl b)) = false := by simp [c2]
          clear c2
          subst hz
          go_wp2_with (go_at_call 59; refine (rback_near _ _ _ (by omega) (by omega)).mono ?_; rintro e w' ⟨rfl, rfl⟩)
          all_goals
            go_ret2
            exact ⟨by simp [ob2, *], rfl⟩

/-- the document's Div -/
theorem rdiv_any (a b : Int) (w : World) :
    Calls Tryd.prog 37 #[.int .i64 a, .int .i64 b] w fun e w' => e = .returned (.tuple #[.int .i64 (div a b), .bool (divB a b)]) ∧ w' = w := by
  by_cases hb : cl b = 0
  · exact rdiv_zero a b w hb
  · by_cases hf : 16777216 ≤ ab (cl a) / ab (cl b)
    · exact rdiv_far a b w hb hf
    · exact rdiv_near a b w hb hf
end Go.Proofs.YtgekignonjfaiaaDoor
