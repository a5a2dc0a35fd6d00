/-
  The contracts of the document's own Mul: by halves of 24 bits.
-/
import Derived.Test.YteohdhmimpajmaaBase
import Derived.Test.YteohdhmimpajmaaMathB
namespace Go.Proofs.Yteohdhmimpajmaa
open Go.RowKit Qm

set_option maxHeartbeats 400000 in
theorem rabs_any (a : Int) (w : World) (h1 : -70368744177664 ≤ a) (h2 : a ≤ 70368744177663) :
    Calls Try.prog 62 #[.int .i64 a] w fun e w' => e = .returned (.int .i64 (ab a)) ∧ w' = w := by
  by_cases h : a < 0
  · rw [ab_neg h]
    go_enter Try.func62, Try.ntmps62
    go_wp2
    go_ret
    exact ⟨by simp, rfl⟩
  · rw [ab_pos h]
    go_enter Try.func62, Try.ntmps62
    go_wp2
    go_ret
    exact ⟨rfl, rfl⟩

set_option maxHeartbeats 400000 in
theorem rback_near (n : Int) (s : Bool) (w : World) (h1 : 0 ≤ n) (h2 : n ≤ 4611686018427387904) :
    Calls Try.prog 63 #[.int .i64 n, .bool false, .bool s] w fun e w' => e = .returned (.tuple #[.int .i64 (cl (sg s n)), .bool (ob (sg s n))]) ∧ w' = w := by
  cases s
  · rw [sg_f]
    by_cases h : 70368744177663 < n
    · rw [cl_top h, ob_top h]
      go_enter Try.func63, Try.ntmps63
      go_wp2
      go_ret2
      exact ⟨rfl, rfl⟩
    · rw [cl_in (by omega) (by omega), ob_in (by omega) (by omega)]
      go_enter Try.func63, Try.ntmps63
      go_wp2
      go_ret2
      exact ⟨rfl, rfl⟩
  · rw [sg_t]
    by_cases h : 70368744177664 < n
    · rw [cl_low (by omega), ob_low (by omega)]
      go_enter Try.func63, Try.ntmps63
      go_wp2
      go_ret2
      exact ⟨rfl, rfl⟩
    · rw [cl_in (by omega) (by omega), ob_in (by omega) (by omega)]
      go_enter Try.func63, Try.ntmps63
      go_wp2
      go_ret2
      exact ⟨by simp, rfl⟩

set_option maxHeartbeats 400000 in
theorem rback_far (n m : Int) (s : Bool) (w : World) (hm : 70368744177664 < m) :
    Calls Try.prog 63 #[.int .i64 n, .bool true, .bool s] w fun e w' => e = .returned (.tuple #[.int .i64 (cl (sg s m)), .bool (ob (sg s m))]) ∧ w' = w := by
  cases s
  · rw [sg_f, cl_top (by omega), ob_top (by omega)]
    go_enter Try.func63, Try.ntmps63
    go_wp2
    go_ret2
    exact ⟨rfl, rfl⟩
  · rw [sg_t, cl_low (by omega), ob_low (by omega)]
    go_enter Try.func63, Try.ntmps63
    go_wp2
    go_ret2
    exact ⟨rfl, rfl⟩

theorem rmul_eqs (a b : Int) :
    (0 ≤ (ab (cl a) / 16777216) * (ab (cl b) / 16777216) ∧ (ab (cl a) / 16777216) * (ab (cl b) / 16777216) ≤ 4194304 * 4194304) ∧
    (0 ≤ (ab (cl a) / 16777216) * (ab (cl b) % 16777216) ∧ (ab (cl a) / 16777216) * (ab (cl b) % 16777216) ≤ 4194304 * 16777215) ∧
    (0 ≤ (ab (cl a) % 16777216) * (ab (cl b) / 16777216) ∧ (ab (cl a) % 16777216) * (ab (cl b) / 16777216) ≤ 16777215 * 4194304) ∧
    (0 ≤ (ab (cl a) % 16777216) * (ab (cl b) % 16777216) ∧ (ab (cl a) % 16777216) * (ab (cl b) % 16777216) ≤ 16777215 * 16777215) := by
  obtain ⟨a1, a2⟩ := ab_bd a
  obtain ⟨b1, b2⟩ := ab_bd b
  exact ⟨mul_bd (by omega) (by omega) (by omega) (by omega), mul_bd (by omega) (by omega) (by omega) (by omega), mul_bd (by omega) (by omega) (by omega) (by omega), mul_bd (by omega) (by omega) (by omega) (by omega)⟩

set_option maxHeartbeats 2000000 in
theorem rmul_near (a b : Int) (w : World) (hf : ¬ 16777216 ≤ (ab (cl a) / 16777216) * (ab (cl b) / 16777216)) :
    Calls Try.prog 31 #[.int .i64 a, .int .i64 b] w fun e w' => e = .returned (.tuple #[.int .i64 (mul a b), .bool (mulB a b)]) ∧ w' = w := by
  have hh := halves (ab (cl a)) (ab (cl b))
  obtain ⟨⟨c1, c2⟩, ⟨c3, c4⟩, ⟨c5, c6⟩, ⟨c7, c8⟩⟩ := rmul_eqs a b
  have hp : ab (cl a) * ab (cl b) = pr a b := rfl
  rw [hp] at hh
  have hn : (ab (cl a) / 16777216) * (ab (cl b) / 16777216) * 16777216 + (ab (cl a) / 16777216) * (ab (cl b) % 16777216) + (ab (cl a) % 16777216) * (ab (cl b) / 16777216) + (ab (cl a) % 16777216) * (ab (cl b) % 16777216) / 16777216 = pr a b / 16777216 := by omega
  have hr : (ab (cl a) % 16777216) * (ab (cl b) % 16777216) % 16777216 = pr a b % 16777216 := by omega
  have hl : pr a b / 16777216 ≤ 422212465065984 := by omega
  have h0 : 0 ≤ pr a b / 16777216 := by omega
  have hfd : decide (16777216 ≤ ab (cl a) / 16777216 * (ab (cl b) / 16777216)) = false := by simpa using hf
  clear hh hp
  have hs := ng_eq a b
  have h1 := cl_lo a; have h2 := cl_hi a; have h3 := cl_lo b; have h4 := cl_hi b
  obtain ⟨a1, a2⟩ := ab_bd a
  obtain ⟨b1, b2⟩ := ab_bd b
  unfold mul mulB mulv ng
  by_cases u1 : 16777216 < pr a b % 16777216 * 2
  · rw [near_up (Or.inl (by omega))]
    go_enter Try.func31, Try.ntmps31
    go_wp2_with (first | (go_at_call 61; refine (rclamp_any _ _).mono ?_; rintro e w' ⟨rfl, rfl⟩) | (go_at_call 62; refine (rabs_any _ _ (by omega) (by omega)).mono ?_; rintro e w' ⟨rfl, rfl⟩) | (go_at_call 63; refine (rback_near _ _ _ (by omega) (by omega)).mono ?_; rintro e w' ⟨rfl, rfl⟩))
    all_goals
      go_ret2
      exact ⟨by simp [ob2, *], rfl⟩
  · by_cases u2 : pr a b % 16777216 * 2 = 16777216
    · have u2' : (pr a b % 16777216 * 2 == 16777216) = true := by simp [u2]
      by_cases u3 : pr a b / 16777216 % 2 = 1
      · rw [near_up (Or.inr ⟨by omega, u3⟩)]
        have u3' : (pr a b / 16777216 % 2 == 1) = true := by simp [u3]
        clear u2 u3
        go_enter Try.func31, Try.ntmps31
        go_wp2_with (first | (go_at_call 61; refine (rclamp_any _ _).mono ?_; rintro e w' ⟨rfl, rfl⟩) | (go_at_call 62; refine (rabs_any _ _ (by omega) (by omega)).mono ?_; rintro e w' ⟨rfl, rfl⟩) | (go_at_call 63; refine (rback_near _ _ _ (by omega) (by omega)).mono ?_; rintro e w' ⟨rfl, rfl⟩))
        all_goals
          go_ret2
          exact ⟨by simp [ob2, *], rfl⟩
      · rw [near_stay (by omega)]
        have u3' : (pr a b / 16777216 % 2 == 1) = false := by simp [u3]
        clear u2 u3
        go_enter Try.func31, Try.ntmps31
        go_wp2_with (first | (go_at_call 61; refine (rclamp_any _ _).mono ?_; rintro e w' ⟨rfl, rfl⟩) | (go_at_call 62; refine (rabs_any _ _ (by omega) (by omega)).mono ?_; rintro e w' ⟨rfl, rfl⟩) | (go_at_call 63; refine (rback_near _ _ _ (by omega) (by omega)).mono ?_; rintro e w' ⟨rfl, rfl⟩))
        all_goals
          go_ret2
          exact ⟨by simp [ob2, *], rfl⟩
    · rw [near_stay (by omega)]
      have u2' : (pr a b % 16777216 * 2 == 16777216) = false := by simp [u2]
      clear u2
      go_enter Try.func31, Try.ntmps31
      go_wp2_with (first | (go_at_call 61; refine (rclamp_any _ _).mono ?_; rintro e w' ⟨rfl, rfl⟩) | (go_at_call 62; refine (rabs_any _ _ (by omega) (by omega)).mono ?_; rintro e w' ⟨rfl, rfl⟩) | (go_at_call 63; refine (rback_near _ _ _ (by omega) (by omega)).mono ?_; rintro e w' ⟨rfl, rfl⟩))
      all_goals
        go_ret2
        exact ⟨by simp [ob2, *], rfl⟩

set_option maxHeartbeats 2000000 in
theorem rmul_far (a b : Int) (w : World) (hf : 16777216 ≤ (ab (cl a) / 16777216) * (ab (cl b) / 16777216)) :
    Calls Try.prog 31 #[.int .i64 a, .int .i64 b] w fun e w' => e = .returned (.tuple #[.int .i64 (mul a b), .bool (mulB a b)]) ∧ w' = w := by
  have hh := halves (ab (cl a)) (ab (cl b))
  obtain ⟨⟨c1, c2⟩, ⟨c3, c4⟩, ⟨c5, c6⟩, ⟨c7, c8⟩⟩ := rmul_eqs a b
  have hp : ab (cl a) * ab (cl b) = pr a b := rfl
  rw [hp] at hh
  have hn := (near_bd (pr a b / 16777216) (pr a b % 16777216) 16777216).1
  have hm : 70368744177664 < near (pr a b / 16777216) (pr a b % 16777216) 16777216 := by omega
  clear hh hp hn
  have hs := ng_eq a b
  have h1 := cl_lo a; have h2 := cl_hi a; have h3 := cl_lo b; have h4 := cl_hi b
  obtain ⟨a1, a2⟩ := ab_bd a
  obtain ⟨b1, b2⟩ := ab_bd b
  unfold mul mulB mulv ng
  go_enter Try.func31, Try.ntmps31
  go_wp2_with (first | (go_at_call 61; refine (rclamp_any _ _).mono ?_; rintro e w' ⟨rfl, rfl⟩) | (go_at_call 62; refine (rabs_any _ _ (by omega) (by omega)).mono ?_; rintro e w' ⟨rfl, rfl⟩) | (go_at_call 63; refine (rback_far _ _ _ _ hm).mono ?_; rintro e w' ⟨rfl, rfl⟩))
  all_goals
    go_ret2
    exact ⟨by simp [ob2, *], rfl⟩

/-- the document's Mul -/
theorem rmul_any (a b : Int) (w : World) :
    Calls Try.prog 31 #[.int .i64 a, .int .i64 b] w fun e w' => e = .returned (.tuple #[.int .i64 (mul a b), .bool (mulB a b)]) ∧ w' = w := by
  by_cases h : 16777216 ≤ (ab (cl a) / 16777216) * (ab (cl b) / 16777216)
  · exact rmul_far a b w h
  · exact rmul_near a b w h
end Go.Proofs.Yteohdhmimpajmaa
