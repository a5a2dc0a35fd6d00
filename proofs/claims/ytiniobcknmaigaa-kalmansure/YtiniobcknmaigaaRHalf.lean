/-
  The contracts of the document's Half, Round and Of, and of qfix.Of.
-/
import Derived.Test.YtiniobcknmaigaaBase
import Derived.Test.YtiniobcknmaigaaMathD
import Derived.Test.YtiniobcknmaigaaKnuthB
namespace Go.Proofs.Ytiniobcknmaigaa
open Go.RowKit Qm

theorem floor_neg {n D : Int} (hD : 1 ≤ D) (h : n.tmod D < 0) : n.tdiv D - 1 = n / D ∧ n.tmod D + D = n % D := by
  have e := Int.tmod_add_mul_tdiv n D
  have m := Int.lt_tmod_of_pos n (show 0 < D by omega)
  have e2 : n = (n.tdiv D - 1) * D + (n.tmod D + D) := by
    rw [Int.sub_mul, Int.one_mul, Int.mul_comm (n.tdiv D) D]; omega
  obtain ⟨a, b⟩ := div_by e2 (by omega) (by omega)
  exact ⟨a.symm, b.symm⟩
theorem floor_pos {n D : Int} (hD : 1 ≤ D) (h : ¬ n.tmod D < 0) : n.tdiv D = n / D ∧ n.tmod D = n % D := by
  have e := Int.tmod_add_mul_tdiv n D
  have m := Int.tmod_lt_of_pos n (show 0 < D by omega)
  have e2 : n = n.tdiv D * D + n.tmod D := by
    rw [Int.mul_comm (n.tdiv D) D]; omega
  obtain ⟨a, b⟩ := div_by e2 (by omega) (by omega)
  exact ⟨a.symm, b.symm⟩
theorem tmod2_odd {q : Int} (h : q % 2 = 1) : q.tmod 2 ≠ 0 := by
  intro h2
  have := Int.dvd_of_tmod_eq_zero h2
  omega
theorem tmod2_even {q : Int} (h : ¬ q % 2 = 1) : q.tmod 2 = 0 := by
  have : (2 : Int) ∣ q := by omega
  exact Int.tmod_eq_zero_of_dvd this

theorem pow_even {j : Nat} (h : 1 ≤ j) : ∃ E : Int, (2 : Int) ^ j = 2 * E := by
  obtain ⟨i, rfl⟩ : ∃ i, j = i + 1 := ⟨j - 1, by omega⟩
  exact ⟨2 ^ i, by rw [Int.pow_succ, Int.mul_comm]⟩

set_option maxHeartbeats 400000 in
theorem rhalf_low (n b : Int) (w : World) (h0 : b ≤ 0) :
    Calls Try.prog 67 #[.int .i64 n, .int .i64 b] w fun e w' => e = .returned (.int .i64 (half n b)) ∧ w' = w := by
  have e : half n b = n := by
    have hz : hk b = 0 := by
      by_cases h : b < 0
      · exact hk_low h
      · rw [hk_mid (by omega) (by omega)]; omega
    unfold half
    rw [hz]
    have : near (n / 1) (n % 1) 1 = n := by rw [near_stay] <;> simp
    exact this
  rw [e]
  clear e
  go_enter Try.func67, Try.ntmps67
  go_wp2
  go_ret
  exact ⟨rfl, rfl⟩

set_option maxHeartbeats 1000000 in
theorem rhalf_mid (n b : Int) (w : World) (n0 : -9223372036854775808 ≤ n) (n1 : n ≤ 9223372036854775807) (h0 : 1 ≤ b) (h1 : b ≤ 62) :
    Calls Try.prog 67 #[.int .i64 n, .int .i64 b] w fun e w' => e = .returned (.int .i64 (half n b)) ∧ w' = w := by
  obtain ⟨k, rfl⟩ := Int.eq_ofNat_of_zero_le (show 0 ≤ b by omega)
  have hk : k ≤ 62 := by omega
  have hk1 : 1 ≤ k := by omega
  unfold half
  rw [hk_mid (by omega) h1, Int.toNat_natCast]
  obtain ⟨p1, p2⟩ := pow_bd k hk
  obtain ⟨Z, hz⟩ : ∃ Z, near (n / 2 ^ k) (n % 2 ^ k) (2 ^ k) = Z := ⟨_, rfl⟩
  rw [hz]
  have HZ : Hid (near (n / 2 ^ k) (n % 2 ^ k) (2 ^ k) = Z) := hz
  clear hz
  go_enter Try.func67, Try.ntmps67
  go_wp2
  go_loop [5, 6] (fun d i => ∃ j : Nat, j ≤ k ∧ d = .int .i64 (2 ^ j) ∧ i = .int .i64 (j : Int)) (fun _ i => (62 - intOf i).toNat)
  case atStart => exact ⟨0, by omega, rfl, rfl⟩
  case round =>
    obtain ⟨j, hj, rfl, rfl⟩ := hrel
    by_cases lt : j < k
    · obtain ⟨g1, g2⟩ := pow_bd j (by omega)
      have e2 : (2 : Int) ^ (j + 1) = 2 ^ j * 2 := Int.pow_succ 2 j
      have g3 := (pow_bd (j + 1) (by omega)).2
      rw [e2] at g3
      have H2 : Hid ((2 : Int) ^ (j + 1) = 2 ^ j * 2) := e2
      clear e2
      have lt2 : (j : Int) < (k : Int) := by omega
      go_wp2
      go_round
      case rel => exact ⟨j + 1, by omega, by rw [H2.out], by go_num⟩
      case measure => simp [intOf]; omega
    · obtain rfl : j = k := by omega
      have nlt : ¬ (j : Int) < (j : Int) := by omega
      obtain ⟨d3, d4⟩ := ediv_bd p1 n0 n1
      have m1 := Int.emod_nonneg n (show (2 : Int) ^ j ≠ 0 by omega)
      have m2 := Int.emod_lt_of_pos n (show (0 : Int) < 2 ^ j by omega)
      have d5 := half_bd j n0 n1
      obtain ⟨D, hD⟩ : ∃ D : Int, (2 : Int) ^ j = D := ⟨_, rfl⟩
      have hz := HZ.out
      clear HZ
      rw [hD] at p1 p2 d3 d4 d5 m1 m2 hz
      have d1 := p1
      obtain ⟨E, hE⟩ := pow_even (j := j) hk1
      rw [hD] at hE
      have HE : Hid (D = 2 * E) := hE
      have d6 : n / D < 4611686018427387904 := Int.ediv_lt_of_lt_mul (by omega) (by omega)
      clear hE
      by_cases s : n.tmod D < 0
      · obtain ⟨f1, f2⟩ := floor_neg d1 s
        obtain ⟨T, hT⟩ : ∃ T, n.tdiv D = T := ⟨_, rfl⟩
        obtain ⟨R, hR⟩ : ∃ R, n.tmod D = R := ⟨_, rfl⟩
        obtain ⟨q, hq⟩ : ∃ q, n / D = q := ⟨_, rfl⟩
        obtain ⟨r, hr⟩ : ∃ r, n % D = r := ⟨_, rfl⟩
        rw [hT, hq] at f1
        rw [hR, hr] at f2
        rw [hR] at s
        rw [hq] at d3 d4 d5 d6
        rw [hr] at m1 m2 d5
        rw [hq, hr] at hz
        clear hq hr
        have Q2 : Hid (q % 2 = 1 ∨ q % 2 = 0) := show q % 2 = 1 ∨ q % 2 = 0 by omega
        by_cases c1 : D / 2 < r
        · rw [near_up (Or.inl (by have := HE.out; omega))] at hz d5
          subst hz
          go_wp2
          go_ret
          exact ⟨rfl, rfl⟩
        · by_cases c2 : r = D / 2
          · have c2' : (r == D / 2) = true := by simp [c2]
            by_cases c3 : q % 2 = 1
            · rw [near_up (Or.inr ⟨by have := HE.out; omega, c3⟩)] at hz d5
              subst hz
              have c3' : (q.tmod 2 != 0) = true := by simpa using tmod2_odd c3
              clear c2 c3
              go_wp2
              go_ret
              exact ⟨rfl, rfl⟩
            · rw [near_stay (by have := HE.out; omega)] at hz d5
              subst hz
              have c3' : q.tmod 2 = 0 := tmod2_even c3
              clear c2 c3
              go_wp2
              go_ret
              exact ⟨rfl, rfl⟩
          · rw [near_stay (by have := HE.out; omega)] at hz d5
            subst hz
            have c2' : (r == D / 2) = false := by simp [c2]
            clear c2
            go_wp2
            go_ret
            exact ⟨rfl, rfl⟩
      · obtain ⟨f1, f2⟩ := floor_pos d1 s
        obtain ⟨q, hq⟩ : ∃ q, n / D = q := ⟨_, rfl⟩
        obtain ⟨r, hr⟩ : ∃ r, n % D = r := ⟨_, rfl⟩
        rw [hq] at f1
        rw [f2] at s
        rw [hr] at f2 s
        rw [hq] at d3 d4 d5 d6
        rw [hr] at m1 m2 d5
        rw [hq, hr] at hz
        clear hq hr
        have Q2 : Hid (q % 2 = 1 ∨ q % 2 = 0) := show q % 2 = 1 ∨ q % 2 = 0 by omega
        by_cases c1 : D / 2 < r
        · rw [near_up (Or.inl (by have := HE.out; omega))] at hz d5
          subst hz
          go_wp2
          go_ret
          exact ⟨rfl, rfl⟩
        · by_cases c2 : r = D / 2
          · have c2' : (r == D / 2) = true := by simp [c2]
            by_cases c3 : q % 2 = 1
            · rw [near_up (Or.inr ⟨by have := HE.out; omega, c3⟩)] at hz d5
              subst hz
              have c3' : (q.tmod 2 != 0) = true := by simpa using tmod2_odd c3
              clear c2 c3
              go_wp2
              go_ret
              exact ⟨rfl, rfl⟩
            · rw [near_stay (by have := HE.out; omega)] at hz d5
              subst hz
              have c3' : q.tmod 2 = 0 := tmod2_even c3
              clear c2 c3
              go_wp2
              go_ret
              exact ⟨rfl, rfl⟩
          · rw [near_stay (by have := HE.out; omega)] at hz d5
            subst hz
            have c2' : (r == D / 2) = false := by simp [c2]
            clear c2
            go_wp2
            go_ret
            exact ⟨rfl, rfl⟩

set_option maxHeartbeats 1000000 in
theorem rhalf_high (n b : Int) (w : World) (n0 : -9223372036854775808 ≤ n) (n1 : n ≤ 9223372036854775807) (h1 : 62 < b) :
    Calls Try.prog 67 #[.int .i64 n, .int .i64 b] w fun e w' => e = .returned (.int .i64 (half n b)) ∧ w' = w := by
  obtain ⟨k, hk0⟩ : ∃ k : Nat, k = 62 := ⟨62, rfl⟩
  have hk : k ≤ 62 := by omega
  have hk1 : 1 ≤ k := by omega
  unfold half
  rw [hk_high h1, ← hk0]
  have HK : Hid (k = 62) := hk0
  clear hk0
  obtain ⟨p1, p2⟩ := pow_bd k hk
  obtain ⟨Z, hz⟩ : ∃ Z, near (n / 2 ^ k) (n % 2 ^ k) (2 ^ k) = Z := ⟨_, rfl⟩
  rw [hz]
  have HZ : Hid (near (n / 2 ^ k) (n % 2 ^ k) (2 ^ k) = Z) := hz
  clear hz
  go_enter Try.func67, Try.ntmps67
  go_wp2
  go_loop [5, 6] (fun d i => ∃ j : Nat, j ≤ k ∧ d = .int .i64 (2 ^ j) ∧ i = .int .i64 (j : Int)) (fun _ i => (62 - intOf i).toNat)
  case atStart => exact ⟨0, by omega, rfl, rfl⟩
  case round =>
    obtain ⟨j, hj, rfl, rfl⟩ := hrel
    by_cases lt : j < k
    · obtain ⟨g1, g2⟩ := pow_bd j (by omega)
      have e2 : (2 : Int) ^ (j + 1) = 2 ^ j * 2 := Int.pow_succ 2 j
      have g3 := (pow_bd (j + 1) (by omega)).2
      rw [e2] at g3
      have H2 : Hid ((2 : Int) ^ (j + 1) = 2 ^ j * 2) := e2
      clear e2
      have lt2 : (j : Int) < 62 := by have := HK.out; omega
      go_wp2
      go_round
      case rel => exact ⟨j + 1, by omega, by rw [H2.out], by go_num⟩
      case measure => simp [intOf]; omega
    · obtain rfl : j = k := by omega
      have nlt : ¬ (j : Int) < 62 := by have := HK.out; omega
      obtain ⟨d3, d4⟩ := ediv_bd p1 n0 n1
      have m1 := Int.emod_nonneg n (show (2 : Int) ^ j ≠ 0 by omega)
      have m2 := Int.emod_lt_of_pos n (show (0 : Int) < 2 ^ j by omega)
      have d5 := half_bd j n0 n1
      obtain ⟨D, hD⟩ : ∃ D : Int, (2 : Int) ^ j = D := ⟨_, rfl⟩
      have hz := HZ.out
      clear HZ
      rw [hD] at p1 p2 d3 d4 d5 m1 m2 hz
      have d1 := p1
      obtain ⟨E, hE⟩ := pow_even (j := j) hk1
      rw [hD] at hE
      have HE : Hid (D = 2 * E) := hE
      have d6 : n / D < 4611686018427387904 := Int.ediv_lt_of_lt_mul (by omega) (by omega)
      clear hE
      by_cases s : n.tmod D < 0
      · obtain ⟨f1, f2⟩ := floor_neg d1 s
        obtain ⟨T, hT⟩ : ∃ T, n.tdiv D = T := ⟨_, rfl⟩
        obtain ⟨R, hR⟩ : ∃ R, n.tmod D = R := ⟨_, rfl⟩
        obtain ⟨q, hq⟩ : ∃ q, n / D = q := ⟨_, rfl⟩
        obtain ⟨r, hr⟩ : ∃ r, n % D = r := ⟨_, rfl⟩
        rw [hT, hq] at f1
        rw [hR, hr] at f2
        rw [hR] at s
        rw [hq] at d3 d4 d5 d6
        rw [hr] at m1 m2 d5
        rw [hq, hr] at hz
        clear hq hr
        have Q2 : Hid (q % 2 = 1 ∨ q % 2 = 0) := show q % 2 = 1 ∨ q % 2 = 0 by omega
        by_cases c1 : D / 2 < r
        · rw [near_up (Or.inl (by have := HE.out; omega))] at hz d5
          subst hz
          go_wp2
          go_ret
          exact ⟨rfl, rfl⟩
        · by_cases c2 : r = D / 2
          · have c2' : (r == D / 2) = true := by simp [c2]
            by_cases c3 : q % 2 = 1
            · rw [near_up (Or.inr ⟨by have := HE.out; omega, c3⟩)] at hz d5
              subst hz
              have c3' : (q.tmod 2 != 0) = true := by simpa using tmod2_odd c3
              clear c2 c3
              go_wp2
              go_ret
              exact ⟨rfl, rfl⟩
            · rw [near_stay (by have := HE.out; omega)] at hz d5
              subst hz
              have c3' : q.tmod 2 = 0 := tmod2_even c3
              clear c2 c3
              go_wp2
              go_ret
              exact ⟨rfl, rfl⟩
          · rw [near_stay (by have := HE.out; omega)] at hz d5
            subst hz
            have c2' : (r == D / 2) = false := by simp [c2]
            clear c2
            go_wp2
            go_ret
            exact ⟨rfl, rfl⟩
      · obtain ⟨f1, f2⟩ := floor_pos d1 s
        obtain ⟨q, hq⟩ : ∃ q, n / D = q := ⟨_, rfl⟩
        obtain ⟨r, hr⟩ : ∃ r, n % D = r := ⟨_, rfl⟩
        rw [hq] at f1
        rw [f2] at s
        rw [hr] at f2 s
        rw [hq] at d3 d4 d5 d6
        rw [hr] at m1 m2 d5
        rw [hq, hr] at hz
        clear hq hr
        have Q2 : Hid (q % 2 = 1 ∨ q % 2 = 0) := show q % 2 = 1 ∨ q % 2 = 0 by omega
        by_cases c1 : D / 2 < r
        · rw [near_up (Or.inl (by have := HE.out; omega))] at hz d5
          subst hz
          go_wp2
          go_ret
          exact ⟨rfl, rfl⟩
        · by_cases c2 : r = D / 2
          · have c2' : (r == D / 2) = true := by simp [c2]
            by_cases c3 : q % 2 = 1
            · rw [near_up (Or.inr ⟨by have := HE.out; omega, c3⟩)] at hz d5
              subst hz
              have c3' : (q.tmod 2 != 0) = true := by simpa using tmod2_odd c3
              clear c2 c3
              go_wp2
              go_ret
              exact ⟨rfl, rfl⟩
            · rw [near_stay (by have := HE.out; omega)] at hz d5
              subst hz
              have c3' : q.tmod 2 = 0 := tmod2_even c3
              clear c2 c3
              go_wp2
              go_ret
              exact ⟨rfl, rfl⟩
          · rw [near_stay (by have := HE.out; omega)] at hz d5
            subst hz
            have c2' : (r == D / 2) = false := by simp [c2]
            clear c2
            go_wp2
            go_ret
            exact ⟨rfl, rfl⟩

/-- the document's Half -/
theorem rhalf_any (n b : Int) (w : World) (n0 : -9223372036854775808 ≤ n) (n1 : n ≤ 9223372036854775807) :
    Calls Try.prog 67 #[.int .i64 n, .int .i64 b] w fun e w' => e = .returned (.int .i64 (half n b)) ∧ w' = w := by
  by_cases h : b ≤ 0
  · exact rhalf_low n b w h
  · by_cases h2 : 62 < b
    · exact rhalf_high n b w n0 n1 h2
    · exact rhalf_mid n b w n0 n1 (by omega) (by omega)

end Go.Proofs.Ytiniobcknmaigaa
