/-
  Texts joined, in the order in which they stand on one another: KnuthB RHalf REven.
-/
import Derived.Test.YtiniobcknmaigaaGreatG01
import Derived.Test.YtiniobcknmaigaaGreatG06
import Derived.Test.YtiniobcknmaigaaGreatG11
import Derived.Test.YtiniobcknmaigaaGreatG12
/-
  Plain arithmetic: what a long division in halves comes to.
-/
namespace Go.Proofs.YtiniobcknmaigaaGreat.Qm

/-- two words by one -/
def dq (hi lo y : Int) : Int := (hi * 18446744073709551616 + lo) / y
def dr (hi lo y : Int) : Int := (hi * 18446744073709551616 + lo) % y

theorem div_by {n V q r : Int} (h : n = q * V + r) (h0 : 0 ≤ r) (h1 : r < V) : n / V = q ∧ n % V = r := by
  subst h
  have hV : 0 < V := by omega
  rw [Int.add_comm, Int.add_mul_ediv_right _ _ (by omega), Int.add_mul_emod_self_right, Int.ediv_eq_zero_of_lt h0 h1, Int.emod_eq_of_lt h0 h1]
  omega

/-- the two steps together -/
theorem two_steps {hi lo y T V U c1 c0 v1 v0 q q0 R1 : Int} (hT : 0 < T) (hV : y * T = V) (hVs : V = v1 * 4294967296 + v0)
    (hX : (hi * 18446744073709551616 + lo) * T = (U * 4294967296 + c1) * 4294967296 + c0)
    (f : Fit U v1 v0 c1) (h : Hit U v1 v0 c1 q) (hR : R1 = (U * 4294967296 + c1) % (v1 * 4294967296 + v0)) (f2 : Fit R1 v1 v0 c0) (h2 : Hit R1 v1 v0 c0 q0) :
    q * 4294967296 + q0 = dq hi lo y ∧ ((R1 * 4294967296 + c0) % (v1 * 4294967296 + v0)) / T = dr hi lo y := by
  obtain ⟨_, _, e1, _, _⟩ := h.bounds f
  obtain ⟨_, _, e2, m0, m1⟩ := h2.bounds f2
  rw [← hVs] at *
  rw [← hR] at e1
  generalize hR2 : (R1 * 4294967296 + c0) % V = R2 at *
  have hq : (hi * 18446744073709551616 + lo) * T = (q * 4294967296 + q0) * V + R2 := by
    have e3 : (q * 4294967296 + q0) * V = q * V * 4294967296 + q0 * V := by rw [Int.add_mul, Int.mul_right_comm]
    omega
  obtain ⟨d1, d2⟩ := div_by hq m0 m1
  rw [← hV, Int.mul_ediv_mul_of_pos_left _ _ hT] at d1
  rw [← hV, Int.mul_comm _ T, Int.mul_comm y T, Int.mul_emod_mul_of_pos _ _ hT] at d2
  refine ⟨d1.symm, ?_⟩
  rw [← d2, Int.mul_comm, Int.mul_ediv_cancel _ (by omega)]
  rfl

theorem dr_bd {hi lo y : Int} (hy : 0 < y) : 0 ≤ dr hi lo y ∧ dr hi lo y < y := ⟨Int.emod_nonneg _ (by omega), Int.emod_lt_of_pos _ hy⟩

end Go.Proofs.YtiniobcknmaigaaGreat.Qm

/-
  The contracts of the document's Half, Round and Of, and of qfix.Of.
-/
namespace Go.Proofs.YtiniobcknmaigaaGreat
open Go.RowKit Qm

theorem floor_neg {n D : Int} (hD : 1 ≤ D) (h : n.tmod D < 0) : n.tdiv D - 1 = n / D ∧ n.tmod D + D = n % D := by
  have e := Int.tmod_add_mul_tdiv n D
  have m := Int.lt_tmod_of_pos n (show 0 < D by omega)
  have e2 : n = (n.tdiv D - 1) * D + (n.tmod D + D) := by
    rw [Int.sub_mul, Int.one_mul, Int.mul_comm (n.tdiv D) D]; omega
  obtain ⟨a, b⟩ := div_by e2 (by omega) (by omega)
  exact ⟨a.symm, b.symm⟩
theorem floor_pos {n D : Int} (hD : 1 ≤ D) (h : ¬ n.tmod D < 0) : n.tdiv D = n / D ∧ n.tmod D = n % D := by
  have e := Int.tmod_add_mul_tdiv n D
  have m := Int.tmod_lt_of_pos n (show 0 < D by omega)
  have e2 : n = n.tdiv D * D + n.tmod D := by
    rw [Int.mul_comm (n.tdiv D) D]; omega
  obtain ⟨a, b⟩ := div_by e2 (by omega) (by omega)
  exact ⟨a.symm, b.symm⟩
theorem tmod2_odd {q : Int} (h : q % 2 = 1) : q.tmod 2 ≠ 0 := by
  intro h2
  have := Int.dvd_of_tmod_eq_zero h2
  omega
theorem tmod2_even {q : Int} (h : ¬ q % 2 = 1) : q.tmod 2 = 0 := by
  have : (2 : Int) ∣ q := by omega
  exact Int.tmod_eq_zero_of_dvd this

theorem pow_even {j : Nat} (h : 1 ≤ j) : ∃ E : Int, (2 : Int) ^ j = 2 * E := by
  obtain ⟨i, rfl⟩ : ∃ i, j = i + 1 := ⟨j - 1, by omega⟩
  exact ⟨2 ^ i, by rw [Int.pow_succ, Int.mul_comm]⟩

set_option maxHeartbeats 400000 in
theorem rhalf_low (n b : Int) (w : World) (h0 : b ≤ 0) :
    Calls Tryz.prog 93 #[.int .i64 n, .int .i64 b] w fun e w' => e = .returned (.int .i64 (half n b)) ∧ w' = w := by
  have e : half n b = n := by
    have hz : hk b = 0 := by
      by_cases h : b < 0
      · exact hk_low h
      · rw [hk_mid (by omega) (by omega)]; omega
    unfold half
    rw [hz]
    have : near (n / 1) (n % 1) 1 = n := by rw [near_stay] <;> simp
    exact this
  rw [e]
  clear e
  go_enter Tryz.func93, Tryz.ntmps93
  go_wp2
  go_ret
  exact ⟨rfl, rfl⟩

set_option maxHeartbeats 1000000 in
theorem rhalf_mid (n b : Int) (w : World) (n0 : -9223372036854775808 ≤ n) (n1 : n ≤ 9223372036854775807) (h0 : 1 ≤ b) (h1 : b ≤ 62) :
    Calls Tryz.prog 93 #[.int .i64 n, .int .i64 b] w fun e w' => e = .returned (.int .i64 (half n b)) ∧ w' = w := by
  obtain ⟨k, rfl⟩ := Int.eq_ofNat_of_zero_le (show 0 ≤ b by omega)
  have hk : k ≤ 62 := by omega
  have hk1 : 1 ≤ k := by omega
  unfold half
  rw [hk_mid (by omega) h1, Int.toNat_natCast]
  obtain ⟨p1, p2⟩ := pow_bd k hk
  obtain ⟨Z, hz⟩ : ∃ Z, near (n / 2 ^ k) (n % 2 ^ k) (2 ^ k) = Z := ⟨_, rfl⟩
  rw [hz]
  have HZ : Hid (near (n / 2 ^ k) (n % 2 ^ k) (2 ^ k) = Z) := hz
  clear hz
  go_enter Tryz.func93, Tryz.ntmps93
  go_wp2
  go_loop [5, 6] (fun d i => ∃ j : Nat, j ≤ k ∧ d = .int .i64 (2 ^ j) ∧ i = .int .i64 (j : Int)) (fun _ i => (62 - intOf i).toNat)
  case atStart => exact ⟨0, by omega, rfl, rfl⟩
  case round =>
    obtain ⟨j, hj, rfl, rfl⟩ := hrel
    by_cases lt : j < k
    · obtain ⟨g1, g2⟩ := pow_bd j (by omega)
      have e2 : (2 : Int) ^ (j + 1) = 2 ^ j * 2 := Int.pow_succ 2 j
      have g3 := (pow_bd (j + 1) (by omega)).2
      rw [e2] at g3
      have H2 : Hid ((2 : Int) ^ (j + 1) = 2 ^ j * 2) := e2
      clear e2
      have lt2 : (j : Int) < (k : Int) := by omega
      go_wp2
      go_round
      case rel => exact ⟨j + 1, by omega, by rw [H2.out], by go_num⟩
      case measure => simp [intOf]; omega
    · obtain rfl : j = k := by omega
      have nlt : ¬ (j : Int) < (j : Int) := by omega
      obtain ⟨d3, d4⟩ := ediv_bd p1 n0 n1
      have m1 := Int.emod_nonneg n (show (2 : Int) ^ j ≠ 0 by omega)
      have m2 := Int.emod_lt_of_pos n (show (0 : Int) < 2 ^ j by omega)
      have d5 := half_bd j n0 n1
      obtain ⟨D, hD⟩ : ∃ D : Int, (2 : Int) ^ j = D := ⟨_, rfl⟩
      have hz := HZ.out
      clear HZ
      rw [hD] at p1 p2 d3 d4 d5 m1 m2 hz
      have d1 := p1
      obtain ⟨E, hE⟩ := pow_even (j := j) hk1
      rw [hD] at hE
      have HE : Hid (D = 2 * E) := hE
      have d6 : n / D < 4611686018427387904 := Int.ediv_lt_of_lt_mul (by omega) (by omega)
      clear hE
      by_cases s : n.tmod D < 0
      · obtain ⟨f1, f2⟩ := floor_neg d1 s
        obtain ⟨T, hT⟩ : ∃ T, n.tdiv D = T := ⟨_, rfl⟩
        obtain ⟨R, hR⟩ : ∃ R, n.tmod D = R := ⟨_, rfl⟩
        obtain ⟨q, hq⟩ : ∃ q, n / D = q := ⟨_, rfl⟩
        obtain ⟨r, hr⟩ : ∃ r, n % D = r := ⟨_, rfl⟩
        rw [hT, hq] at f1
        rw [hR, hr] at f2
        rw [hR] at s
        rw [hq] at d3 d4 d5 d6
        rw [hr] at m1 m2 d5
        rw [hq, hr] at hz
        clear hq hr
        have Q2 : Hid (q % 2 = 1 ∨ q % 2 = 0) := show q % 2 = 1 ∨ q % 2 = 0 by omega
        by_cases c1 : D / 2 < r
        · rw [near_up (Or.inl (by have := HE.out; omega))] at hz d5
          subst hz
          go_wp2
          go_ret
          exact ⟨rfl, rfl⟩
        · by_cases c2 : r = D / 2
          · have c2' : (r == D / 2) = true := by simp [c2]
            by_cases c3 : q % 2 = 1
            · rw [near_up (Or.inr ⟨by have := HE.out; omega, c3⟩)] at hz d5
              subst hz
              have c3' : (q.tmod 2 != 0) = true := by simpa using tmod2_odd c3
              clear c2 c3
              go_wp2
              go_ret
              exact ⟨rfl, rfl⟩
            · rw [near_stay (by have := HE.out; omega)] at hz d5
              subst hz
              have c3' : q.tmod 2 = 0 := tmod2_even c3
              clear c2 c3
              go_wp2
              go_ret
              exact ⟨rfl, rfl⟩
          · rw [near_stay (by have := HE.out; omega)] at hz d5
            subst hz
            have c2' : (r == D / 2) = false := by simp [c2]
            clear c2
            go_wp2
            go_ret
            exact ⟨rfl, rfl⟩
      · obtain ⟨f1, f2⟩ := floor_pos d1 s
        obtain ⟨q, hq⟩ : ∃ q, n / D = q := ⟨_, rfl⟩
        obtain ⟨r, hr⟩ : ∃ r, n % D = r := ⟨_, rfl⟩
        rw [hq] at f1
        rw [f2] at s
        rw [hr] at f2 s
        rw [hq] at d3 d4 d5 d6
        rw [hr] at m1 m2 d5
        rw [hq, hr] at hz
        clear hq hr
        have Q2 : Hid (q % 2 = 1 ∨ q % 2 = 0) := show q % 2 = 1 ∨ q % 2 = 0 by omega
        by_cases c1 : D / 2 < r
        · rw [near_up (Or.inl (by have := HE.out; omega))] at hz d5
          subst hz
          go_wp2
          go_ret
          exact ⟨rfl, rfl⟩
        · by_cases c2 : r = D / 2
          · have c2' : (r == D / 2) = true := by simp [c2]
            by_cases c3 : q % 2 = 1
            · rw [near_up (Or.inr ⟨by have := HE.out; omega, c3⟩)] at hz d5
              subst hz
              have c3' : (q.tmod 2 != 0) = true := by simpa using tmod2_odd c3
              clear c2 c3
              go_wp2
              go_ret
              exact ⟨rfl, rfl⟩
            · rw [near_stay (by have := HE.out; omega)] at hz d5
              subst hz
              have c3' : q.tmod 2 = 0 := tmod2_even c3
              clear c2 c3
              go_wp2
              go_ret
              exact ⟨rfl, rfl⟩
          · rw [near_stay (by have := HE.out; omega)] at hz d5
            subst hz
            have c2' : (r == D / 2) = false := by simp [c2]
            clear c2
            go_wp2
            go_ret
            exact ⟨rfl, rfl⟩

set_option maxHeartbeats 1000000 in
theorem rhalf_high (n b : Int) (w : World) (n0 : -9223372036854775808 ≤ n) (n1 : n ≤ 9223372036854775807) (h1 : 62 < b) :
    Calls Tryz.prog 93 #[.int .i64 n, .int .i64 b] w fun e w' => e = .returned (.int .i64 (half n b)) ∧ w' = w := by
  obtain ⟨k, hk0⟩ : ∃ k : Nat, k = 62 := ⟨62, rfl⟩
  have hk : k ≤ 62 := by omega
  have hk1 : 1 ≤ k := by omega
  unfold half
  rw [hk_high h1, ← hk0]
  have HK : Hid (k = 62) := hk0
  clear hk0
  obtain ⟨p1, p2⟩ := pow_bd k hk
  obtain ⟨Z, hz⟩ : ∃ Z, near (n / 2 ^ k) (n % 2 ^ k) (2 ^ k) = Z := ⟨_, rfl⟩
  rw [hz]
  have HZ : Hid (near (n / 2 ^ k) (n % 2 ^ k) (2 ^ k) = Z) := hz
  clear hz
  go_enter Tryz.func93, Tryz.ntmps93
  go_wp2
  go_loop [5, 6] (fun d i => ∃ j : Nat, j ≤ k ∧ d = .int .i64 (2 ^ j) ∧ i = .int .i64 (j : Int)) (fun _ i => (62 - intOf i).toNat)
  case atStart => exact ⟨0, by omega, rfl, rfl⟩
  case round =>
    obtain ⟨j, hj, rfl, rfl⟩ := hrel
    by_cases lt : j < k
    · obtain ⟨g1, g2⟩ := pow_bd j (by omega)
      have e2 : (2 : Int) ^ (j + 1) = 2 ^ j * 2 := Int.pow_succ 2 j
      have g3 := (pow_bd (j + 1) (by omega)).2
      rw [e2] at g3
      have H2 : Hid ((2 : Int) ^ (j + 1) = 2 ^ j * 2) := e2
      clear e2
      have lt2 : (j : Int) < 62 := by have := HK.out; omega
      go_wp2
      go_round
      case rel => exact ⟨j + 1, by omega, by rw [H2.out], by go_num⟩
      case measure => simp [intOf]; omega
    · obtain rfl : j = k := by omega
      have nlt : ¬ (j : Int) < 62 := by have := HK.out; omega
      obtain ⟨d3, d4⟩ := ediv_bd p1 n0 n1
      have m1 := Int.emod_nonneg n (show (2 : Int) ^ j ≠ 0 by omega)
      have m2 := Int.emod_lt_of_pos n (show (0 : Int) < 2 ^ j by omega)
      have d5 := half_bd j n0 n1
      obtain ⟨D, hD⟩ : ∃ D : Int, (2 : Int) ^ j = D := ⟨_, rfl⟩
      have hz := HZ.out
      clear HZ
      rw [hD] at p1 p2 d3 d4 d5 m1 m2 hz
      have d1 := p1
      obtain ⟨E, hE⟩ := pow_even (j := j) hk1
      rw [hD] at hE
      have HE : Hid (D = 2 * E) := hE
      have d6 : n / D < 4611686018427387904 := Int.ediv_lt_of_lt_mul (by omega) (by omega)
      clear hE
      by_cases s : n.tmod D < 0
      · obtain ⟨f1, f2⟩ := floor_neg d1 s
        obtain ⟨T, hT⟩ : ∃ T, n.tdiv D = T := ⟨_, rfl⟩
        obtain ⟨R, hR⟩ : ∃ R, n.tmod D = R := ⟨_, rfl⟩
        obtain ⟨q, hq⟩ : ∃ q, n / D = q := ⟨_, rfl⟩
        obtain ⟨r, hr⟩ : ∃ r, n % D = r := ⟨_, rfl⟩
        rw [hT, hq] at f1
        rw [hR, hr] at f2
        rw [hR] at s
        rw [hq] at d3 d4 d5 d6
        rw [hr] at m1 m2 d5
        rw [hq, hr] at hz
        clear hq hr
        have Q2 : Hid (q % 2 = 1 ∨ q % 2 = 0) := show q % 2 = 1 ∨ q % 2 = 0 by omega
        by_cases c1 : D / 2 < r
        · rw [near_up (Or.inl (by have := HE.out; omega))] at hz d5
          subst hz
          go_wp2
          go_ret
          exact ⟨rfl, rfl⟩
        · by_cases c2 : r = D / 2
          · have c2' : (r == D / 2) = true := by simp [c2]
            by_cases c3 : q % 2 = 1
            · rw [near_up (Or.inr ⟨by have := HE.out; omega, c3⟩)] at hz d5
              subst hz
              have c3' : (q.tmod 2 != 0) = true := by simpa using tmod2_odd c3
              clear c2 c3
              go_wp2
              go_ret
              exact ⟨rfl, rfl⟩
            · rw [near_stay (by have := HE.out; omega)] at hz d5
              subst hz
              have c3' : q.tmod 2 = 0 := tmod2_even c3
              clear c2 c3
              go_wp2
              go_ret
              exact ⟨rfl, rfl⟩
          · rw [near_stay (by have := HE.out; omega)] at hz d5
            subst hz
            have c2' : (r == D / 2) = false := by simp [c2]
            clear c2
            go_wp2
            go_ret
            exact ⟨rfl, rfl⟩
      · obtain ⟨f1, f2⟩ := floor_pos d1 s
        obtain ⟨q, hq⟩ : ∃ q, n / D = q := ⟨_, rfl⟩
        obtain ⟨r, hr⟩ : ∃ r, n % D = r := ⟨_, rfl⟩
        rw [hq] at f1
        rw [f2] at s
        rw [hr] at f2 s
        rw [hq] at d3 d4 d5 d6
        rw [hr] at m1 m2 d5
        rw [hq, hr] at hz
        clear hq hr
        have Q2 : Hid (q % 2 = 1 ∨ q % 2 = 0) := show q % 2 = 1 ∨ q % 2 = 0 by omega
        by_cases c1 : D / 2 < r
        · rw [near_up (Or.inl (by have := HE.out; omega))] at hz d5
          subst hz
          go_wp2
          go_ret
          exact ⟨rfl, rfl⟩
        · by_cases c2 : r = D / 2
          · have c2' : (r == D / 2) = true := by simp [c2]
            by_cases c3 : q % 2 = 1
            · rw [near_up (Or.inr ⟨by have := HE.out; omega, c3⟩)] at hz d5
              subst hz
              have c3' : (q.tmod 2 != 0) = true := by simpa using tmod2_odd c3
              clear c2 c3
              go_wp2
              go_ret
              exact ⟨rfl, rfl⟩
            · rw [near_stay (by have := HE.out; omega)] at hz d5
              subst hz
              have c3' : q.tmod 2 = 0 := tmod2_even c3
              clear c2 c3
              go_wp2
              go_ret
              exact ⟨rfl, rfl⟩
          · rw [near_stay (by have := HE.out; omega)] at hz d5
            subst hz
            have c2' : (r == D / 2) = false := by simp [c2]
            clear c2
            go_wp2
            go_ret
            exact ⟨rfl, rfl⟩

/-- the document's Half -/
theorem rhalf_any (n b : Int) (w : World) (n0 : -9223372036854775808 ≤ n) (n1 : n ≤ 9223372036854775807) :
    Calls Tryz.prog 93 #[.int .i64 n, .int .i64 b] w fun e w' => e = .returned (.int .i64 (half n b)) ∧ w' = w := by
  by_cases h : b ≤ 0
  · exact rhalf_low n b w h
  · by_cases h2 : 62 < b
    · exact rhalf_high n b w n0 n1 h2
    · exact rhalf_mid n b w n0 n1 (by omega) (by omega)

end Go.Proofs.YtiniobcknmaigaaGreat

/-
  The contract of the document's Even.
-/
namespace Go.Proofs.YtiniobcknmaigaaGreat
open Go.RowKit Go.Sort Qm

namespace Qm
def evt (c : Nat) (xs : List Int) : Nat → Int := fun p => half (ge xs p + ge xs ((p % c) * c + p / c)) 1
theorem evt_at {c i k : Nat} (xs : List Int) (hk : k < c) : evt c xs (i * c + k) = half (ge xs (i * c + k) + ge xs (k * c + i)) 1 := by unfold evt; rw [mod_of hk, div_of hk]
end Qm

set_option maxRecDepth 20000 in
set_option maxHeartbeats 1600000 in
theorem reven_own (C : Nat) (h2 : 1 ≤ C) (hC : C ≤ 8) (v : Value) (xs : List Int) (hn : xs.length = C * C) (hal : AllIn xs) (w : World) (hs : Sees w v xs) :
    Calls Tryz.prog 62 #[.agg #[.int .i64 C, .int .i64 C, v]] w fun e b =>
      ∃ v, e = .returned (.tuple #[.agg #[.int .i64 C, .int .i64 C, v], .bool false, .int .i64 0]) ∧ b.ownsRow w.heap.size 27 1 v (C * C) ((evn C xs).map (Value.int .i64)) ∧ Below w.heap.size w b := by
  have h64 : C * C ≤ 64 := mul_le_64 hC hC
  have hno := fun w => none_any C C hC hC h2 h2 w
  obtain ⟨n, hn'⟩ : ∃ n, xs.length = n := ⟨_, rfl⟩
  have hq : C * C = n := by omega
  have HQ : Hid (C * C = n) := hq
  rw [hq] at hno
  rw [hq] at h64
  obtain ⟨ao, cap, rfl, ha⟩ := hs
  rw [hn'] at ha ⊢
  have hs : Sees w (.slice ao n cap) xs := ⟨ao, cap, by rw [hn'], by rw [hn']; exact ha⟩
  have hxl : n ≤ xs.length := by omega
  have HT : Hid (tab (upto (evt C xs) n) n = evn C xs) := by show _ = _; unfold evn; rw [hq]; exact upto_all _ _
  clear hn hn' hq ha
  obtain ⟨W, hW⟩ : ∃ W, (w.alloc (.cells #[.int .i64 C, .int .i64 C, .slice ao n cap] 24)).alloc (.cells #[.int .i64 0, .int .i64 0, .slice none 0 0] 24) = W := ⟨_, rfl⟩
  obtain ⟨x1, x2⟩ := allocs2 w (.cells #[.int .i64 C, .int .i64 C, .slice ao n cap] 24) (.cells #[.int .i64 0, .int .i64 0, .slice none 0 0] 24)
  have bq := ball2 w (.cells #[.int .i64 C, .int .i64 C, .slice ao n cap] 24) (.cells #[.int .i64 0, .int .i64 0, .slice none 0 0] 24)
  rw [hW] at x1 x2 bq
  obtain ⟨u0, u1, u2, _⟩ := mat_cells x1
  go_enter Tryz.func62, Tryz.ntmps62
  go_wp2_with (go_at_call 61; refine (hno _).mono ?_; rintro e w1 ⟨g, gc, rfl, hown, b1⟩)
  clear u0 u1 u2
  have hgW := (hown.lt g rfl).1
  have hDg : w.heap.size + 1 < g := Nat.lt_of_lt_of_le (lt_of_block x2) hgW
  have y1 := heap_old (keep b1 x1) (.cells #[.int .i64 C, .int .i64 C, .slice (some ⟨g, 0, none⟩) n gc] 24)
  have y2 := heap_old (keep b1 x2) (.cells #[.int .i64 C, .int .i64 C, .slice (some ⟨g, 0, none⟩) n gc] 24)
  have y3 := heap_new w1 (.cells #[.int .i64 C, .int .i64 C, .slice (some ⟨g, 0, none⟩) n gc] 24)
  have bw := (bt (bt bq b1) (box_below w1 (.cells #[.int .i64 C, .int .i64 C, .slice (some ⟨g, 0, none⟩) n gc] 24)))
  have F0 : Fills (w1.alloc (.cells #[.int .i64 C, .int .i64 C, .slice (some ⟨g, 0, none⟩) n gc] 24)) g gc n (fun _ => 0) (w1.alloc (.cells #[.int .i64 C, .int .i64 C, .slice (some ⟨g, 0, none⟩) n gc] 24)) := Fills.start (hown.alloc _)
  have hgw : w.heap.size ≤ g := Nat.le_trans bq.size hgW
  obtain ⟨V, hV⟩ : ∃ V, w1.alloc (.cells #[.int .i64 C, .int .i64 C, .slice (some ⟨g, 0, none⟩) n gc] 24) = V := ⟨_, rfl⟩
  rw [hV] at y1 y2 y3 bw F0 ⊢
  have gx1 := F0.apart y1
  have gx2 := F0.apart y2
  have gx3 := F0.apart y3
  clear hV hW x1 x2 hown b1 bq hno
  go_loopw [6] (fun i wr => ∃ a : Nat, a ≤ C ∧ i = .int .i64 a ∧ Fills V g gc n (upto (evt C xs) (a * C)) wr) (fun i _ => C - (intOf i).toNat)
  case atStart => exact ⟨0, Nat.zero_le _, rfl, by rw [Nat.zero_mul]; exact F0.congr (upto_zero _ n)⟩
  case round =>
    clear F0
    obtain ⟨i, hi, rfl, hF⟩ := hrel
    obtain ⟨u0, u1, u2, _⟩ := mat_cells (hF.keep y1 gx1)
    by_cases hlt : i < C
    · go_wp2
      clear u0 u1 u2
      go_loopw [7] (fun c wr => ∃ a : Nat, a ≤ C ∧ c = .int .i64 a ∧ Fills V g gc n (upto (evt C xs) (i * C + a)) wr) (fun c _ => C - (intOf c).toNat)
      case atStart => exact ⟨0, Nat.zero_le _, rfl, hF⟩
      case round =>
        clear hF
        obtain ⟨k, hk, rfl, hF⟩ := hrel
        obtain ⟨u0, u1, u2, _⟩ := mat_cells (hF.keep y1 gx1)
        by_cases hlk : k < C
        · obtain ⟨v0, v1, v2, _⟩ := mat_cells (hF.keep y3 gx3)
          have pA : i * C + k < n := by rw [← HQ.out]; exact at_lt hlt hlk
          have pB : k * C + i < n := by rw [← HQ.out]; exact at_lt hlk hlt
          have hc := hF.cell pA
          have hf := hF.free (i * C + k)
          have HF := (hF.drew).store (i * C + k) (half (ge xs (i * C + k) + ge xs (k * C + i)) 1)
          rw [← evt_at xs hlk] at HF
          have HF := HF.congr (upto_succ (evt C xs) (i * C + k) n)
          rw [evt_at xs hlk] at HF
          obtain ⟨ad, hao, ca⟩ := (hF.sees hs bw hgw).at (i * C + k) (by omega)
          obtain ⟨ad', hao', cb⟩ := (hF.sees hs bw hgw).at (k * C + i) (by omega)
          have hadd : ad' = ad := by rw [hao] at hao'; exact (Option.some.inj hao').symm
          subst hadd
          subst hao
          clear hao'
          have EA : Hid (i * C + (k + 1) = i * C + k + 1) := rfl
          have xb := hal (i * C + k)
          have yb := hal (k * C + i)
          obtain ⟨x, hx⟩ : ∃ x, ge xs (i * C + k) = x := ⟨_, rfl⟩
          obtain ⟨y, hy⟩ : ∃ y, ge xs (k * C + i) = y := ⟨_, rfl⟩
          rw [hx] at HF ca xb
          rw [hy] at HF cb yb
          obtain ⟨z, hz⟩ : ∃ z, x + y = z := ⟨_, rfl⟩
          have hwz : IntKind.i64.wrap z = z := wrap_in (by omega) (by omega)
          have z0 : -9223372036854775808 ≤ z := by omega
          have z1 : z ≤ 9223372036854775807 := by omega
          rw [hz] at HF
          obtain ⟨hv, hhv⟩ : ∃ hv, half z 1 = hv := ⟨_, rfl⟩
          have hrh := rhalf_any z 1 wr.drew z0 z1
          rw [hhv] at HF hrh
          obtain ⟨qa, hqa⟩ : ∃ qa, i * C = qa := ⟨_, rfl⟩
          obtain ⟨qb, hqb⟩ : ∃ qb, k * C = qb := ⟨_, rfl⟩
          have hqa' : (i : Int) * (C : Int) = (qa : Int) := by rw [← hqa]; exact (Int.natCast_mul i C).symm
          have hqb' : (k : Int) * (C : Int) = (qb : Int) := by rw [← hqb]; exact (Int.natCast_mul k C).symm
          rw [hqa] at HF ca pA EA hc hf
          rw [hqb] at cb pB
          have ba : qa ≤ 64 := by omega
          have bb : qb ≤ 64 := by omega
          have HA : Hid (i * C = qa) := hqa
          clear hx hy hF hqa hqb xb yb hhv
          have ia : IntKind.i64.wrap (qa : Int) = (qa : Int) := wrap_in (by omega) (by omega)
          have ib : IntKind.i64.wrap (qb : Int) = (qb : Int) := wrap_in (by omega) (by omega)
          have ic : IntKind.i64.wrap ((qa : Int) + (k : Int)) = (qa : Int) + (k : Int) := wrap_in (by omega) (by omega)
          have id : IntKind.i64.wrap ((qb : Int) + (i : Int)) = (qb : Int) + (i : Int) := wrap_in (by omega) (by omega)
          have ta : ((qa : Int) + (k : Int)).toNat = qa + k := by omega
          have tb : ((qb : Int) + (i : Int)).toNat = qb + i := by omega
          have la : (qa : Int) + (k : Int) < (n : Int) := by omega
          have lb : (qb : Int) + (i : Int) < (n : Int) := by omega
          have za : (0 : Int) ≤ (qa : Int) + (k : Int) := by omega
          have zb : (0 : Int) ≤ (qb : Int) + (i : Int) := by omega
          go_wp2
          refine wp_region_still_tail 31 (by kernel_rfl) (by kernel_rfl) ?_
          simp only [List.take_succ_cons, List.take_zero, List.drop_succ_cons, List.drop_zero]
          repeat (first | still_step | still_call hrh)
          refine wpStill_nil ?_
          change wpList Tryz.prog _ _ _ _ wr.drew
          go_wp2
          go_roundw
          case rel => exact ⟨k + 1, by omega, by go_num, by rw [HA.out, EA.out]; exact HF⟩
          case measure => simp [intOf]; omega
        · have e : k = C := by omega
          subst e
          go_wp2
          go_roundw
          case rel => exact ⟨i + 1, by omega, by go_num, by rw [Nat.succ_mul]; exact hF⟩
          case measure => simp [intOf]; omega
    · have e : i = C := by omega
      subst e
      rw [HQ.out] at hF
      obtain ⟨v0, v1, v2, _⟩ := mat_cells (hF.keep y3 gx3)
      obtain ⟨d0, d1, d2, f0, f1, f2⟩ := mat_cells (hF.keep y2 gx2)
      have hsh := hF.owns (B := w.heap.size) hgw hDg
      rw [HT.out] at hsh
      have hbl := hF.below bw hgw
      clear hF
      go_wp2
      refine bodyPost_ret (v := .tuple #[.agg #[.int .i64 i, .int .i64 i, .slice (some ⟨g, 0, none⟩) n gc], .bool false, .int .i64 0]) (by simp [results, Tryz.results62, go_sem, d0, d1, d2]) rfl ?_
      refine ⟨_, rfl, ?_, below_put hbl (by omega) _ _ _⟩
      rw [HQ.out]
      exact hsh _ _ _

theorem reven_any (C : Nat) (h2 : 1 ≤ C) (hC : C ≤ 8) (v : Value) (xs : List Int) (hn : xs.length = C * C) (hal : AllIn xs) (w : World) (hs : Sees w v xs) :
    Calls Tryz.prog 62 #[.agg #[.int .i64 C, .int .i64 C, v]] w fun e b =>
      ∃ v, e = .returned (.tuple #[.agg #[.int .i64 C, .int .i64 C, v], .bool false, .int .i64 0]) ∧ Sees b v (evn C xs) ∧ New w.heap.size v ∧ Below w.heap.size w b := by
  refine (reven_own C h2 hC v xs hn hal w hs).mono ?_
  rintro e b ⟨v, he, ho, hb⟩
  exact ⟨v, he, Sees.own ho, New.own ho, hb⟩

set_option maxRecDepth 20000 in
theorem reven_not (R C : Nat) (h : R ≠ C) (v : Value) (xs : List Int) (w : World) (hs : Sees w v xs) :
    Calls Tryz.prog 62 #[.agg #[.int .i64 R, .int .i64 C, v]] w fun e b =>
      e = .returned (.tuple #[.agg #[.int .i64 0, .int .i64 0, .slice none 0 0], .bool false, .int .i64 9]) ∧ Below w.heap.size w b := by
  obtain ⟨ao, cap, rfl⟩ := hs.slice
  clear hs
  have e3 : ¬ ((R : Int) = (C : Int)) := by omega
  clear h
  have b0 := ball2 w (.cells #[.int .i64 R, .int .i64 C, .slice ao xs.length cap] 24) (.cells #[.int .i64 0, .int .i64 0, .slice none 0 0] 24)
  go_enter Tryz.func62, Tryz.ntmps62
  go_wp2
  refine bodyPost_ret (v := .tuple #[.agg #[.int .i64 0, .int .i64 0, .slice none 0 0], .bool false, .int .i64 9]) (by simp [results, Tryz.results62, go_sem]) rfl ?_
  exact ⟨rfl, b0⟩
end Go.Proofs.YtiniobcknmaigaaGreat
