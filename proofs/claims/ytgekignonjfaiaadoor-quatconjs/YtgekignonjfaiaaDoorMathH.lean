/-
  Plain arithmetic: products and quotients are near, and rise.
-/
import Derived.Test.YtgekignonjfaiaaDoorMathG
namespace Go.Proofs.YtgekignonjfaiaaDoor.Qm

/-! ### how near -/
theorem mul_near' {a b : Int} (a1 : -2147483648 ≤ a) (a2 : a ≤ 2147483647) (b1 : -2147483648 ≤ b) (b2 : b ≤ 2147483647) :
    mulB a b = false ∧ -8388608 ≤ mul a b * 16777216 - a * b ∧ mul a b * 16777216 - a * b ≤ 8388608 ∧ -4611686018427387904 ≤ a * b ∧ a * b ≤ 4611686018427387904 ∧ -274877906945 ≤ mul a b ∧ mul a b ≤ 274877906945 := by
  have ca : cl a = a := cl_in (by omega) (by omega)
  have cb : cl b = b := cl_in (by omega) (by omega)
  have o : ob2 a b = false := by unfold ob2; rw [ob_in (by omega) (by omega), ob_in (by omega) (by omega)]; rfl
  have hs : sg (ng a b) (pr a b) = a * b := by
    unfold ng pr
    rw [ca, cb]
    by_cases h1 : a < 0 <;> by_cases h2 : b < 0
    · rw [flip_neg h1, flip_neg h2, ab_neg h1, ab_neg h2]; exact Int.neg_mul_neg a b
    · rw [flip_neg h1, flip_pos h2, ab_neg h1, ab_pos h2, Int.neg_mul]; exact Int.neg_neg _
    · rw [flip_pos h1, flip_neg h2, ab_pos h1, ab_neg h2, Int.mul_neg]; exact Int.neg_neg _
    · rw [flip_pos h1, flip_pos h2, ab_pos h1, ab_pos h2]; rfl
  have p0 : 0 ≤ pr a b ∧ pr a b ≤ 2147483648 * 2147483648 := by
    unfold pr
    rw [ca, cb]
    refine mul_bd ?_ ?_ ?_ ?_ <;> (unfold ab; split <;> omega)
  have e := near_err (pr a b) 16777216 (by omega)
  have nb := near_bd (pr a b / 16777216) (pr a b % 16777216) 16777216
  have hm : mulv a b = sg (ng a b) (near (pr a b / 16777216) (pr a b % 16777216) 16777216) := rfl
  generalize near (pr a b / 16777216) (pr a b % 16777216) 16777216 = n at *
  unfold mul mulB
  rw [hm, ← hs]
  clear hm hs
  cases ng a b
  · rw [sg_f, sg_f, cl_in (by omega) (by omega), ob_in (by omega) (by omega), o]
    exact ⟨rfl, by omega, by omega, by omega, by omega, by omega, by omega⟩
  · rw [sg_t, sg_t, cl_in (by omega) (by omega), ob_in (by omega) (by omega), o]
    exact ⟨rfl, by omega, by omega, by omega, by omega, by omega, by omega⟩

theorem div_near' {a b : Int} (a1 : -2147483648 ≤ a) (a2 : a ≤ 2147483647) (b1 : -2147483648 ≤ b) (b2 : b ≤ 2147483647) (hb : ¬ b = 0) (hf : divB a b = false) :
    -ab b ≤ 2 * (a * 16777216 - div a b * b) ∧ 2 * (a * 16777216 - div a b * b) ≤ ab b := by
  have ca : cl a = a := cl_in (by omega) (by omega)
  have cb : cl b = b := cl_in (by omega) (by omega)
  obtain ⟨d1, d2⟩ := div_nz (a := a) (b := b) (by rw [cb]; exact hb)
  rw [d2] at hf
  simp only [Bool.or_eq_false_iff] at hf
  have c := ob_out hf.2
  have hy : 1 ≤ ab b := ab_nz hb
  have e := near_err (ab a * 16777216) (ab b) hy
  rw [d1, cl_in c.1 c.2]
  unfold divv dw dm ng
  rw [ca, cb]
  generalize near (ab a * 16777216 / ab b) (ab a * 16777216 % ab b) (ab b) = n at *
  by_cases h1 : a < 0 <;> by_cases h2 : b < 0
  · rw [flip_neg h1, flip_neg h2]
    rw [ab_neg h1, ab_neg h2, Int.mul_neg] at e
    rw [ab_neg h2]
    show -(-b) ≤ 2 * (a * 16777216 - n * b) ∧ 2 * (a * 16777216 - n * b) ≤ -b
    omega
  · rw [flip_neg h1, flip_pos h2]
    rw [ab_neg h1, ab_pos h2] at e
    rw [ab_pos h2]
    show -b ≤ 2 * (a * 16777216 - -n * b) ∧ 2 * (a * 16777216 - -n * b) ≤ b
    rw [Int.neg_mul]
    omega
  · rw [flip_pos h1, flip_neg h2]
    rw [ab_pos h1, ab_neg h2, Int.mul_neg] at e
    rw [ab_neg h2]
    show -(-b) ≤ 2 * (a * 16777216 - -n * b) ∧ 2 * (a * 16777216 - -n * b) ≤ -b
    rw [Int.neg_mul]
    omega
  · rw [flip_pos h1, flip_pos h2]
    rw [ab_pos h1, ab_pos h2] at e
    rw [ab_pos h2]
    show -b ≤ 2 * (a * 16777216 - n * b) ∧ 2 * (a * 16777216 - n * b) ≤ b
    omega

/-! ### what rises -/
theorem cl_rises {a b : Int} (h : a ≤ b) : cl a ≤ cl b := by unfold cl; split <;> split <;> (try split) <;> (try split) <;> omega
theorem near_rises {n m d : Int} (hd : 1 ≤ d) (h : n ≤ m) : near (n / d) (n % d) d ≤ near (m / d) (m % d) d := by
  have e1 := Int.emod_add_mul_ediv n d
  have e2 := Int.emod_add_mul_ediv m d
  have q : n / d ≤ m / d := Int.ediv_le_ediv (by omega) h
  by_cases c : n / d = m / d
  · rw [c] at e1 ⊢
    have r : n % d ≤ m % d := by omega
    unfold near
    by_cases h1 : d < 2 * (n % d) ∨ (2 * (n % d) = d ∧ m / d % 2 = 1)
    · rw [if_pos h1, if_pos (by omega)]; omega
    · rw [if_neg h1]; split <;> omega
  · have b1 := near_bd (n / d) (n % d) d
    have b2 := near_bd (m / d) (m % d) d
    omega
theorem near_nonneg {n d : Int} (hd : 1 ≤ d) (h : 0 ≤ n) : 0 ≤ near (n / d) (n % d) d := by
  have := (near_bd (n / d) (n % d) d).1
  have := Int.ediv_nonneg h (show 0 ≤ d by omega)
  omega
theorem add_rises {a b : Int} (c : Int) (h : a ≤ b) : add a c ≤ add b c := by
  unfold add
  have := cl_rises h
  exact cl_rises (by omega)
theorem mulv_rises {a b c : Int} (h : a ≤ b) (hc : ¬ c < 0) : mulv a c ≤ mulv b c := by
  have hab := cl_rises h
  have h0 : ¬ cl c < 0 := by unfold cl; split <;> (try split) <;> omega
  unfold mulv ng pr
  rw [flip_pos h0, flip_pos h0, ab_pos h0]
  have hcc : 0 ≤ cl c := by omega
  generalize cl a = x at *
  generalize cl b = y at *
  generalize cl c = z at *
  by_cases h1 : x < 0
  · rw [flip_neg h1, ab_neg h1]
    have nx : 0 ≤ near (-x * z / 16777216) (-x * z % 16777216) 16777216 := near_nonneg (by omega) (Int.mul_nonneg (by omega) hcc)
    by_cases h2 : y < 0
    · rw [flip_neg h2, ab_neg h2]
      have := near_rises (n := -y * z) (m := -x * z) (d := 16777216) (by omega) (Int.mul_le_mul_of_nonneg_right (by omega) hcc)
      show -near _ _ _ ≤ -near _ _ _
      omega
    · rw [flip_pos h2, ab_pos h2]
      have ny : 0 ≤ near (y * z / 16777216) (y * z % 16777216) 16777216 := near_nonneg (by omega) (Int.mul_nonneg (by omega) hcc)
      show -near _ _ _ ≤ near _ _ _
      omega
  · have h2 : ¬ y < 0 := by omega
    rw [flip_pos h1, ab_pos h1, flip_pos h2, ab_pos h2]
    exact near_rises (by omega) (Int.mul_le_mul_of_nonneg_right hab hcc)
theorem mul_rises {a b c : Int} (h : a ≤ b) (hc : ¬ c < 0) : mul a c ≤ mul b c := cl_rises (mulv_rises h hc)
theorem sqrt_rises {a b : Int} (h : a ≤ b) : sqrt a ≤ sqrt b := by
  have hab := cl_rises h
  have h1 := cl_hi b
  by_cases ha : cl a < 0
  · rw [(sqrt_neg ha).1]; exact (sqrt_bd b).1
  · rw [(sqrt_pos ha).1, (sqrt_pos (a := b) (by omega)).1]
    obtain ⟨r0, _, r2, _⟩ := root_spec (N := cl a * 16777216) (by omega) (by omega)
    obtain ⟨s0, _, _, s3⟩ := root_spec (N := cl b * 16777216) (by omega) (by omega)
    exact sq_lt r0 s0 (by omega)
theorem round_rises {a b : Int} (h : a ≤ b) : half (cl a) 24 ≤ half (cl b) 24 := by
  unfold half
  exact near_rises (pow_bd _ (hk_le 24)).1 (cl_rises h)

end Go.Proofs.YtgekignonjfaiaaDoor.Qm
