/-
  Plain arithmetic: what follows of sums, products, quotients and roots: orders, signs, bounds, how near.
-/
import Derived.Test.YtiniobcknmaigaaMathC
import Derived.Test.YtiniobcknmaigaaMathE
import Derived.Test.YtiniobcknmaigaaMathF
namespace Go.Proofs.Ytiniobcknmaigaa.Qm

theorem ob2_comm (a b : Int) : ob2 b a = ob2 a b := by unfold ob2; exact Bool.or_comm _ _
theorem add_comm' (a b : Int) : add b a = add a b := by unfold add; rw [Int.add_comm]
theorem addB_comm (a b : Int) : addB b a = addB a b := by unfold addB; rw [Int.add_comm, ob2_comm]
theorem pr_comm (a b : Int) : pr b a = pr a b := Int.mul_comm _ _
theorem ng_comm (a b : Int) : ng b a = ng a b := by
  unfold ng
  by_cases h1 : cl a < 0 <;> by_cases h2 : cl b < 0 <;> simp [flip, h1, h2]
theorem mulv_comm (a b : Int) : mulv b a = mulv a b := by unfold mulv; rw [pr_comm, ng_comm]
theorem mul_comm' (a b : Int) : mul b a = mul a b := by unfold mul; rw [mulv_comm]
theorem mulB_comm (a b : Int) : mulB b a = mulB a b := by unfold mulB; rw [mulv_comm, ob2_comm]

theorem ob_out {a : Int} (h : ob a = false) : -70368744177664 ≤ a ∧ a ≤ 70368744177663 := by
  unfold ob at h
  simp at h
  omega

/-- rounded, of a whole number of units -/
theorem near_whole (q d : Int) (hd : 1 ≤ d) : near (q * d / d) (q * d % d) d = q := by
  rw [Int.mul_ediv_cancel _ (by omega), Int.mul_emod_left, near_stay (by omega)]
theorem flip_flip (s : Bool) {n : Int} (h : ¬ n < 0) : flip s n = s := flip_pos h
theorem sg_ab (a : Int) : sg (flip false a) (ab a) = a := by
  by_cases h : a < 0
  · rw [flip_neg h, ab_neg h]; exact Int.neg_neg a
  · rw [flip_pos h, ab_pos h]; rfl
theorem cl_one : cl 16777216 = 16777216 := by decide
theorem mul_one' {a : Int} (h1 : -70368744177664 ≤ a) (h2 : a ≤ 70368744177663) : mul a 16777216 = a ∧ mulB a 16777216 = false := by
  have e : mulv a 16777216 = a := by
    unfold mulv ng pr
    rw [cl_one, cl_in h1 h2, flip_pos (n := 16777216) (by omega), ab_pos (a := 16777216) (by omega), near_whole _ _ (by omega), sg_ab]
  have o : ob2 a 16777216 = false := by unfold ob2; rw [ob_in h1 h2, ob_in (by omega) (by omega)]; rfl
  unfold mul mulB
  rw [e, cl_in h1 h2, ob_in h1 h2, o]
  exact ⟨rfl, rfl⟩
theorem div_one' {a : Int} (h1 : -70368744177664 ≤ a) (h2 : a ≤ 70368744177663) : div a 16777216 = a ∧ divB a 16777216 = false := by
  obtain ⟨d1, d2⟩ := div_nz (a := a) (b := 16777216) (by rw [cl_one]; omega)
  have e : divv a 16777216 = a := by
    unfold divv ng dw dm
    rw [cl_one, cl_in h1 h2, flip_pos (n := 16777216) (by omega), ab_pos (a := 16777216) (by omega), near_whole _ _ (by omega), sg_ab]
  have o : ob2 a 16777216 = false := by unfold ob2; rw [ob_in h1 h2, ob_in (by omega) (by omega)]; rfl
  rw [d1, d2, e, cl_in h1 h2, ob_in h1 h2, o]
  exact ⟨rfl, rfl⟩
theorem sub_self' {a : Int} (h1 : -70368744177664 ≤ a) (h2 : a ≤ 70368744177663) : sub a a = 0 ∧ subB a a = false := by
  have o : ob2 a a = false := by unfold ob2; rw [ob_in h1 h2]; rfl
  unfold sub subB
  rw [Int.sub_self, o]
  exact ⟨by decide, by decide⟩

/-! ### signs -/
theorem ab_minus (a : Int) : ab (0 - a) = ab a := by unfold ab; split <;> split <;> omega
theorem near_zero (d : Int) (hd : 1 ≤ d) : near (0 / d) (0 % d) d = 0 := by rw [Int.zero_ediv, Int.zero_emod, near_stay (by omega)]
theorem sg_not (s : Bool) (n : Int) : sg (!s) n = -sg s n := by cases s <;> simp [sg]
theorem flip_not (s : Bool) (n : Int) : flip (!s) n = !(flip s n) := by unfold flip; split <;> simp
/-- turned round, the sign turns, or there is nothing to turn -/
theorem flip_minus {a : Int} (h : ¬ a = 0) : flip false (0 - a) = !(flip false a) := by
  by_cases h1 : a < 0
  · rw [flip_neg h1, flip_pos (by omega)]; rfl
  · rw [flip_pos h1, flip_neg (by omega)]
theorem mulv_minus {a b : Int} (h1 : -70368744177664 < a) (h2 : a ≤ 70368744177663) : mulv (0 - a) b = -mulv a b := by
  unfold mulv ng pr
  rw [cl_in (a := 0 - a) (by omega) (by omega), cl_in (a := a) (by omega) h2, ab_minus]
  by_cases h : a = 0
  · subst h
    rw [show ab 0 = 0 from rfl, Int.zero_mul, near_zero _ (by omega)]
    unfold sg
    split <;> split <;> rfl
  · rw [flip_minus h, flip_not, sg_not]
theorem divv_minus {a b : Int} (hb : 1 ≤ ab (cl b)) (h1 : -70368744177664 < a) (h2 : a ≤ 70368744177663) : divv (0 - a) b = -divv a b := by
  unfold divv ng dw dm
  rw [cl_in (a := 0 - a) (by omega) (by omega), cl_in (a := a) (by omega) h2, ab_minus]
  by_cases h : a = 0
  · subst h
    rw [show ab 0 = 0 from rfl, Int.zero_mul, near_zero _ hb]
    unfold sg
    split <;> split <;> rfl
  · rw [flip_minus h, flip_not, sg_not]
theorem mul_signs {a b : Int} (h1 : -70368744177664 < a) (h2 : a ≤ 70368744177663) (x : mulB a b = false) (y : mulB (0 - a) b = false) : mul (0 - a) b = 0 - mul a b := by
  unfold mulB at x y
  simp only [Bool.or_eq_false_iff] at x y
  have c := ob_out x.2
  have d := ob_out y.2
  unfold mul
  rw [cl_in c.1 c.2, cl_in d.1 d.2, mulv_minus h1 h2]
  omega
theorem div_signs {a b : Int} (h1 : -70368744177664 < a) (h2 : a ≤ 70368744177663) (x : divB a b = false) (y : divB (0 - a) b = false) : div (0 - a) b = 0 - div a b := by
  by_cases hb : cl b = 0
  · rw [(div_z hb).2] at x
    exact absurd x (by decide)
  · obtain ⟨d1, d2⟩ := div_nz (a := a) hb
    obtain ⟨e1, e2⟩ := div_nz (a := 0 - a) hb
    rw [d2] at x
    rw [e2] at y
    simp only [Bool.or_eq_false_iff] at x y
    have c := ob_out x.2
    have d := ob_out y.2
    rw [d1, e1, cl_in c.1 c.2, cl_in d.1 d.2, divv_minus (ab_nz hb) h1 h2]
    omega
theorem add_signs {a b : Int} (h1 : -70368744177664 < a) (h2 : a ≤ 70368744177663) (h3 : -70368744177664 < b) (h4 : b ≤ 70368744177663) (x : addB a b = false) (y : addB (0 - a) (0 - b) = false) : add (0 - a) (0 - b) = 0 - add a b := by
  unfold addB at x y
  simp only [Bool.or_eq_false_iff] at x y
  have c := ob_out x.2
  have d := ob_out y.2
  unfold add
  rw [cl_in c.1 c.2, cl_in d.1 d.2, cl_in (a := 0 - a) (by omega) (by omega), cl_in (a := 0 - b) (by omega) (by omega), cl_in (a := a) (by omega) h2, cl_in (a := b) (by omega) h4]
  omega

/-! ### bounds -/
theorem div_bd (a b : Int) : -70368744177664 ≤ div a b ∧ div a b ≤ 70368744177663 := by
  by_cases hb : cl b = 0
  · rw [(div_z hb).1]; unfold none0; split <;> (try split) <;> omega
  · rw [(div_nz hb).1]; exact cl_bd _
theorem sqrt_bd (a : Int) : 0 ≤ sqrt a ∧ sqrt a ≤ 34359738367 := by
  by_cases h : cl a < 0
  · rw [(sqrt_neg h).1]; omega
  · rw [(sqrt_pos h).1]
    have h1 := cl_hi a
    obtain ⟨r0, r1, _, _⟩ := root_spec (N := cl a * 16777216) (by omega) (by omega)
    exact ⟨r0, r1⟩

end Go.Proofs.Ytiniobcknmaigaa.Qm
