/-
  Plain arithmetic of the numbers of 24 bits behind the point: what the document says of sums, products, quotients and roots, as functions of whole numbers. No program in sight.
-/
namespace Go.Proofs.Ytiniobcknmaigaa.Qm

/-- a number in bounds -/
def cl (a : Int) : Int := if 70368744177663 < a then 70368744177663 else if a < -70368744177664 then -70368744177664 else a
/-- is it out of bounds? -/
def ob (a : Int) : Bool := decide (70368744177663 < a) || decide (a < -70368744177664)

theorem cl_bd (a : Int) : -70368744177664 ≤ cl a ∧ cl a ≤ 70368744177663 := by unfold cl; omega
theorem cl_lo (a : Int) : -70368744177664 ≤ cl a := (cl_bd a).1
theorem cl_hi (a : Int) : cl a ≤ 70368744177663 := (cl_bd a).2
theorem cl_in {a : Int} (h1 : -70368744177664 ≤ a) (h2 : a ≤ 70368744177663) : cl a = a := by unfold cl; omega
theorem ob_in {a : Int} (h1 : -70368744177664 ≤ a) (h2 : a ≤ 70368744177663) : ob a = false := by unfold ob; simp; omega
theorem cl_top {a : Int} (h : 70368744177663 < a) : cl a = 70368744177663 := by unfold cl; omega
theorem cl_low {a : Int} (h : a < -70368744177664) : cl a = -70368744177664 := by unfold cl; omega
theorem ob_top {a : Int} (h : 70368744177663 < a) : ob a = true := by unfold ob; simp; omega
theorem ob_low {a : Int} (h : a < -70368744177664) : ob a = true := by unfold ob; simp; omega
theorem cl_cl (a : Int) : cl (cl a) = cl a := cl_in (cl_lo a) (cl_hi a)

/-- q and r by d, rounded: to the nearest, of two that are as near to the even one -/
def near (q r d : Int) : Int := if d < 2 * r ∨ (2 * r = d ∧ q % 2 = 1) then q + 1 else q
theorem near_up {q r d : Int} (h : d < 2 * r ∨ (2 * r = d ∧ q % 2 = 1)) : near q r d = q + 1 := by unfold near; rw [if_pos h]
theorem near_stay {q r d : Int} (h : ¬ (d < 2 * r ∨ (2 * r = d ∧ q % 2 = 1))) : near q r d = q := by unfold near; rw [if_neg h]
theorem near_bd (q r d : Int) : q ≤ near q r d ∧ near q r d ≤ q + 1 := by unfold near; split <;> omega
/-- a size with a sign -/
def sg (neg : Bool) (n : Int) : Int := if neg = true then -n else n
theorem sg_t (n : Int) : sg true n = -n := rfl
theorem sg_f (n : Int) : sg false n = n := rfl
/-- a number without its sign -/
def ab (a : Int) : Int := if a < 0 then -a else a
theorem ab_bd (a : Int) : 0 ≤ ab (cl a) ∧ ab (cl a) ≤ 70368744177664 := by have := cl_bd a; unfold ab; split <;> omega
theorem ab_neg {a : Int} (h : a < 0) : ab a = -a := by unfold ab; rw [if_pos h]
theorem ab_pos {a : Int} (h : ¬ a < 0) : ab a = a := by unfold ab; rw [if_neg h]

/-- a sign, turned round by a number below 0 -/
def flip (s : Bool) (n : Int) : Bool := if n < 0 then !s else s
theorem flip_neg {s : Bool} {n : Int} (h : n < 0) : flip s n = !s := by unfold flip; rw [if_pos h]
theorem flip_pos {s : Bool} {n : Int} (h : ¬ n < 0) : flip s n = s := by unfold flip; rw [if_neg h]
/-- was one of two out of bounds? -/
def ob2 (a b : Int) : Bool := ob a || ob b
/-- the product of two sizes; the sign of a product -/
def pr (a b : Int) : Int := ab (cl a) * ab (cl b)
def ng (a b : Int) : Bool := flip (flip false (cl a)) (cl b)
/-- a product, rounded, ahead of its bounds -/
def mulv (a b : Int) : Int := sg (ng a b) (near (pr a b / 16777216) (pr a b % 16777216) 16777216)
theorem pr_bd (a b : Int) : 0 ≤ pr a b ∧ pr a b ≤ 4951760157141521099596496896 := by
  obtain ⟨h1, h2⟩ := ab_bd a
  obtain ⟨h3, h4⟩ := ab_bd b
  have e : (4951760157141521099596496896 : Int) = 70368744177664 * 70368744177664 := by decide
  exact ⟨Int.mul_nonneg h1 h3, by rw [e]; exact Int.mul_le_mul h2 h4 h3 (by omega)⟩
theorem sg_bd (s : Bool) {n m : Int} (h0 : 0 ≤ n) (h : n ≤ m) : -m ≤ sg s n ∧ sg s n ≤ m := by cases s <;> simp [sg_t, sg_f] <;> omega
/-- two sizes that are both beyond the bounds come to the same -/
theorem far_same (s : Bool) {m n : Int} (hm : 70368744177664 < m) (hn : 70368744177664 < n) : cl (sg s m) = cl (sg s n) ∧ ob (sg s m) = ob (sg s n) := by
  cases s
  · rw [sg_f, sg_f, cl_top (by omega), cl_top (by omega), ob_top (by omega), ob_top (by omega)]; exact ⟨rfl, rfl⟩
  · rw [sg_t, sg_t, cl_low (by omega), cl_low (by omega), ob_low (by omega), ob_low (by omega)]; exact ⟨rfl, rfl⟩

/-- sums and differences -/
def add (a b : Int) : Int := cl (cl a + cl b)
def addB (a b : Int) : Bool := ob2 a b || ob (cl a + cl b)
def sub (a b : Int) : Int := cl (cl a - cl b)
def subB (a b : Int) : Bool := ob2 a b || ob (cl a - cl b)
/-- products -/
def mul (a b : Int) : Int := cl (mulv a b)
def mulB (a b : Int) : Bool := ob2 a b || ob (mulv a b)

end Go.Proofs.Ytiniobcknmaigaa.Qm
