/-
  Plain arithmetic of quaternions: how near products, quotients and roots are; the norm of one of the norm 1.
-/
import Derived.Test.YtgekignonjfaiaaDoorQN
import Derived.Test.YtgekignonjfaiaaDoorMathH
namespace Go.Proofs.YtgekignonjfaiaaDoor.Qm

theorem sg_pr {a b : Int} (ca : cl a = a) (cb : cl b = b) : sg (ng a b) (pr a b) = a * b := by
  unfold ng pr
  rw [ca, cb]
  by_cases h1 : a < 0 <;> by_cases h2 : b < 0
  · rw [flip_neg h1, flip_neg h2, ab_neg h1, ab_neg h2]; exact Int.neg_mul_neg a b
  · rw [flip_neg h1, flip_pos h2, ab_neg h1, ab_pos h2, Int.neg_mul]; exact Int.neg_neg _
  · rw [flip_pos h1, flip_neg h2, ab_pos h1, ab_neg h2, Int.mul_neg]; exact Int.neg_neg _
  · rw [flip_pos h1, flip_pos h2, ab_pos h1, ab_pos h2]; rfl

/-- a product of numbers up to 2^34: near, and in bounds -/
theorem mul_ex {a b : Int} (a1 : -17179869184 ≤ a) (a2 : a ≤ 17179869184) (b1 : -17179869184 ≤ b) (b2 : b ≤ 17179869184) :
    mulB a b = false ∧ -8388608 ≤ mul a b * 16777216 - a * b ∧ mul a b * 16777216 - a * b ≤ 8388608 ∧ -17592186044417 ≤ mul a b ∧ mul a b ≤ 17592186044417 := by
  have ca : cl a = a := cl_in (by omega) (by omega)
  have cb : cl b = b := cl_in (by omega) (by omega)
  have o : ob2 a b = false := by unfold ob2; rw [ob_in (by omega) (by omega), ob_in (by omega) (by omega)]; rfl
  have hs := sg_pr ca cb
  have p0 : 0 ≤ pr a b ∧ pr a b ≤ 17179869184 * 17179869184 := by
    unfold pr
    rw [ca, cb]
    refine mul_bd ?_ ?_ ?_ ?_ <;> (unfold ab; split <;> omega)
  have e := near_err (pr a b) 16777216 (by omega)
  have nb := near_bd (pr a b / 16777216) (pr a b % 16777216) 16777216
  have hm : mulv a b = sg (ng a b) (near (pr a b / 16777216) (pr a b % 16777216) 16777216) := rfl
  generalize near (pr a b / 16777216) (pr a b % 16777216) 16777216 = n at *
  unfold mul mulB
  rw [hm, ← hs]
  clear hm hs
  cases ng a b
  · rw [sg_f, sg_f, cl_in (by omega) (by omega), ob_in (by omega) (by omega), o]
    exact ⟨rfl, by omega, by omega, by omega, by omega⟩
  · rw [sg_t, sg_t, cl_in (by omega) (by omega), ob_in (by omega) (by omega), o]
    exact ⟨rfl, by omega, by omega, by omega, by omega⟩

/-- a quotient, ahead of its bounds -/
theorem divv_ex {a n : Int} (a1 : -70368744177664 ≤ a) (a2 : a ≤ 70368744177663) (n1 : 1 ≤ n) (n2 : n ≤ 70368744177663) :
    -n ≤ 2 * (divv a n * n - a * 16777216) ∧ 2 * (divv a n * n - a * 16777216) ≤ n := by
  have ca : cl a = a := cl_in (by omega) (by omega)
  have cb : cl n = n := cl_in (by omega) (by omega)
  have hn : ¬ n < 0 := by omega
  have e := near_err (ab a * 16777216) (ab n) (by rw [ab_pos hn]; exact n1)
  unfold divv dw dm ng
  rw [ca, cb]
  rw [ab_pos hn] at e ⊢
  generalize near (ab a * 16777216 / n) (ab a * 16777216 % n) n = z at *
  rw [flip_pos hn]
  by_cases h1 : a < 0
  · rw [flip_neg h1]
    rw [ab_neg h1] at e
    show -n ≤ 2 * (-z * n - a * 16777216) ∧ 2 * (-z * n - a * 16777216) ≤ n
    rw [Int.neg_mul]
    omega
  · rw [flip_pos h1]
    rw [ab_pos h1] at e
    show -n ≤ 2 * (z * n - a * 16777216) ∧ 2 * (z * n - a * 16777216) ≤ n
    omega

theorem add_ex {a b : Int} (a1 : -70368744177664 ≤ a) (a2 : a ≤ 70368744177663) (b1 : -70368744177664 ≤ b) (b2 : b ≤ 70368744177663) (s1 : -70368744177664 ≤ a + b) (s2 : a + b ≤ 70368744177663) : add a b = a + b ∧ addB a b = false := by
  unfold add addB ob2
  rw [cl_in a1 a2, cl_in b1 b2, cl_in s1 s2, ob_in a1 a2, ob_in b1 b2, ob_in s1 s2]
  exact ⟨rfl, rfl⟩
/-- a sum of four that meets no bound -/
theorem sm4_ex {p : Nat → Int} (h : ∀ k, k < 4 → -17592186044415 ≤ p k ∧ p k ≤ 17592186044415) : sm4 p = p 0 + p 1 + p 2 + p 3 ∧ sm4B p = false := by
  have h0 := h 0 (by omega)
  have h1 := h 1 (by omega)
  have h2 := h 2 (by omega)
  have h3 := h 3 (by omega)
  show add (add (add (p 0) (p 1)) (p 2)) (p 3) = _ ∧ (((false || addB (p 0) (p 1)) || addB (add (p 0) (p 1)) (p 2)) || addB (add (add (p 0) (p 1)) (p 2)) (p 3)) = false
  obtain ⟨e1, f1⟩ := add_ex (a := p 0) (b := p 1) (by omega) (by omega) (by omega) (by omega) (by omega) (by omega)
  rw [e1, f1]
  obtain ⟨e2, f2⟩ := add_ex (a := p 0 + p 1) (b := p 2) (by omega) (by omega) (by omega) (by omega) (by omega) (by omega)
  rw [e2, f2]
  obtain ⟨e3, f3⟩ := add_ex (a := p 0 + p 1 + p 2) (b := p 3) (by omega) (by omega) (by omega) (by omega) (by omega) (by omega)
  rw [e3, f3]
  exact ⟨rfl, rfl⟩
theorem any4 {o : Nat → Bool} (h : ∀ k, k < 4 → o k = false) : anyB o 4 = false := by
  show ((((false || o 0) || o 1) || o 2) || o 3) = false
  rw [h 0 (by omega), h 1 (by omega), h 2 (by omega), h 3 (by omega)]; rfl

/-- the norm of numbers up to 2^34 by 2^..: exact but for the roundings, and no bound is met -/
theorem nm_ex {p : Nat → Int} (h : ∀ k, k < 4 → -8589934592 ≤ p k ∧ p k ≤ 8589934592) :
    nmB p = false ∧ nm p = mul (p 0) (p 0) + mul (p 1) (p 1) + mul (p 2) (p 2) + mul (p 3) (p 3) ∧
    -33554432 ≤ nm p * 16777216 - (p 0 * p 0 + p 1 * p 1 + p 2 * p 2 + p 3 * p 3) ∧ nm p * 16777216 - (p 0 * p 0 + p 1 * p 1 + p 2 * p 2 + p 3 * p 3) ≤ 33554432 ∧ 0 ≤ nm p ∧ nm p ≤ 17592186044420 := by
  have key : ∀ k, k < 4 → mulB (p k) (p k) = false ∧ -8388608 ≤ mul (p k) (p k) * 16777216 - p k * p k ∧ mul (p k) (p k) * 16777216 - p k * p k ≤ 8388608 ∧ 0 ≤ mul (p k) (p k) ∧ mul (p k) (p k) ≤ 4398046511105 := by
    intro k hk
    obtain ⟨h1, h2⟩ := h k hk
    obtain ⟨m1, m2, m3, _⟩ := mul_ex (a := p k) (b := p k) (by omega) (by omega) (by omega) (by omega)
    have s0 : 0 ≤ p k * p k := by
      rcases Int.le_total 0 (p k) with h | h
      · exact Int.mul_nonneg h h
      · have := Int.mul_nonneg (a := -p k) (b := -p k) (by omega) (by omega); rwa [Int.neg_mul_neg] at this
    have s1 : p k * p k ≤ 8589934592 * 8589934592 := by
      rcases Int.le_total 0 (p k) with h | h
      · exact Int.mul_le_mul h2 h2 h (by omega)
      · have := Int.mul_le_mul (a := -p k) (b := -p k) (c := 8589934592) (d := 8589934592) (by omega) (by omega) (by omega) (by omega); rwa [Int.neg_mul_neg] at this
    generalize p k * p k = z at *
    exact ⟨m1, m2, m3, by omega, by omega⟩
  have k0 := key 0 (by omega)
  have k1 := key 1 (by omega)
  have k2 := key 2 (by omega)
  have k3 := key 3 (by omega)
  obtain ⟨e1, e2⟩ := sm4_ex (p := fun k => mul (p k) (p k)) (fun k hk => by have := key k hk; constructor <;> omega)
  have ea : anyB (fun k => mulB (p k) (p k)) 4 = false := any4 fun k hk => (key k hk).1
  unfold nm nmB
  rw [ea, e2, e1]
  exact ⟨rfl, rfl, by omega, by omega, by omega, by omega⟩

theorem sq_nonneg (a : Int) : 0 ≤ a * a := by
  rcases Int.le_total 0 a with h | h
  · exact Int.mul_nonneg h h
  · have := Int.mul_nonneg (a := -a) (b := -a) (by omega) (by omega); rwa [Int.neg_mul_neg] at this
/-- a number whose square is at most another one's is at most that one -/
theorem sq_le {a b : Int} (hb : 0 ≤ b) (h : a * a ≤ b * b) : -b ≤ a ∧ a ≤ b := by
  have h1 : ¬ (b < a) := fun hlt => by
    have := Int.mul_le_mul (a := b + 1) (b := b + 1) (c := a) (d := a) (by omega) (by omega) (by omega) (by omega)
    grind
  have h2 : ¬ (a < -b) := fun hlt => by
    have := Int.mul_le_mul (a := b + 1) (b := b + 1) (c := -a) (d := -a) (by omega) (by omega) (by omega) (by omega)
    grind
  omega
theorem pr_le {x y X Y : Int} (x1 : -X ≤ x) (x2 : x ≤ X) (y1 : -Y ≤ y) (y2 : y ≤ Y) : -(X * Y) ≤ x * y ∧ x * y ≤ X * Y := by
  have a := Int.mul_nonneg (a := X - x) (b := Y + y) (by omega) (by omega)
  have b := Int.mul_nonneg (a := X + x) (b := Y - y) (by omega) (by omega)
  have c := Int.mul_nonneg (a := X - x) (b := Y - y) (by omega) (by omega)
  have d := Int.mul_nonneg (a := X + x) (b := Y + y) (by omega) (by omega)
  constructor <;> grind
theorem sq_id (n p r u : Int) (h : u * n = p * 16777216 + r) : u * u * (n * n) = p * p * 281474976710656 + 33554432 * (p * r) + r * r := by
  have : u * u * (n * n) = (u * n) * (u * n) := by grind
  rw [this, h]; grind
theorem big {n a b c d u v w x r0 r1 r2 r3 : Int} (hn : 2097152 ≤ n)
   (e0 : u * n = a * 16777216 + r0) (e1 : v * n = b * 16777216 + r1) (e2 : w * n = c * 16777216 + r2) (e3 : x * n = d * 16777216 + r3)
   (q0 : -n ≤ 2 * r0 ∧ 2 * r0 ≤ n) (q1 : -n ≤ 2 * r1 ∧ 2 * r1 ≤ n) (q2 : -n ≤ 2 * r2 ∧ 2 * r2 ≤ n) (q3 : -n ≤ 2 * r3 ∧ 2 * r3 ≤ n)
   (p0 : -(2*n) ≤ a ∧ a ≤ 2*n) (p1 : -(2*n) ≤ b ∧ b ≤ 2*n) (p2 : -(2*n) ≤ c ∧ c ≤ 2*n) (p3 : -(2*n) ≤ d ∧ d ≤ 2*n)
   (s1 : n * n - 33554432 ≤ a * a + b * b + c * c + d * d) (s2 : a * a + b * b + c * c + d * d ≤ n * n + 2 * n + 33554433) :
   281474976710656 - 136 * 16777216 ≤ u * u + v * v + w * w + x * x ∧ u * u + v * v + w * w + x * x ≤ 281474976710656 + 153 * 16777216 := by
  have i0 := sq_id n a r0 u e0
  have i1 := sq_id n b r1 v e1
  have i2 := sq_id n c r2 w e2
  have i3 := sq_id n d r3 x e3
  have t0 := pr_le (X := 2 * n) (Y := n) (x := a) (y := 2 * r0) p0.1 p0.2 q0.1 q0.2
  have t1 := pr_le (X := 2 * n) (Y := n) (x := b) (y := 2 * r1) p1.1 p1.2 q1.1 q1.2
  have t2 := pr_le (X := 2 * n) (Y := n) (x := c) (y := 2 * r2) p2.1 p2.2 q2.1 q2.2
  have t3 := pr_le (X := 2 * n) (Y := n) (x := d) (y := 2 * r3) p3.1 p3.2 q3.1 q3.2
  have z0 := pr_le (X := n) (Y := n) (x := 2 * r0) (y := 2 * r0) q0.1 q0.2 q0.1 q0.2
  have z1 := pr_le (X := n) (Y := n) (x := 2 * r1) (y := 2 * r1) q1.1 q1.2 q1.1 q1.2
  have z2 := pr_le (X := n) (Y := n) (x := 2 * r2) (y := 2 * r2) q2.1 q2.2 q2.1 q2.2
  have z3 := pr_le (X := n) (Y := n) (x := 2 * r3) (y := 2 * r3) q3.1 q3.2 q3.1 q3.2
  have hnn : 2097152 * n ≤ n * n := Int.mul_le_mul_of_nonneg_right hn (by omega)
  have n0 : 0 ≤ r0 * r0 := sq_nonneg r0
  have n1 : 0 ≤ r1 * r1 := sq_nonneg r1
  have n2 : 0 ≤ r2 * r2 := sq_nonneg r2
  have n3 : 0 ≤ r3 * r3 := sq_nonneg r3
  have f0 : a * (2 * r0) = 2 * (a * r0) := by grind
  have f1 : b * (2 * r1) = 2 * (b * r1) := by grind
  have f2 : c * (2 * r2) = 2 * (c * r2) := by grind
  have f3 : d * (2 * r3) = 2 * (d * r3) := by grind
  have g0 : 2 * r0 * (2 * r0) = 4 * (r0 * r0) := by grind
  have g1 : 2 * r1 * (2 * r1) = 4 * (r1 * r1) := by grind
  have g2 : 2 * r2 * (2 * r2) = 4 * (r2 * r2) := by grind
  have g3 : 2 * r3 * (2 * r3) = 4 * (r3 * r3) := by grind
  have gn : 2 * n * n = 2 * (n * n) := by grind
  rw [f0, gn] at t0; rw [f1, gn] at t1; rw [f2, gn] at t2; rw [f3, gn] at t3
  rw [g0] at z0; rw [g1] at z1; rw [g2] at z2; rw [g3] at z3
  have tot : (u * u + v * v + w * w + x * x) * (n * n) = (a * a + b * b + c * c + d * d) * 281474976710656 + 33554432 * (a * r0 + b * r1 + c * r2 + d * r3) + (r0 * r0 + r1 * r1 + r2 * r2 + r3 * r3) := by grind
  generalize a * r0 = A0 at *
  generalize b * r1 = A1 at *
  generalize c * r2 = A2 at *
  generalize d * r3 = A3 at *
  generalize r0 * r0 = R0 at *
  generalize r1 * r1 = R1 at *
  generalize r2 * r2 = R2 at *
  generalize r3 * r3 = R3 at *
  generalize a * a + b * b + c * c + d * d = s at *
  generalize u * u + v * v + w * w + x * x = U at *
  clear i0 i1 i2 i3 f0 f1 f2 f3 g0 g1 g2 g3 gn e0 e1 e2 e3
  generalize hNN : n * n = NN at *
  have up : U * NN ≤ (281474976710656 + 153 * 16777216) * NN := by omega
  have lo : (281474976710656 - 136 * 16777216) * NN ≤ U * NN := by omega
  exact ⟨Int.le_of_mul_le_mul_right lo (by omega), Int.le_of_mul_le_mul_right up (by omega)⟩

/-- where all are at most 512, and one at least 1/4, the norm of one of the norm 1 is 1, but for 256 by 2^24; no bound is met -/
theorem unit_norm {p : Nat → Int} (h : ∀ k, k < 4 → -8589934592 ≤ p k ∧ p k ≤ 8589934592) (hs : ∃ k, k < 4 ∧ (4194304 ≤ p k ∨ p k ≤ -4194304)) :
    16776960 ≤ nm (un p) ∧ nm (un p) ≤ 16777472 ∧ unB p = false := by
  obtain ⟨f1, _, f3, f4, f5, f6⟩ := nm_ex h
  have sb : 17592186044416 ≤ p 0 * p 0 + p 1 * p 1 + p 2 * p 2 + p 3 * p 3 := by
    have q0 := sq_nonneg (p 0)
    have q1 := sq_nonneg (p 1)
    have q2 := sq_nonneg (p 2)
    have q3 := sq_nonneg (p 3)
    obtain ⟨k, hk, hb⟩ := hs
    have hq : 17592186044416 ≤ p k * p k := by
      rcases hb with hb | hb
      · have := Int.mul_le_mul (a := 4194304) (b := 4194304) (c := p k) (d := p k) hb hb (by omega) (by omega); omega
      · have := Int.mul_le_mul (a := 4194304) (b := 4194304) (c := -p k) (d := -p k) (by omega) (by omega) (by omega) (by omega); rw [Int.neg_mul_neg] at this; omega
    have h4 : k = 0 ∨ k = 1 ∨ k = 2 ∨ k = 3 := by omega
    rcases h4 with rfl | rfl | rfl | rfl <;> omega
  have cS : cl (nm p) = nm p := cl_in (by omega) (by omega)
  obtain ⟨r1, r2⟩ := sqrt_pos (a := nm p) (by rw [cS]; omega)
  rw [cS] at r1
  obtain ⟨n0, n1, n2, n3⟩ := root_spec (N := nm p * 16777216) (by omega) (by omega)
  rw [← r1] at n0 n1 n2 n3
  rw [ob_in (by omega) (by omega)] at r2
  obtain ⟨n, hn⟩ : ∃ n, sqrt (nm p) = n := ⟨_, rfl⟩
  rw [hn] at n0 n1 n2 n3
  have nl : 2097152 ≤ n := by
    apply Int.not_lt.1
    intro hlt
    have := Int.mul_le_mul (a := n + 1) (b := n + 1) (c := 2097152) (d := 2097152) (by omega) (by omega) (by omega) (by omega)
    omega
  have en : (n + 1) * (n + 1) = n * n + 2 * n + 1 := by grind
  rw [en] at n3
  have hnn : 2097152 * n ≤ n * n := Int.mul_le_mul_of_nonneg_right nl (by omega)
  have pb : ∀ k, k < 4 → -(2 * n) ≤ p k ∧ p k ≤ 2 * n := by
    intro k hk
    apply sq_le (by omega)
    have q0 := sq_nonneg (p 0)
    have q1 := sq_nonneg (p 1)
    have q2 := sq_nonneg (p 2)
    have q3 := sq_nonneg (p 3)
    have e4 : 2 * n * (2 * n) = 4 * (n * n) := by grind
    rw [e4]
    have h4 : k = 0 ∨ k = 1 ∨ k = 2 ∨ k = 3 := by omega
    rcases h4 with rfl | rfl | rfl | rfl <;> omega
  have key : ∀ k, k < 4 → ∃ r, un p k * n = p k * 16777216 + r ∧ (-n ≤ 2 * r ∧ 2 * r ≤ n) ∧ -33554433 ≤ un p k ∧ un p k ≤ 33554433 ∧ divB (p k) n = false := by
    intro k hk
    obtain ⟨h1, h2⟩ := h k hk
    obtain ⟨b1, b2⟩ := pb k hk
    obtain ⟨d1, d2⟩ := divv_ex (a := p k) (n := n) (by omega) (by omega) (by omega) (by omega)
    obtain ⟨c1, c2⟩ := div_nz (a := p k) (b := n) (by rw [cl_in (by omega) (by omega)]; omega)
    have lo : -33554433 * n ≤ divv (p k) n * n := by omega
    have up : divv (p k) n * n ≤ 33554433 * n := by omega
    have lo' := Int.le_of_mul_le_mul_right lo (by omega)
    have up' := Int.le_of_mul_le_mul_right up (by omega)
    rw [cl_in (by omega) (by omega)] at c1
    have eu : un p k = divv (p k) n := by unfold un; rw [hn, if_neg (by omega), c1]
    rw [eu]
    refine ⟨divv (p k) n * n - p k * 16777216, by omega, ⟨by omega, by omega⟩, by omega, by omega, ?_⟩
    rw [c2, ob_in (by omega) (by omega)]
    unfold ob2
    rw [ob_in (by omega) (by omega), ob_in (by omega) (by omega)]; rfl
  obtain ⟨r0, e0, q0, v0, v0', _⟩ := key 0 (by omega)
  obtain ⟨r1', e1, q1, v1, v1', _⟩ := key 1 (by omega)
  obtain ⟨r2', e2, q2, v2, v2', _⟩ := key 2 (by omega)
  obtain ⟨r3', e3, q3, v3, v3', _⟩ := key 3 (by omega)
  obtain ⟨B1, B2⟩ := big nl e0 e1 e2 e3 q0 q1 q2 q3 (pb 0 (by omega)) (pb 1 (by omega)) (pb 2 (by omega)) (pb 3 (by omega)) (by omega) (by omega)
  obtain ⟨_, _, g3, g4, _, _⟩ := nm_ex (p := un p) (fun k hk => by obtain ⟨_, _, _, a, b, _⟩ := key k hk; constructor <;> omega)
  have ea : anyB (fun k => divB (p k) n) 4 = false := any4 fun k hk => by obtain ⟨_, _, _, _, _, c⟩ := key k hk; exact c
  refine ⟨by omega, by omega, ?_⟩
  unfold unB
  rw [hn, if_neg (by omega), f1, r2, ea]; rfl
end Go.Proofs.YtgekignonjfaiaaDoor.Qm
