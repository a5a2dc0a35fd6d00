/-
  The contracts of products: math/bits.Mul64, qfix.Mul and the document's Mul.
-/
import Derived.Test.YtiniobcknmaigaaBase
import Derived.WalkSpells
namespace Go.Proofs.Ytiniobcknmaigaa
open Go.RowKit Qm

theorem bt {a b c : World} (h : Below a.heap.size a b) (k : Below b.heap.size b c) : Below a.heap.size a c := h.trans (k.mono h.size)

theorem mask32 (z : Int) (h0 : 0 ≤ z) (h1 : z ≤ 18446744073709551615) : bits .and .u64 z 4294967295 = z % 4294967296 :=
  bits_mask .u64 64 (by decide) (fun n h0 h1 => by rw [IntKind.wrap_u64]; omega) 32 (by omega) z h0 (by omega)
/-- a product of two numbers of two halves each -/
theorem crossed (p q r s : Int) : (p * 4294967296 + q) * (r * 4294967296 + s) = p * r * 18446744073709551616 + (p * s + q * r) * 4294967296 + q * s := by
  have e1 : p * 4294967296 * (r * 4294967296) = p * r * 18446744073709551616 := by
    rw [Int.mul_assoc, Int.mul_left_comm 4294967296 r 4294967296, ← Int.mul_assoc p]
    generalize p * r = t
    omega
  have e2 : p * 4294967296 * s = p * s * 4294967296 := Int.mul_right_comm _ _ _
  have e3 : q * (r * 4294967296) = q * r * 4294967296 := (Int.mul_assoc _ _ _).symm
  rw [Int.add_mul, Int.mul_add, Int.mul_add, e1, e2, e3]
  omega
theorem prod32 {a b : Int} (ha : 0 ≤ a) (hA : a ≤ 4294967295) (hb : 0 ≤ b) (hB : b ≤ 4294967295) : 0 ≤ a * b ∧ a * b ≤ 4294967295 * 4294967295 :=
  ⟨Int.mul_nonneg ha hb, Int.mul_le_mul hA hB hb (by omega)⟩

/-- the two halves of a product -/
def hi64 (n : Int) : Int := n / 18446744073709551616
def lo64 (n : Int) : Int := n % 18446744073709551616
theorem hi64_bd {n : Int} (h0 : 0 ≤ n) (h : n ≤ 4951760157141521099596496896) : 0 ≤ hi64 n ∧ hi64 n ≤ 268435456 := by unfold hi64; omega
theorem lo64_bd (n : Int) : 0 ≤ lo64 n ∧ lo64 n ≤ 18446744073709551615 := by unfold lo64; omega

set_option maxHeartbeats 1000000 in
/-- math/bits.Mul64 -/
theorem mul64_any (x y : Int) (w : World) (hx0 : 0 ≤ x) (hx : x ≤ 18446744073709551615) (hy0 : 0 ≤ y) (hy : y ≤ 18446744073709551615) :
    Calls Try.prog 92 #[.int .u64 x, .int .u64 y] w fun e w' => e = .returned (.tuple #[.int .u64 (hi64 (x * y)), .int .u64 (lo64 (x * y))]) ∧ w' = w := by
  have m1 := mask32 x hx0 hx
  have m2 := mask32 y hy0 hy
  obtain ⟨x1, ex1⟩ : ∃ z, x / 4294967296 = z := ⟨_, rfl⟩
  obtain ⟨x0, ex0⟩ : ∃ z, x % 4294967296 = z := ⟨_, rfl⟩
  obtain ⟨y1, ey1⟩ : ∃ z, y / 4294967296 = z := ⟨_, rfl⟩
  obtain ⟨y0, ey0⟩ : ∃ z, y % 4294967296 = z := ⟨_, rfl⟩
  rw [ex0] at m1
  rw [ey0] at m2
  have hxy : x * y = (x1 * 4294967296 + x0) * (y1 * 4294967296 + y0) := by
    rw [show x = x1 * 4294967296 + x0 by omega, show y = y1 * 4294967296 + y0 by omega]
  rw [crossed] at hxy
  have pa := prod32 (a := x1) (b := y1) (by omega) (by omega) (by omega) (by omega)
  have pb := prod32 (a := x1) (b := y0) (by omega) (by omega) (by omega) (by omega)
  have pc := prod32 (a := x0) (b := y1) (by omega) (by omega) (by omega) (by omega)
  have pd := prod32 (a := x0) (b := y0) (by omega) (by omega) (by omega) (by omega)
  obtain ⟨a, ea⟩ : ∃ z, x1 * y1 = z := ⟨_, rfl⟩
  obtain ⟨b, eb⟩ : ∃ z, x1 * y0 = z := ⟨_, rfl⟩
  obtain ⟨c, ec⟩ : ∃ z, x0 * y1 = z := ⟨_, rfl⟩
  obtain ⟨d, ed⟩ : ∃ z, x0 * y0 = z := ⟨_, rfl⟩
  rw [ea, eb, ec, ed] at hxy
  rw [ea] at pa
  rw [eb] at pb
  rw [ec] at pc
  rw [ed] at pd
  have m3 := mask32 (b + d / 4294967296) (by omega) (by omega)
  have hhi : hi64 (x * y) = a + (b + d / 4294967296) / 4294967296 + ((b + d / 4294967296) % 4294967296 + c) / 4294967296 := by
    unfold hi64; omega
  have hlo : lo64 (x * y) = IntKind.u64.wrap (x * y) := by unfold lo64; rw [IntKind.wrap_u64]
  rw [hhi, hlo]
  clear hxy hhi hlo ex0 ey0
  go_enter Try.func92, Try.ntmps92
  go_wp2
  go_ret2
  exact ⟨rfl, rfl⟩

set_option maxHeartbeats 400000 in
theorem below_any (x c : Int) (w : World) (hx0 : 0 ≤ x) (hx : x ≤ 18446744073709551615) (hc0 : 0 ≤ c) (hc : c ≤ 62) :
    Calls Try.prog 85 #[.int .u64 x, .int .i64 c] w fun e w' => e = .returned (.int .u64 (x % 2 ^ c.toNat)) ∧ w' = w := by
  obtain ⟨k, rfl⟩ := Int.eq_ofNat_of_zero_le hc0
  have hk : k ≤ 62 := by omega
  have hp : (2 : Int) ^ k ≤ 4611686018427387904 := by
    have := Nat.pow_le_pow_right (n := 2) (by decide) hk
    have h2 : ((2 ^ k : Nat) : Int) ≤ ((2 ^ 62 : Nat) : Int) := by omega
    simpa using h2
  have hp1 : (1 : Int) ≤ 2 ^ k := by
    have := Nat.two_pow_pos k
    have h2 : ((1 : Nat) : Int) ≤ ((2 ^ k : Nat) : Int) := by omega
    simpa using h2
  have hm := bits_mask .u64 64 (by decide) (fun n h0 h1 => by rw [IntKind.wrap_u64]; omega) k (by omega) x hx0 (by omega)
  simp only [Int.toNat_natCast]
  go_enter Try.func85, Try.ntmps85
  go_wp2
  go_ret
  exact ⟨rfl, rfl⟩

theorem below24_any (x : Int) (w : World) (hx0 : 0 ≤ x) (hx : x ≤ 18446744073709551615) :
    Calls Try.prog 85 #[.int .u64 x, .int .i64 24] w fun e w' => e = .returned (.int .u64 (x % 16777216)) ∧ w' = w := below_any x 24 w hx0 hx (by omega) (by omega)

theorem whole_eq {n : Int} (h0 : 0 ≤ n) (h : hi64 n < 128) : bits .or .u64 (hi64 n * 1099511627776) (lo64 n / 16777216) = n / 16777216 := by
  have h1 : 0 ≤ hi64 n := by unfold hi64; omega
  have hl := lo64_bd n
  rw [bits_join .u64 64 (by decide) (fun n h0 h1 => by rw [IntKind.wrap_u64]; omega) 40 _ _ (by omega) (by omega) (by omega) (by omega) (by omega) (by omega)]
  unfold hi64 lo64
  omega
theorem whole_lt {n : Int} (h0 : 0 ≤ n) (h : hi64 n < 128) : n / 16777216 ≤ 140737488355327 := by unfold hi64 at h; omega
theorem whole_pos {n : Int} (h0 : 0 ≤ n) : 0 ≤ n / 16777216 := by omega
theorem rest_eq (n : Int) : lo64 n % 16777216 = n % 16777216 := by unfold lo64; omega


set_option maxHeartbeats 1000000 in
theorem mul_near (a b : Int) (w : World) (hh : hi64 (pr a b) < 128) :
    Calls Try.prog 73 #[.int .i64 a, .int .i64 b] w fun e w' => e = .returned (.tuple #[.int .i64 (mul a b), .bool (mulB a b)]) ∧ Below w.heap.size w w' := by
  have h1 := cl_lo a; have h2 := cl_hi a; have h3 := cl_lo b; have h4 := cl_hi b
  obtain ⟨p1, p2⟩ := pr_bd a b
  obtain ⟨a1, a2⟩ := ab_bd a
  obtain ⟨b1, b2⟩ := ab_bd b
  have hP : ab (cl a) * ab (cl b) = pr a b := rfl
  obtain ⟨l1, l2⟩ := lo64_bd (pr a b)
  obtain ⟨i1, i2⟩ := hi64_bd p1 p2
  have hw := whole_eq p1 hh
  have hwl := whole_lt p1 hh
  have hwp := whole_pos p1
  have hr := rest_eq (pr a b)
  obtain ⟨n1, n2⟩ := near_bd (pr a b / 16777216) (pr a b % 16777216) 16777216
  unfold mul mulB mulv ng
  cases hob : ob2 a b
  all_goals
    go_enter Try.func73, Try.ntmps73
    go_wp2_with (first | (go_at_call 80; refine (clampBoth_any _ _ _).mono ?_; rintro e w' ⟨rfl, rfl⟩) | (go_at_call 91; refine (signs_any _).mono ?_; rintro e w' ⟨rfl, rfl⟩) | (go_at_call 102; refine (takeOff_any _ _ _ (by omega) (by omega)).mono ?_; rintro e w' ⟨rfl, rfl⟩) | (go_at_call 103; refine (layOn_any _ _ _ (by omega) (by omega)).mono ?_; rintro e w' ⟨rfl, rfl⟩) | (go_at_call 92; refine (mul64_any _ _ _ (by omega) (by omega) (by omega) (by omega)).mono ?_; rintro e w' ⟨rfl, rfl⟩) | (go_at_call 85; refine (below24_any _ _ (by omega) (by omega)).mono ?_; rintro e w' ⟨rfl, rfl⟩) | (go_at_call 84; refine (nearest_any _ _ _ _ (by omega) (by omega) (by omega) (by omega)).mono ?_; rintro e w' ⟨rfl, rfl⟩) | (go_at_call 81; refine (clamp_any _ _).mono ?_; rintro e w' ⟨rfl, rfl⟩))
    go_ret2
    exact ⟨rfl, (Below.refl _ _).alloc (Nat.le_refl _) _⟩

theorem far_ge {n : Int} (h : ¬ hi64 n < 128) : 140737488355328 ≤ n / 16777216 := by unfold hi64 at h; omega

set_option maxHeartbeats 1000000 in
theorem mul_far (a b : Int) (w : World) (hh : ¬ hi64 (pr a b) < 128) :
    Calls Try.prog 73 #[.int .i64 a, .int .i64 b] w fun e w' => e = .returned (.tuple #[.int .i64 (mul a b), .bool (mulB a b)]) ∧ Below w.heap.size w w' := by
  have hfar := far_ge hh
  obtain ⟨n1, n2⟩ := near_bd 140737488355328 (pr a b % 16777216) 16777216
  have n3 := (near_bd (pr a b / 16777216) (pr a b % 16777216) 16777216).1
  obtain ⟨e1, e2⟩ := far_same (flip (flip false (cl a)) (cl b)) (m := near (pr a b / 16777216) (pr a b % 16777216) 16777216) (n := near 140737488355328 (pr a b % 16777216) 16777216) (by omega) (by omega)
  unfold mul mulB mulv ng
  rw [e1, e2]
  clear e1 e2 n3 hfar
  have h1 := cl_lo a; have h2 := cl_hi a; have h3 := cl_lo b; have h4 := cl_hi b
  obtain ⟨p1, p2⟩ := pr_bd a b
  obtain ⟨a1, a2⟩ := ab_bd a
  obtain ⟨b1, b2⟩ := ab_bd b
  have hP : ab (cl a) * ab (cl b) = pr a b := rfl
  obtain ⟨l1, l2⟩ := lo64_bd (pr a b)
  obtain ⟨i1, i2⟩ := hi64_bd p1 p2
  have hr := rest_eq (pr a b)
  cases hob : ob2 a b
  all_goals
    go_enter Try.func73, Try.ntmps73
    go_wp2_with (first | (go_at_call 80; refine (clampBoth_any _ _ _).mono ?_; rintro e w' ⟨rfl, rfl⟩) | (go_at_call 91; refine (signs_any _).mono ?_; rintro e w' ⟨rfl, rfl⟩) | (go_at_call 102; refine (takeOff_any _ _ _ (by omega) (by omega)).mono ?_; rintro e w' ⟨rfl, rfl⟩) | (go_at_call 103; refine (layOn_any _ _ _ (by omega) (by omega)).mono ?_; rintro e w' ⟨rfl, rfl⟩) | (go_at_call 92; refine (mul64_any _ _ _ (by omega) (by omega) (by omega) (by omega)).mono ?_; rintro e w' ⟨rfl, rfl⟩) | (go_at_call 85; refine (below24_any _ _ (by omega) (by omega)).mono ?_; rintro e w' ⟨rfl, rfl⟩) | (go_at_call 84; refine (nearest_any _ _ _ _ (by omega) (by omega) (by omega) (by omega)).mono ?_; rintro e w' ⟨rfl, rfl⟩) | (go_at_call 81; refine (clamp_any _ _).mono ?_; rintro e w' ⟨rfl, rfl⟩))
    go_ret2
    exact ⟨rfl, (Below.refl _ _).alloc (Nat.le_refl _) _⟩

/-- qfix.Mul -/
theorem mul_any (a b : Int) (w : World) :
    Calls Try.prog 73 #[.int .i64 a, .int .i64 b] w fun e w' => e = .returned (.tuple #[.int .i64 (mul a b), .bool (mulB a b)]) ∧ Below w.heap.size w w' := by
  by_cases h : hi64 (pr a b) < 128
  · exact mul_near a b w h
  · exact mul_far a b w h

end Go.Proofs.Ytiniobcknmaigaa
