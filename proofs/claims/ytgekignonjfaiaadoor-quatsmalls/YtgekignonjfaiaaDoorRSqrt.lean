/-
  The contracts of the document's Sqrt: by halving.
-/
import Derived.Test.YtgekignonjfaiaaDoorBase
import Derived.Test.YtgekignonjfaiaaDoorMathE
import Derived.Test.YtgekignonjfaiaaDoorMathB
namespace Go.Proofs.YtgekignonjfaiaaDoor
open Go.RowKit Qm

/-- is a number's square at most another one times 2^24? -/
def lit (s a : Int) : Bool := decide (s * s ≤ a * 16777216)

theorem little_eqs {s a : Int} (h0 : 0 ≤ s) (h1 : s ≤ 34359738368) :
    ∃ p t z R : Int, t % 64 * 262144 + z % 16777216 = R ∧ 0 ≤ R ∧ R ≤ 33554431 ∧ (s / 262144) * (s / 262144) = p ∧ 2 * (s / 262144) * (s % 262144) = t ∧ (s % 262144) * (s % 262144) = z ∧ 0 ≤ p ∧ p ≤ 17179869184 ∧ 0 ≤ t ∧ t ≤ 68719214592 ∧ 0 ≤ z ∧ z ≤ 68718952449 ∧ (0 ≤ 2 * (s / 262144) ∧ 2 * (s / 262144) ≤ 262144) ∧
    (s * s ≤ a * 16777216 ↔ (p * 4096 + t / 64 + z / 16777216 + R / 16777216 < a ∨ (p * 4096 + t / 64 + z / 16777216 + R / 16777216 = a ∧ R % 16777216 = 0))) := by
  obtain ⟨x, hx⟩ : ∃ x, s / 262144 = x := ⟨_, rfl⟩
  obtain ⟨y, hy⟩ : ∃ y, s % 262144 = y := ⟨_, rfl⟩
  have es : s = x * 262144 + y := by omega
  have x0 : 0 ≤ x := by omega
  have x1 : x ≤ 131072 := by omega
  have y0 : 0 ≤ y := by omega
  have y1 : y ≤ 262143 := by omega
  have c1 := mul_bd x0 x1 x0 x1
  have c2 := mul_bd (show 0 ≤ 2 * x by omega) (show 2 * x ≤ 262144 by omega) y0 y1
  have c3 := mul_bd y0 y1 y0 y1
  rw [hx, hy]
  refine ⟨x * x, 2 * x * y, y * y, _, rfl, by omega, by omega, rfl, rfl, rfl, c1.1, by omega, c2.1, by omega, c3.1, by omega, by omega, ?_⟩
  have e : s * s = x * x * 68719476736 + 2 * x * y * 262144 + y * y := by
    rw [es, Int.add_mul, Int.mul_add, Int.mul_add]
    have e1 : x * 262144 * (x * 262144) = x * x * 68719476736 := by
      rw [Int.mul_assoc, Int.mul_left_comm 262144 x 262144, ← Int.mul_assoc x]
      generalize x * x = t
      omega
    have e2 : x * 262144 * y = x * y * 262144 := Int.mul_right_comm _ _ _
    have e3 : y * (x * 262144) = x * y * 262144 := by rw [← Int.mul_assoc, Int.mul_comm y x]
    have e4 : 2 * x * y = 2 * (x * y) := Int.mul_assoc _ _ _
    rw [e1, e2, e3, e4]
    generalize x * y = u
    omega
  rw [e]
  generalize x * x = p at *
  generalize 2 * x * y = t at *
  generalize y * y = z at *
  omega

set_option maxHeartbeats 1000000 in
theorem little_any (s a : Int) (w : World) (h0 : 0 ≤ s) (h1 : s ≤ 34359738368) :
    Calls Tryd.prog 57 #[.int .i64 s, .int .i64 a] w fun e w' => e = .returned (.bool (lit s a)) ∧ w' = w := by
  obtain ⟨p, t, z, R, hR, R0, R1, hp, ht, hz, p0, p1, t0, t1, z0, z1, ⟨y0, y1⟩, hi⟩ := little_eqs (a := a) h0 h1
  have HI : Hid (s * s ≤ a * 16777216 ↔ (p * 4096 + t / 64 + z / 16777216 + R / 16777216 < a ∨ (p * 4096 + t / 64 + z / 16777216 + R / 16777216 = a ∧ R % 16777216 = 0))) := hi
  clear hi
  unfold lit
  by_cases c1 : p * 4096 + t / 64 + z / 16777216 + R / 16777216 < a
  · rw [decide_eq_true (HI.out.2 (Or.inl c1))]
    go_enter Tryd.func57, Tryd.ntmps57
    go_wp2
    go_ret
    exact ⟨rfl, rfl⟩
  · by_cases c2 : p * 4096 + t / 64 + z / 16777216 + R / 16777216 = a
    · have c2' : (p * 4096 + t / 64 + z / 16777216 + R / 16777216 == a) = true := by simp [c2]
      by_cases c3 : R % 16777216 = 0
      · rw [decide_eq_true (HI.out.2 (Or.inr ⟨c2, c3⟩))]
        have c3' : (R % 16777216 == 0) = true := by simp [c3]
        clear c2 c3
        go_enter Tryd.func57, Tryd.ntmps57
        go_wp2
        go_ret
        exact ⟨rfl, rfl⟩
      · rw [decide_eq_false (by rw [HI.out]; omega)]
        have c3' : (R % 16777216 == 0) = false := by simp [c3]
        clear c2 c3
        go_enter Tryd.func57, Tryd.ntmps57
        go_wp2
        go_ret
        exact ⟨rfl, rfl⟩
    · rw [decide_eq_false (by rw [HI.out]; omega)]
      have c2' : (p * 4096 + t / 64 + z / 16777216 + R / 16777216 == a) = false := by simp [c2]
      clear c2
      go_enter Tryd.func57, Tryd.ntmps57
      go_wp2
      go_ret
      exact ⟨rfl, rfl⟩

set_option maxHeartbeats 400000 in
theorem rsqrt_below (a : Int) (w : World) (h : cl a < 0) :
    Calls Tryd.prog 36 #[.int .i64 a] w fun e w' => e = .returned (.tuple #[.int .i64 (sqrt a), .bool (sqrtB a)]) ∧ w' = w := by
  obtain ⟨e1, e2⟩ := sqrt_neg h
  rw [e1, e2]
  clear e1 e2
  go_enter Tryd.func36, Tryd.ntmps36
  go_wp2_with (go_at_call 56; refine (rclamp_any _ _).mono ?_; rintro e w' ⟨rfl, rfl⟩)
  go_ret2
  exact ⟨rfl, rfl⟩

/-- what stands at the head of each halving -/
structure Halving (n f t : Int) : Prop where
  f0 : 0 ≤ f
  ft : f < t
  t1 : t ≤ 34359738368
  lo : f * f ≤ n * 16777216
  up : n * 16777216 < t * t

set_option maxHeartbeats 1000000 in
theorem rsqrt_rest (a : Int) (w : World) (h : ¬ cl a < 0) :
    Calls Tryd.prog 36 #[.int .i64 a] w fun e w' => e = .returned (.tuple #[.int .i64 (sqrt a), .bool (sqrtB a)]) ∧ w' = w := by
  obtain ⟨e1, e2⟩ := sqrt_pos h
  rw [e1, e2]
  clear e1 e2
  have h1 := cl_hi a
  obtain ⟨Z, hz⟩ : ∃ Z, root (cl a * 16777216) = Z := ⟨_, rfl⟩
  rw [hz]
  have HZ : Hid (root (cl a * 16777216) = Z) := hz
  clear hz
  go_enter Tryd.func36, Tryd.ntmps36
  go_wp2_with (go_at_call 56; refine (rclamp_any _ _).mono ?_; rintro e w' ⟨rfl, rfl⟩)
  go_loop [6, 7] (fun x y => ∃ f t : Int, Hid (Halving (cl a) f t) ∧ x = .int .i64 f ∧ y = .int .i64 t) (fun x y => (intOf y - intOf x).toNat)
  case atStart => exact ⟨0, 34359738368, show Halving (cl a) 0 34359738368 from ⟨by omega, by omega, by omega, by omega, by omega⟩, rfl, rfl⟩
  case round =>
    obtain ⟨f, t, hh, rfl, rfl⟩ := hrel
    have hh' := hh.out
    obtain ⟨f0, ft, t1, lo, up⟩ := hh'
    by_cases c : 1 < t - f
    · obtain ⟨m, hm⟩ : ∃ m, (f + t) / 2 = m := ⟨_, rfl⟩
      have m0 : 0 ≤ m := by omega
      have m1 : m ≤ 34359738368 := by omega
      have M1 : Hid (f < m) := show f < m by omega
      have M2 : Hid (m < t) := show m < t by omega
      clear lo up
      by_cases l : m * m ≤ cl a * 16777216
      · have hl : lit m (cl a) = true := decide_eq_true l
        have HN : Hid (Halving (cl a) m t) := show Halving (cl a) m t from ⟨by omega, M2.out, by omega, l, hh.out.up⟩
        clear l
        go_wp2_with (go_at_call 57; refine (little_any _ _ _ (by omega) (by omega)).mono ?_; rintro e w' ⟨rfl, rfl⟩)
        go_round
        case rel => exact ⟨m, t, HN, rfl, rfl⟩
        case measure => have := M1.out; have := M2.out; simp [intOf]; omega
      · have hl : lit m (cl a) = false := decide_eq_false l
        have HN : Hid (Halving (cl a) f m) := show Halving (cl a) f m from ⟨by omega, M1.out, by omega, hh.out.lo, by omega⟩
        clear l
        go_wp2_with (go_at_call 57; refine (little_any _ _ _ (by omega) (by omega)).mono ?_; rintro e w' ⟨rfl, rfl⟩)
        go_round
        case rel => exact ⟨f, m, HN, rfl, rfl⟩
        case measure => have := M1.out; have := M2.out; simp [intOf]; omega
    · have et : t = f + 1 := by omega
      rw [et] at up
      have hf : f = Z := by rw [← HZ.out]; exact root_uniq (by omega) (by omega) f0 lo up
      clear lo up et
      subst hf
      go_wp2
      go_ret2
      exact ⟨rfl, rfl⟩

/-- the document's Sqrt -/
theorem rsqrt_any (a : Int) (w : World) :
    Calls Tryd.prog 36 #[.int .i64 a] w fun e w' => e = .returned (.tuple #[.int .i64 (sqrt a), .bool (sqrtB a)]) ∧ w' = w := by
  by_cases h : cl a < 0
  · exact rsqrt_below a w h
  · exact rsqrt_rest a w h
end Go.Proofs.YtgekignonjfaiaaDoor
