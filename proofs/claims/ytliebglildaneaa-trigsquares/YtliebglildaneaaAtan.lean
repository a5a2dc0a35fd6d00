/-
  The contract of trig.Atan and trig.Wrap.
-/
import Derived.Test.YtliebglildaneaaSinCos
import Derived.Test.YtliebglildaneaaQuart
namespace Go.Proofs.Ytliebglildaneaa
open Go.RowKit Qm Tm
namespace Tm
/-- the angle of two numbers -/
def atanv (y x : Int) : Int :=
  if cl x = 0 ∧ cl y = 0 then 0
  else if cl x < 0 then (2147483648 + zA (-(cl x) * 4096) (-(cl y) * 4096)) % 4294967296
  else zA (cl x * 4096) (cl y * 4096) % 4294967296
/-- the way from one angle to another one -/
def wrapv (a b : Int) : Int := (a - b + 2147483648) % 4294967296 - 2147483648
end Tm
theorem atan_names {p q : Int} (p0 : -288230376151711744 ≤ p) (p1 : p ≤ 288230376151711744) (q0 : -288230376151711744 ≤ q) (q1 : q ≤ 288230376151711744) : ∃ X Y Z, Hid (endA p q = (X, Y, Z)) ∧ (-1191650197 ≤ Z ∧ Z ≤ 1191650197) ∧ zA p q = Z := by
  have h := runA_top p0 p1 q0 q1 30 (by omega)
  unfold zA Hid endA
  generalize runA p q 30 = r at *
  exact ⟨r.1, r.2.1, r.2.2, rfl, h.2.2, rfl⟩

set_option maxHeartbeats 400000 in
theorem wrap_any (a b : Int) (w : World) : Calls Try.prog 16 #[.int .u32 a, .int .u32 b] w fun e w' => e = .returned (.int .i32 (wrapv a b)) ∧ w' = w := by
  have k : wrap32 ((a - b) % 4294967296) = wrapv a b := by
    unfold wrapv wrap32
    omega
  go_enter Try.func16, Try.ntmps16
  go_wp2
  go_ret
  exact ⟨congrArg (fun v => Ending.returned (.int .i32 v)) k, rfl⟩

theorem atan_zero {c d : Int} (hc : c = 0) (hd : d = 0) (y x : Int) (w : World) (h1 : cl y = d) (h2 : cl x = c) :
    Calls Try.prog 12 #[.int .i64 y, .int .i64 x] w fun e w' => e = .returned (.int .u32 0) ∧ Below w.heap.size w w' := by
  subst hc hd
  go_enter Try.func12, Try.ntmps12
  go_wp2_with (go_at_call 24; refine (clamp_any _ _).mono ?_; rintro e w' ⟨rfl, rfl⟩)
  go_ret
  exact ⟨rfl, Below.refl _ _⟩

set_option maxRecDepth 20000 in
set_option maxHeartbeats 1000000 in
theorem atan_neg (c d y x : Int) (w : World) (h1 : cl y = d) (h2 : cl x = c) (c0 : -70368744177664 ≤ c) (c1 : c < 0) (d0 : -70368744177664 ≤ d) (d1 : d ≤ 70368744177663) :
    Calls Try.prog 12 #[.int .i64 y, .int .i64 x] w fun e w' => e = .returned (.int .u32 ((2147483648 + zA (-c * 4096) (-d * 4096)) % 4294967296)) ∧ Below w.heap.size w w' := by
  obtain ⟨X, Y, Z, HR, ⟨z0, z1⟩, e1⟩ := atan_names (p := -c * 4096) (q := -d * 4096) (by omega) (by omega) (by omega) (by omega)
  rw [e1]
  clear e1
  have k0 : (c == 0) = false := by simp; omega
  obtain ⟨U, hU⟩ : ∃ U, IntKind.u32.wrap Z = U := ⟨_, rfl⟩
  obtain ⟨V, hV⟩ : ∃ V, (2147483648 + Z) % 4294967296 = V := ⟨_, rfl⟩
  have hW : IntKind.u32.wrap (2147483648 + U) = V := by rw [← hU, ← hV, IntKind.wrap_u32, IntKind.wrap_u32]; omega
  rw [hV]
  clear hV
  go_enter Try.func12, Try.ntmps12
  go_wp2_with (first | (go_at_call 24; refine (clamp_any _ _).mono ?_; rintro e w' ⟨rfl, rfl⟩) | (go_at_call 19; go_must (refine (turned_atan_at HR.out _ (by omega) (by omega) (by omega) (by omega)).mono ?_; rintro e w1 ⟨rfl, b1⟩)))
  go_ret
  exact ⟨rfl, b1.alloc b1.size _⟩

set_option maxRecDepth 20000 in
set_option maxHeartbeats 1000000 in
theorem atan_pos (c d y x : Int) (w : World) (h1 : cl y = d) (h2 : cl x = c) (c0 : 0 ≤ c) (c1 : c ≤ 70368744177663) (d0 : -70368744177664 ≤ d) (d1 : d ≤ 70368744177663) (hn : ¬ (c = 0 ∧ d = 0)) :
    Calls Try.prog 12 #[.int .i64 y, .int .i64 x] w fun e w' => e = .returned (.int .u32 (zA (c * 4096) (d * 4096) % 4294967296)) ∧ Below w.heap.size w w' := by
  obtain ⟨X, Y, Z, HR, ⟨z0, z1⟩, e1⟩ := atan_names (p := c * 4096) (q := d * 4096) (by omega) (by omega) (by omega) (by omega)
  rw [e1]
  clear e1
  obtain ⟨U, hU⟩ : ∃ U, IntKind.u32.wrap Z = U := ⟨_, rfl⟩
  have hV : Z % 4294967296 = U := by rw [← hU, IntKind.wrap_u32]
  obtain ⟨U0, U1⟩ : 0 ≤ U ∧ U ≤ 4294967295 := by omega
  rw [hV]
  clear hV
  have HN : Hid (¬ (c = 0 ∧ d = 0)) := hn
  clear hn
  by_cases hc : c = 0
  · have k0 : (c == 0) = true := by simp [hc]
    have k1 : (d == 0) = false := by have := HN.out; simp; omega
    clear hc
    go_enter Try.func12, Try.ntmps12
    go_wp2_with (first | (go_at_call 24; refine (clamp_any _ _).mono ?_; rintro e w' ⟨rfl, rfl⟩) | (go_at_call 19; go_must (refine (turned_atan_at HR.out _ (by omega) (by omega) (by omega) (by omega)).mono ?_; rintro e w1 ⟨rfl, b1⟩)))
    go_ret
    exact ⟨rfl, b1.alloc b1.size _⟩
  · have k0 : (c == 0) = false := by simp [hc]
    clear hc
    go_enter Try.func12, Try.ntmps12
    go_wp2_with (first | (go_at_call 24; refine (clamp_any _ _).mono ?_; rintro e w' ⟨rfl, rfl⟩) | (go_at_call 19; go_must (refine (turned_atan_at HR.out _ (by omega) (by omega) (by omega) (by omega)).mono ?_; rintro e w1 ⟨rfl, b1⟩)))
    go_ret
    exact ⟨rfl, b1.alloc b1.size _⟩

/-- trig.Atan -/
theorem atan_any (y x : Int) (w : World) : Calls Try.prog 12 #[.int .i64 y, .int .i64 x] w fun e w' => e = .returned (.int .u32 (atanv y x)) ∧ Below w.heap.size w w' := by
  have a1 := cl_lo x; have a2 := cl_hi x; have a3 := cl_lo y; have a4 := cl_hi y
  unfold atanv
  by_cases h : cl x = 0 ∧ cl y = 0
  · rw [if_pos h]
    exact atan_zero h.1 h.2 y x w rfl rfl
  · rw [if_neg h]
    by_cases h2 : cl x < 0
    · rw [if_pos h2]
      exact atan_neg _ _ y x w rfl rfl a1 h2 a3 a4
    · rw [if_neg h2]
      exact atan_pos _ _ y x w rfl rfl (by omega) a2 a3 a4 h
end Go.Proofs.Ytliebglildaneaa
