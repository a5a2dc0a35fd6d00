/-
  The contract of trig.SinCos.
-/
import Derived.Test.YtliebglildaneaaTurned
namespace Go.Proofs.Ytliebglildaneaa
open Go.RowKit Qm Tm
namespace Tm
/-- all turns -/
def endS (z : Int) : Int × Int × Int := runS z 30
def endA (p q : Int) : Int × Int × Int := runA p q 30
/-- what is left of an angle, as SinCos turns it -/
def ang (a : Int) : Int := if a < 1073741824 then a else if a < 3221225472 then a - 2147483648 else a - 4294967296
/-- is an angle behind? -/
def bh (a : Int) : Bool := decide (1073741824 ≤ a) && decide (a < 3221225472)
/-- an angle's sine, its cosine -/
def sine (a : Int) : Int := if bh a then -(sn (ang a)) else sn (ang a)
def cosine (a : Int) : Int := if bh a then -(cs (ang a)) else cs (ang a)
theorem ang1 {a : Int} (h0 : 0 ≤ a) (h : a < 1073741824) : ang a = a ∧ bh a = false := by
  refine ⟨by unfold ang; omega, ?_⟩
  unfold bh; simp; omega
theorem ang2 {a : Int} (h0 : 1073741824 ≤ a) (h : a < 3221225472) : ang a = a - 2147483648 ∧ bh a = true := by
  refine ⟨by unfold ang; omega, ?_⟩
  unfold bh; simp; omega
theorem ang3 {a : Int} (h0 : 3221225472 ≤ a) (h : a < 4294967296) : ang a = a - 4294967296 ∧ bh a = false := by
  refine ⟨by unfold ang; omega, ?_⟩
  unfold bh; simp; omega
end Tm

theorem turned_sin_at {z X Y Z : Int} (h : endS z = (X, Y, Z)) (w : World) (z0 : -1073741824 ≤ z) (z1 : z ≤ 1073741824) :
    Calls Try.prog 19 #[.agg #[.int .i64 652032874, .int .i64 0, .int .i32 z], .func (Fn.func 20) #[] #[]] w fun e w' => e = .returned (.agg #[.int .i64 X, .int .i64 Y, .int .i32 Z]) ∧ Below w.heap.size w w' := by
  have := turned_sin z w z0 z1
  rw [show runS z 30 = (X, Y, Z) from h] at this
  exact this
theorem turned_atan_at {p q X Y Z : Int} (h : endA p q = (X, Y, Z)) (w : World) (p0 : -288230376151711744 ≤ p) (p1 : p ≤ 288230376151711744) (q0 : -288230376151711744 ≤ q) (q1 : q ≤ 288230376151711744) :
    Calls Try.prog 19 #[.agg #[.int .i64 p, .int .i64 q, .int .i32 0], .func (Fn.func 25) #[] #[]] w fun e w' => e = .returned (.agg #[.int .i64 X, .int .i64 Y, .int .i32 Z]) ∧ Below w.heap.size w w' := by
  have := turned_atan p q w p0 p1 q0 q1
  rw [show runA p q 30 = (X, Y, Z) from h] at this
  exact this
/-- what an angle within a quarter turn comes to, named -/
theorem sin_names (z : Int) : ∃ X Y Z, Hid (endS z = (X, Y, Z)) ∧ (-1518500249 ≤ X ∧ X ≤ 1518500249) ∧ (-1518500249 ≤ Y ∧ Y ≤ 1518500249) ∧ sn z = half Y 6 ∧ cs z = half X 6 := by
  have h := runS_xy z 30 (by omega)
  unfold sn cs Hid endS
  generalize runS z 30 = r at *
  exact ⟨r.1, r.2.1, r.2.2, rfl, h.1, h.2, rfl, rfl⟩

theorem half6_bd {y : Int} (h0 : -1518500249 ≤ y) (h1 : y ≤ 1518500249) : -23726567 ≤ half y 6 ∧ half y 6 ≤ 23726567 := by
  have a := half_err y 6 (by omega)
  have a' : 2 * (half y 6 * 64 - y) ≤ 64 ∧ -64 ≤ 2 * (half y 6 * 64 - y) := a
  omega

set_option maxRecDepth 20000 in
set_option maxHeartbeats 1000000 in
theorem sincos_front (b : Int) (w : World) (h0 : 0 ≤ b) (h1 : b < 1073741824) :
    Calls Try.prog 10 #[.int .u32 (b)] w fun e w' => e = .returned (.tuple #[.int .i64 (sn b), .int .i64 (cs b)]) ∧ Below w.heap.size w w' := by
  obtain ⟨X, Y, Z, HR, ⟨x0, x1⟩, ⟨y0, y1⟩, e1, e2⟩ := sin_names b
  rw [e1, e2]
  clear e1 e2
  obtain ⟨u0, u1⟩ := half6_bd y0 y1
  obtain ⟨v0, v1⟩ := half6_bd x0 x1
  go_enter Try.func10, Try.ntmps10
  go_wp2_with (go_at_call 19; refine (turned_sin_at HR.out _ (by omega) (by omega)).mono ?_; rintro e w1 ⟨rfl, b1⟩)
  go_quiet ((go_at_call 21; exact Calls.quiet_of (half_drew _ _ _ (by omega) (by omega))))
  go_wp2
  go_ret2
  exact ⟨rfl, below_drewN (b1.alloc b1.size _) _⟩

set_option maxRecDepth 20000 in
set_option maxHeartbeats 1000000 in
theorem sincos_left (b : Int) (w : World) (h0 : -1073741824 ≤ b) (h1 : b < 0) :
    Calls Try.prog 10 #[.int .u32 (b + 2147483648)] w fun e w' => e = .returned (.tuple #[.int .i64 (-(sn b)), .int .i64 (-(cs b))]) ∧ Below w.heap.size w w' := by
  obtain ⟨X, Y, Z, HR, ⟨x0, x1⟩, ⟨y0, y1⟩, e1, e2⟩ := sin_names b
  rw [e1, e2]
  clear e1 e2
  obtain ⟨u0, u1⟩ := half6_bd y0 y1
  obtain ⟨v0, v1⟩ := half6_bd x0 x1
  have k1 : IntKind.i32.wrap (b + 2147483648 + 2147483648) = b := by rw [IntKind.wrap_i32]; omega
  go_enter Try.func10, Try.ntmps10
  go_wp2_with (go_at_call 19; refine (turned_sin_at HR.out _ (by omega) (by omega)).mono ?_; rintro e w1 ⟨rfl, b1⟩)
  go_quiet ((go_at_call 21; exact Calls.quiet_of (half_drew _ _ _ (by omega) (by omega))))
  go_wp2
  go_ret2
  exact ⟨rfl, below_drewN (b1.alloc b1.size _) _⟩

set_option maxRecDepth 20000 in
set_option maxHeartbeats 1000000 in
theorem sincos_right (b : Int) (w : World) (h0 : 0 ≤ b) (h1 : b < 1073741824) :
    Calls Try.prog 10 #[.int .u32 (b + 2147483648)] w fun e w' => e = .returned (.tuple #[.int .i64 (-(sn b)), .int .i64 (-(cs b))]) ∧ Below w.heap.size w w' := by
  obtain ⟨X, Y, Z, HR, ⟨x0, x1⟩, ⟨y0, y1⟩, e1, e2⟩ := sin_names b
  rw [e1, e2]
  clear e1 e2
  obtain ⟨u0, u1⟩ := half6_bd y0 y1
  obtain ⟨v0, v1⟩ := half6_bd x0 x1
  have k1 : IntKind.i32.wrap (b + 2147483648) = b - 2147483648 := by rw [IntKind.wrap_i32]; omega
  have k2 : IntKind.u32.wrap (b + 2147483648 + 2147483648) = b := by rw [IntKind.wrap_u32]; omega
  go_enter Try.func10, Try.ntmps10
  go_wp2_with (go_at_call 19; refine (turned_sin_at HR.out _ (by omega) (by omega)).mono ?_; rintro e w1 ⟨rfl, b1⟩)
  go_quiet ((go_at_call 21; exact Calls.quiet_of (half_drew _ _ _ (by omega) (by omega))))
  go_wp2
  go_ret2
  exact ⟨rfl, below_drewN (b1.alloc b1.size _) _⟩

set_option maxRecDepth 20000 in
set_option maxHeartbeats 1000000 in
theorem sincos_back (b : Int) (w : World) (h0 : -1073741824 ≤ b) (h1 : b < 0) :
    Calls Try.prog 10 #[.int .u32 (b + 4294967296)] w fun e w' => e = .returned (.tuple #[.int .i64 (sn b), .int .i64 (cs b)]) ∧ Below w.heap.size w w' := by
  obtain ⟨X, Y, Z, HR, ⟨x0, x1⟩, ⟨y0, y1⟩, e1, e2⟩ := sin_names b
  rw [e1, e2]
  clear e1 e2
  obtain ⟨u0, u1⟩ := half6_bd y0 y1
  obtain ⟨v0, v1⟩ := half6_bd x0 x1
  have k1 : IntKind.i32.wrap (b + 4294967296) = b := by rw [IntKind.wrap_i32]; omega
  go_enter Try.func10, Try.ntmps10
  go_wp2_with (go_at_call 19; refine (turned_sin_at HR.out _ (by omega) (by omega)).mono ?_; rintro e w1 ⟨rfl, b1⟩)
  go_quiet ((go_at_call 21; exact Calls.quiet_of (half_drew _ _ _ (by omega) (by omega))))
  go_wp2
  go_ret2
  exact ⟨rfl, below_drewN (b1.alloc b1.size _) _⟩

/-- trig.SinCos -/
theorem sincos_any (a : Int) (w : World) (h0 : 0 ≤ a) (h1 : a ≤ 4294967295) :
    Calls Try.prog 10 #[.int .u32 a] w fun e w' => e = .returned (.tuple #[.int .i64 (sine a), .int .i64 (cosine a)]) ∧ Below w.heap.size w w' := by
  unfold sine cosine
  by_cases c1 : a < 1073741824
  · obtain ⟨e1, e2⟩ := ang1 h0 c1
    rw [e1, e2]
    simp only [Bool.false_eq_true, if_false]
    exact sincos_front a w h0 c1
  · by_cases c2 : a < 3221225472
    · obtain ⟨e1, e2⟩ := ang2 (by omega) c2
      rw [e1, e2]
      simp only [if_true]
      obtain ⟨b, hb⟩ : ∃ b, a = b + 2147483648 := ⟨a - 2147483648, by omega⟩
      subst hb
      rw [show b + 2147483648 - 2147483648 = b by omega]
      by_cases c3 : b < 0
      · exact sincos_left b w (by omega) c3
      · exact sincos_right b w (by omega) (by omega)
    · obtain ⟨e1, e2⟩ := ang3 (by omega) (by omega : a < 4294967296)
      rw [e1, e2]
      simp only [Bool.false_eq_true, if_false]
      obtain ⟨b, hb⟩ : ∃ b, a = b + 4294967296 := ⟨a - 4294967296, by omega⟩
      subst hb
      rw [show b + 4294967296 - 4294967296 = b by omega]
      exact sincos_back b w (by omega) (by omega)
end Go.Proofs.Ytliebglildaneaa
