/-
  One turn, by its closure: of trig.SinCos's rule and of trig.Atan's.
-/
import Derived.Test.YtliebglildaneaaTurns
namespace Go.Proofs.Ytliebglildaneaa
open Go.RowKit Qm Tm

/-- the arrow's block, the rule's, and the result's -/
structure AtIs (w : World) (b f : Nat) (x y z : Int) : Prop where
  x : w.cell? ⟨b, 0, none⟩ = some (.int .i64 x)
  y : w.cell? ⟨b, 1, none⟩ = some (.int .i64 y)
  z : w.cell? ⟨b, 2, none⟩ = some (.int .i32 z)
  fx : w.frozen? ⟨b, 0, none⟩ = false
  fy : w.frozen? ⟨b, 1, none⟩ = false
  fz : w.frozen? ⟨b, 2, none⟩ = false
  up : w.cell? ⟨b + 1, 0, none⟩ = some (.func (Fn.func f) #[] #[])
  rx : w.cell? ⟨b + 1 + 1, 0, none⟩ = some (.int .i64 0)
  ry : w.cell? ⟨b + 1 + 1, 1, none⟩ = some (.int .i64 0)
  rz : w.cell? ⟨b + 1 + 1, 2, none⟩ = some (.int .i32 0)
  gx : w.frozen? ⟨b + 1 + 1, 0, none⟩ = false
  gy : w.frozen? ⟨b + 1 + 1, 1, none⟩ = false
  gz : w.frozen? ⟨b + 1 + 1, 2, none⟩ = false
  sz : b + 3 ≤ w.heap.size
theorem AtIs.below {w w' : World} {b f : Nat} {x y z : Int} (h : AtIs w b f x y z) (bel : Below w.heap.size w w') : AtIs w' b f x y z := by
  have hs := h.sz
  refine ⟨(bel.cell (by show b < _; omega)).trans h.x, (bel.cell (by show b < _; omega)).trans h.y, (bel.cell (by show b < _; omega)).trans h.z, (bel.frozen (by show b < _; omega)).trans h.fx, (bel.frozen (by show b < _; omega)).trans h.fy, (bel.frozen (by show b < _; omega)).trans h.fz, (bel.cell (by show b + 1 < _; omega)).trans h.up,
    (bel.cell (by show b + 2 < _; omega)).trans h.rx, (bel.cell (by show b + 2 < _; omega)).trans h.ry, (bel.cell (by show b + 2 < _; omega)).trans h.rz, (bel.frozen (by show b + 2 < _; omega)).trans h.gx, (bel.frozen (by show b + 2 < _; omega)).trans h.gy, (bel.frozen (by show b + 2 < _; omega)).trans h.gz, ?_⟩
  exact Nat.le_trans hs bel.size
theorem AtIs.drew {w : World} {b f : Nat} {x y z : Int} (h : AtIs w b f x y z) : AtIs w.drew b f x y z := h.below ((Below.refl _ _).drew)
theorem AtIs.set {w : World} {b f : Nat} {x y z : Int} (h : AtIs w b f x y z) (X Y Z : Int) : AtIs (((w.setCell ⟨b, 0, none⟩ (.int .i64 X)).setCell ⟨b, 1, none⟩ (.int .i64 Y)).setCell ⟨b, 2, none⟩ (.int .i32 Z)) b f X Y Z := by
  obtain ⟨c0, c1, c2, f0, f1, f2, cu, r0, r1, r2, g0, g1, g2, cs⟩ := h
  constructor <;> simp [go_sem, *]

set_option maxHeartbeats 400000 in
theorem up_sin (x y z : Int) (w : World) : Calls Try.prog 20 #[.agg #[.int .i64 x, .int .i64 y, .int .i32 z]] w fun e w' => e = .returned (.bool (decide (0 ≤ z))) ∧ Below w.heap.size w w' := by
  go_enter Try.func20, Try.ntmps20
  go_wp2
  go_ret
  exact ⟨rfl, (Below.refl _ _).alloc (Nat.le_refl _) _⟩

set_option maxHeartbeats 400000 in
theorem up_atan (x y z : Int) (w : World) : Calls Try.prog 25 #[.agg #[.int .i64 x, .int .i64 y, .int .i32 z]] w fun e w' => e = .returned (.bool (decide (y < 0))) ∧ Below w.heap.size w w' := by
  go_enter Try.func25, Try.ntmps25
  go_wp2
  go_ret
  exact ⟨rfl, (Below.refl _ _).alloc (Nat.le_refl _) _⟩

theorem up_sin_at (X Y Z : Int) (w : World) (b : Nat) (x y z : Int) (h : AtIs w b 20 x y z) : Calls Try.prog 20 #[.agg #[.int .i64 X, .int .i64 Y, .int .i32 Z]] w fun e w' => e = .returned (.bool (decide (0 ≤ Z))) ∧ AtIs w' b 20 x y z ∧ Below w.heap.size w w' := by
  refine (up_sin X Y Z w).mono ?_
  rintro e w' ⟨rfl, hb⟩
  exact ⟨rfl, h.below hb, hb⟩
theorem up_atan_at (X Y Z : Int) (w : World) (b : Nat) (x y z : Int) (h : AtIs w b 25 x y z) : Calls Try.prog 25 #[.agg #[.int .i64 X, .int .i64 Y, .int .i32 Z]] w fun e w' => e = .returned (.bool (decide (Y < 0))) ∧ AtIs w' b 25 x y z ∧ Below w.heap.size w w' := by
  refine (up_atan X Y Z w).mono ?_
  rintro e w' ⟨rfl, hb⟩
  exact ⟨rfl, h.below hb, hb⟩

theorem shr_bd {x : Int} (k : Nat) (x0 : -2305843009213693952 ≤ x) (x1 : x ≤ 2305843009213693952) : -2305843009213693953 ≤ x / 2 ^ k ∧ x / 2 ^ k ≤ 2305843009213693952 := by
  have pp : (1 : Int) ≤ 2 ^ k := by have : (0 : Int) < 2 ^ k := Int.pow_pos (by omega); omega
  have a := div_size pp x0 x1
  have b : (2305843009213693952 : Int) / 2 ^ k ≤ 2305843009213693952 := Int.ediv_le_self _ (by omega)
  omega

/-! ### one turn, by its closure -/
theorem step_done {w w1 : World} {b f : Nat} {x y z : Int} (h : AtIs w1 b f x y z) (bel : Below w.drew.heap.size w.drew w1) (hs : b + 3 ≤ w.heap.size) (X Y Z : Int) :
    AtIs (((w1.setCell ⟨b, 0, none⟩ (.int .i64 X)).setCell ⟨b, 1, none⟩ (.int .i64 Y)).setCell ⟨b, 2, none⟩ (.int .i32 Z)) b f X Y Z ∧ Below b w (((w1.setCell ⟨b, 0, none⟩ (.int .i64 X)).setCell ⟨b, 1, none⟩ (.int .i64 Y)).setCell ⟨b, 2, none⟩ (.int .i32 Z)) := by
  have b0 : Below b w w1 := ((Below.refl b w).drew).trans (bel.mono (by show b ≤ w.heap.size; omega))
  exact ⟨h.set X Y Z, ((b0.setCell (p := ⟨b, 0, none⟩) (Nat.le_refl _) _).setCell (p := ⟨b, 1, none⟩) (Nat.le_refl _) _).setCell (p := ⟨b, 2, none⟩) (Nat.le_refl _) _⟩

set_option maxHeartbeats 1000000 in
theorem step_sin (k : Nat) (x y z : Int) (b : Nat) (w : World) (hk : k < 30) (ha : AtIs w b 20 x y z)
    (x0 : -2305843009213693952 ≤ x) (x1 : x ≤ 2305843009213693952) (y0 : -2305843009213693952 ≤ y) (y1 : y ≤ 2305843009213693952) (z0 : -1191650197 ≤ z) (z1 : z ≤ 1191650197) :
    Calls Try.prog 28 #[.int .i64 k, .int .i32 (T k), .pointer (some ⟨b, 0, none⟩), .pointer (some ⟨b + 1, 0, none⟩)] w fun e w' => e = .returned (.tuple #[]) ∧ AtIs w' b 20 (stS k (x, y, z)).1 (stS k (x, y, z)).2.1 (stS k (x, y, z)).2.2 ∧ Below b w w' := by
  have HA : Hid (AtIs w b 20 x y z) := ha
  obtain ⟨t0, t1⟩ := T_bd ⟨k, hk⟩
  simp only at t0 t1
  obtain ⟨p0, p1⟩ := shr_bd k x0 x1
  obtain ⟨q0, q1⟩ := shr_bd k y0 y1
  obtain ⟨c0, c1, c2, f0, f1, f2, cu, r0, r1, r2, g0, g1, g2, cs⟩ := ha
  clear r0 r1 r2 g0 g1 g2
  have h1 : (k : Int) < 30 := by omega
  generalize ht : T k = t at *
  have HT : Hid (T k = t) := ht
  clear ht
  by_cases hz : 0 ≤ z
  · have e : stS k (x, y, z) = (x - y / 2 ^ k, y + x / 2 ^ k, z - t) := by unfold stS; rw [if_pos hz, HT.out]
    rw [e]
    clear e
    go_enter Try.func28, Try.ntmps28
    go_wp2
    go_region
    all_goals go_wp2_with fail
    all_goals refine (up_sin_at _ _ _ _ b x y z (by exact AtIs.drew HA.out)).mono ?_
    all_goals rintro e w1 ⟨rfl, hat, hb⟩
    all_goals have HAT : Hid (AtIs w1 b 20 x y z) := hat
    all_goals obtain ⟨d0, d1, d2, g0, g1, g2, du, -, -, -, -, -, -, ds⟩ := hat
    all_goals go_wp2
    all_goals go_end0
    all_goals exact ⟨rfl, step_done HAT.out hb cs _ _ _⟩
  · have e : stS k (x, y, z) = (x + y / 2 ^ k, y - x / 2 ^ k, z + t) := by unfold stS; rw [if_neg hz, HT.out]
    rw [e]
    clear e
    go_enter Try.func28, Try.ntmps28
    go_wp2
    go_region
    all_goals go_wp2_with fail
    all_goals refine (up_sin_at _ _ _ _ b x y z (by exact AtIs.drew HA.out)).mono ?_
    all_goals rintro e w1 ⟨rfl, hat, hb⟩
    all_goals have HAT : Hid (AtIs w1 b 20 x y z) := hat
    all_goals obtain ⟨d0, d1, d2, g0, g1, g2, du, -, -, -, -, -, -, ds⟩ := hat
    all_goals go_wp2
    all_goals go_end0
    all_goals exact ⟨rfl, step_done HAT.out hb cs _ _ _⟩

set_option maxHeartbeats 1000000 in
theorem step_atan (k : Nat) (x y z : Int) (b : Nat) (w : World) (hk : k < 30) (ha : AtIs w b 25 x y z)
    (x0 : -2305843009213693952 ≤ x) (x1 : x ≤ 2305843009213693952) (y0 : -2305843009213693952 ≤ y) (y1 : y ≤ 2305843009213693952) (z0 : -1191650197 ≤ z) (z1 : z ≤ 1191650197) :
    Calls Try.prog 28 #[.int .i64 k, .int .i32 (T k), .pointer (some ⟨b, 0, none⟩), .pointer (some ⟨b + 1, 0, none⟩)] w fun e w' => e = .returned (.tuple #[]) ∧ AtIs w' b 25 (stA k (x, y, z)).1 (stA k (x, y, z)).2.1 (stA k (x, y, z)).2.2 ∧ Below b w w' := by
  have HA : Hid (AtIs w b 25 x y z) := ha
  obtain ⟨t0, t1⟩ := T_bd ⟨k, hk⟩
  simp only at t0 t1
  obtain ⟨p0, p1⟩ := shr_bd k x0 x1
  obtain ⟨q0, q1⟩ := shr_bd k y0 y1
  obtain ⟨c0, c1, c2, f0, f1, f2, cu, r0, r1, r2, g0, g1, g2, cs⟩ := ha
  clear r0 r1 r2 g0 g1 g2
  have h1 : (k : Int) < 30 := by omega
  generalize ht : T k = t at *
  have HT : Hid (T k = t) := ht
  clear ht
  by_cases hz : y < 0
  · have e : stA k (x, y, z) = (x - y / 2 ^ k, y + x / 2 ^ k, z - t) := by unfold stA; rw [if_pos hz, HT.out]
    rw [e]
    clear e
    go_enter Try.func28, Try.ntmps28
    go_wp2
    go_region
    all_goals go_wp2_with fail
    all_goals refine (up_atan_at _ _ _ _ b x y z (by exact AtIs.drew HA.out)).mono ?_
    all_goals rintro e w1 ⟨rfl, hat, hb⟩
    all_goals have HAT : Hid (AtIs w1 b 25 x y z) := hat
    all_goals obtain ⟨d0, d1, d2, g0, g1, g2, du, -, -, -, -, -, -, ds⟩ := hat
    all_goals go_wp2
    all_goals go_end0
    all_goals exact ⟨rfl, step_done HAT.out hb cs _ _ _⟩
  · have e : stA k (x, y, z) = (x + y / 2 ^ k, y - x / 2 ^ k, z + t) := by unfold stA; rw [if_neg hz, HT.out]
    rw [e]
    clear e
    go_enter Try.func28, Try.ntmps28
    go_wp2
    go_region
    all_goals go_wp2_with fail
    all_goals refine (up_atan_at _ _ _ _ b x y z (by exact AtIs.drew HA.out)).mono ?_
    all_goals rintro e w1 ⟨rfl, hat, hb⟩
    all_goals have HAT : Hid (AtIs w1 b 25 x y z) := hat
    all_goals obtain ⟨d0, d1, d2, g0, g1, g2, du, -, -, -, -, -, -, ds⟩ := hat
    all_goals go_wp2
    all_goals go_end0
    all_goals exact ⟨rfl, step_done HAT.out hb cs _ _ _⟩
end Go.Proofs.Ytliebglildaneaa
