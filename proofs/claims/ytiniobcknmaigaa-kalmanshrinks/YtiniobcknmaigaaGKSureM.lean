/-
  A number that does not vary, in plain numbers, and by the contracts of New and Update.
-/
import Derived.Test.YtiniobcknmaigaaG35
import Derived.Test.YtiniobcknmaigaaG36
namespace Go.Proofs.Ytiniobcknmaigaa
open Go.RowKit Go.Sort Qm

namespace Qm
theorem mul_zeroL {a : Int} (h1 : -70368744177664 ≤ a) (h2 : a ≤ 70368744177663) : mul 0 a = 0 := by rw [mul_comm']; exact (mul_none h1 h2).1
theorem div_zeroL {s : Int} (h1 : 1 ≤ s) (h2 : s ≤ 70368744177663) : div 0 s = 0 := by
  have hc : cl s = s := by unfold cl; rw [if_neg (by omega), if_neg (by omega)]
  have h0 : ¬ cl s = 0 := by omega
  rw [(div_nz h0).1]
  have e1 : cl 0 = 0 := by decide
  have e2 : ab 0 = 0 := by decide
  have e3 : 0 < ab (cl s) := by rw [hc]; unfold ab; rw [if_neg (by omega)]; omega
  unfold divv dw dm
  rw [e1, e2, Int.zero_mul, Int.zero_ediv, Int.zero_emod, near_stay (by omega)]
  cases ng 0 s <;> decide
theorem sure_D : dia (ge [0, 16777216]) 2 = [0, 0, 0, 16777216] := by decide
theorem sure_mid : ge (midL 1 2 [16777216, 0] [0, 0, 0, 16777216]) 0 = 0 := by decide
theorem sure_S {r : Int} (h1 : 16777216 ≤ r) (h2 : r ≤ 1099511627776) : inS 2 [0, 0, 0, 16777216] [16777216, 0] r = r := by
  unfold inS
  rw [sure_mid]
  exact (add_none' (by omega) (by omega)).1
theorem sure_K0 : upK0 2 [0, 0, 0, 16777216] [16777216, 0] = [0, 0] := by decide
theorem sure_K {r : Int} (h1 : 16777216 ≤ r) (h2 : r ≤ 1099511627776) : upK 2 [0, 0, 0, 16777216] [16777216, 0] r = [0, 0] := by
  unfold upK
  rw [sure_K0]
  show [div 0 r, div 0 r] = [0, 0]
  rw [div_zeroL (by omega) (by omega)]
theorem sure_scl {y : Int} (h1 : -70368744177664 ≤ y) (h2 : y ≤ 70368744177663) : scl [0, 0] y = [0, 0] := by
  show [mul 0 y, mul 0 y] = [0, 0]
  rw [mul_zeroL h1 h2]
theorem sure_X {x y : Int} (x1 : -1099511627776 ≤ x) (x2 : x ≤ 1099511627776) (h1 : -70368744177664 ≤ y) (h2 : y ≤ 70368744177663) : upX [x, 5] [0, 0] y = [x, 5] := by
  unfold upX
  rw [sure_scl h1 h2]
  show [add x 0, add 5 0] = [x, 5]
  rw [(add_none (a := x) (by omega) (by omega)).1, (add_none (a := 5) (by omega) (by omega)).1]
set_option maxRecDepth 20000 in
theorem sure_P1 : upP1 2 [0, 0, 0, 16777216] [16777216, 0] [0, 0] = [0, 0, 0, 16777216] := by decide
set_option maxRecDepth 20000 in
theorem sure_P2 : prd 2 1 2 [0, 0] (trn 2 1 [0, 0]) = [0, 0, 0, 0] := by decide
theorem sure_G : gd 2 (pai add [0, 0, 0, 16777216] [0, 0, 0, 0]) = [0, 0, 0, 16777216] := by decide
theorem sure_P {r : Int} (h1 : 16777216 ≤ r) (h2 : r ≤ 1099511627776) : gd 2 (upPP 2 [0, 0, 0, 16777216] [16777216, 0] [0, 0] r) = [0, 0, 0, 16777216] := by
  unfold upPP upP2
  rw [sure_P1, sure_scl (by omega) (by omega), sure_P2, sure_G]
theorem inY_in (n : Nat) (xs hs : List Int) (z : Int) : -70368744177664 ≤ inY n xs hs z ∧ inY n xs hs z ≤ 70368744177663 := ⟨cl_lo _, cl_hi _⟩
end Qm
theorem in_two {x y : Int} (h1 : -70368744177664 ≤ x) (h2 : x ≤ 70368744177663) (h3 : -70368744177664 ≤ y) (h4 : y ≤ 70368744177663) : AllIn [x, y] := fun p => by
  rcases p with _ | _ | p
  · exact ⟨h1, h2⟩
  · exact ⟨h3, h4⟩
  · constructor <;> simp [ge]
theorem sees_two {w : World} {b : Nat} {x y : Int} (h : w.heap[b]? = some (.cells #[.int .i64 x, .int .i64 y] 41 (0, 0))) : Sees w (.slice (some ⟨b, 0, none⟩) 2 2) [x, y] := by
  refine ⟨_, 2, rfl, fun k hk => ⟨_, rfl, lt_of_block h, ?_⟩⟩
  rcases (by have : k < 2 := hk; omega : k = 0 ∨ k = 1) with rfl | rfl
  · simp [World.cell?, h, Addr.add, ge]
  · simp [World.cell?, h, Addr.add, ge]
theorem sure_new (vx vv : Value) (x : Int) (x1 : -1099511627776 ≤ x) (x2 : x ≤ 1099511627776) (w : World) (sx : Sees w vx [x, 5]) (sv : Sees w vv [0, 16777216]) :
    Calls Try.prog 11 #[vx, vv] w fun e b => ∃ va vb, e = .returned (.tuple #[.agg #[.int .i64 2, .int .i64 1, va, .int .i64 2, .int .i64 2, vb], .int .i64 0]) ∧ Sees b va [x, 5] ∧ Sees b vb [0, 0, 0, 16777216] ∧ Below w.heap.size w b := by
  have hv : ∀ i, i < [0, 16777216].length → (0 : Int) ≤ ge [0, 16777216] i := fun i hi => by
    rcases (by have : i < 2 := hi; omega : i = 0 ∨ i = 1) with rfl | rfl
    · decide
    · decide
  have h := knew_ok vx vv [x, 5] [0, 16777216] (by decide) (by decide) rfl (in_two (by omega) (by omega) (by omega) (by omega)) (in_two (by omega) (by omega) (by omega) (by omega)) hv w sx sv
  refine h.mono ?_
  rintro e b ⟨va, vb, rfl, h1, h2, h3⟩
  exact ⟨va, vb, rfl, h1, sure_D ▸ h2, h3⟩
theorem sure_up (vx vp vh : Value) (x z r : Int) (x1 : -1099511627776 ≤ x) (x2 : x ≤ 1099511627776) (r1 : 16777216 ≤ r) (r2 : r ≤ 1099511627776) (w : World) (sx : Sees w vx [x, 5]) (sp : Sees w vp [0, 0, 0, 16777216]) (sh : Sees w vh [16777216, 0]) :
    Calls Try.prog 22 #[.agg #[.int .i64 2, .int .i64 1, vx, .int .i64 2, .int .i64 2, vp], .agg #[.int .i64 1, .int .i64 2, vh], .int .i64 z, .int .i64 r, .int .i64 16777216] w fun e b =>
      ∃ va vb tk od, e = .returned (.tuple #[.agg #[.int .i64 2, .int .i64 1, va, .int .i64 2, .int .i64 2, vb], .bool tk, .bool od, .int .i64 0]) ∧ Sees b va [x, 5] ∧ Sees b vb [0, 0, 0, 16777216] ∧ Below w.heap.size w b := by
  cases hb : (decide (mul (inY 2 [x, 5] [16777216, 0] z) (inY 2 [x, 5] [16777216, 0] z) ≤ mul 16777216 (inS 2 [0, 0, 0, 16777216] [16777216, 0] r)) && decide (0 < inS 2 [0, 0, 0, 16777216] [16777216, 0] r)) with
  | false =>
    have h := kupdate_no 2 (by decide) (by decide) vx vp vh [x, 5] [0, 0, 0, 16777216] [16777216, 0] rfl rfl rfl z r 16777216 (by omega) w sx sp sh hb
    refine h.mono ?_
    rintro e b ⟨va, vb, rfl, h1, h2, _, _, h3⟩
    exact ⟨va, vb, _, _, rfl, h1, h2, h3⟩
  | true =>
    have h := kupdate_any 2 (by decide) (by decide) vx vp vh [x, 5] [0, 0, 0, 16777216] [16777216, 0] rfl rfl rfl z r 16777216 (by omega) w sx sp sh hb
    have hy := inY_in 2 [x, 5] [16777216, 0] z
    rw [sure_S r1 r2, sure_K r1 r2, sure_P r1 r2, sure_X x1 x2 hy.1 hy.2] at h
    refine h.mono ?_
    rintro e b ⟨va, vb, rfl, h1, h2, _, _, h3⟩
    exact ⟨va, vb, _, _, rfl, h1, h2, h3⟩
end Go.Proofs.Ytiniobcknmaigaa
