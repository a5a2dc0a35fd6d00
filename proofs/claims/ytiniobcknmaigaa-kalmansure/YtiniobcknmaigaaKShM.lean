/-
  The chapter's example, in plain numbers, and by the contracts of New and Update.
-/
import Derived.Test.YtiniobcknmaigaaKNew
import Derived.Test.YtiniobcknmaigaaKUpd
namespace Go.Proofs.Ytiniobcknmaigaa
open Go.RowKit Go.Sort Qm

theorem ks_D : dia (ge [16777216]) 1 = [16777216] := by decide
theorem ks_Y : inY 1 [0] [16777216] 33554432 = 33554432 := by decide
theorem ks_S : inS 1 [16777216] [16777216] 16777216 = 33554432 := by decide
theorem ks_I : inF 1 [0] [16777216] [16777216] 33554432 16777216 = false := by decide
theorem ks_yes : (decide (mul 33554432 33554432 ≤ mul 1677721600 33554432) && decide ((0 : Int) < 33554432)) = true := by decide
theorem ks_m : mulB 33554432 33554432 = false := by decide
theorem ks_n : mulB 1677721600 33554432 = false := by decide
theorem ks_K : upK 1 [16777216] [16777216] 33554432 = [8388608] := by decide
theorem ks_X : upX [0] [8388608] 33554432 = [16777216] := by decide
set_option maxRecDepth 20000 in
theorem ks_P : upPP 1 [16777216] [16777216] [8388608] 16777216 = [8388608] := by decide
theorem ks_G : gd 1 [8388608] = [8388608] := by decide
set_option maxRecDepth 20000 in
theorem ks_E : upE 1 [0] [16777216] [16777216] [8388608] 33554432 16777216 = false := by decide
theorem ks_C : upC 1 [16777216] [16777216] = false := by decide
theorem ks_B : eaB (fun q => divB q 33554432) (upK0 1 [16777216] [16777216]) = false := by decide
theorem ks_F : coF 1 [0] [16777216] [16777216] 33554432 33554432 16777216 false = false := by
  unfold coF
  rw [ks_C, ks_B, ks_K, ks_E]; rfl
theorem sees_one {w : World} {b : Nat} {x : Int} (h : w.heap[b]? = some (.cells #[.int .i64 x] 41 (0, 0))) : Sees w (.slice (some ⟨b, 0, none⟩) 1 1) [x] := by
  refine ⟨_, 1, rfl, fun k hk => ⟨_, rfl, lt_of_block h, ?_⟩⟩
  have e : k = 0 := by have : k < 1 := hk; omega
  subst e
  simp [World.cell?, h, Addr.add, ge]
theorem in_one {x : Int} (h1 : -70368744177664 ≤ x) (h2 : x ≤ 70368744177663) : AllIn [x] := fun p => by
  rcases p with _ | p
  · exact ⟨h1, h2⟩
  · constructor <;> simp [ge]
theorem kshow_new (vx vv : Value) (w : World) (sx : Sees w vx [0]) (sv : Sees w vv [16777216]) :
    Calls Try.prog 11 #[vx, vv] w fun e b => ∃ va vb, e = .returned (.tuple #[.agg #[.int .i64 1, .int .i64 1, va, .int .i64 1, .int .i64 1, vb], .int .i64 0]) ∧ Sees b va [0] ∧ Sees b vb [16777216] ∧ Below w.heap.size w b := by
  have hv : ∀ i, i < [16777216].length → (0 : Int) ≤ ge [16777216] i := fun i hi => by
    have e : i = 0 := by have : i < 1 := hi; omega
    subst e
    decide
  have h := knew_ok vx vv [0] [16777216] (by decide) (by decide) (by decide) (in_one (by decide) (by decide)) (in_one (by decide) (by decide)) hv w sx sv
  refine h.mono ?_
  rintro e b ⟨va, vb, rfl, h1, h2, h3⟩
  exact ⟨va, vb, rfl, h1, ks_D ▸ h2, h3⟩
theorem kshow_up (vx vp vh : Value) (w : World) (sx : Sees w vx [0]) (sp : Sees w vp [16777216]) (sh : Sees w vh [16777216]) :
    Calls Try.prog 22 #[.agg #[.int .i64 1, .int .i64 1, vx, .int .i64 1, .int .i64 1, vp], .agg #[.int .i64 1, .int .i64 1, vh], .int .i64 33554432, .int .i64 16777216, .int .i64 1677721600] w fun e b =>
      ∃ va vb, e = .returned (.tuple #[.agg #[.int .i64 1, .int .i64 1, va, .int .i64 1, .int .i64 1, vb], .bool true, .bool false, .int .i64 0]) ∧ Sees b va [16777216] ∧ Sees b vb [8388608] ∧ Below w.heap.size w b := by
  have h := kupdate_any 1 (by decide) (by decide) vx vp vh [0] [16777216] [16777216] rfl rfl rfl 33554432 16777216 1677721600 (by decide) w sx sp sh (by rw [ks_Y, ks_S]; exact ks_yes)
  rw [ks_I, ks_Y, ks_S, ks_m, ks_n, ks_K, ks_X, ks_P, ks_G] at h
  refine h.mono ?_
  rintro e b ⟨va, vb, rfl, h1, h2, _, _, h3⟩
  exact ⟨va, vb, by rw [show (false || false || false) = false from rfl, ks_F]; rfl, h1, h2, h3⟩
end Go.Proofs.Ytiniobcknmaigaa
