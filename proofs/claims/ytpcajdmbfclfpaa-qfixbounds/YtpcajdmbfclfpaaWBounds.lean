/-
  The walk of QfixBounds: it returns true.
-/
import Derived.Test.YtpcajdmbfclfpaaShown
import Derived.Test.YtpcajdmbfclfpaaSqrt
import Derived.Test.YtpcajdmbfclfpaaOf
import Derived.Test.YtpcajdmbfclfpaaMathG
import Derived.OpenShut
namespace Go.Proofs.Ytpcajdmbfclfpaa
open Go.RowKit Qm

theorem inB_of {a : Int} (h : -70368744177664 ≤ a ∧ a ≤ 70368744177663) : inB a = true := by unfold inB; rw [ob_in h.1 h.2]; rfl

set_option maxHeartbeats 2000000 in
theorem qfixBounds_walk (a0 : Int) (a1 : Int) (a2 : Int) (_w0 : (Lit.int .i64 a0).wf = true) (_w1 : (Lit.int .i64 a1).wf = true) (_w2 : (Lit.int .i64 a2).wf = true) (w : World) :
    Calls Try.prog 5 #[.int .i64 a0, .int .i64 a1, .int .i64 a2] w fun e w' => e = .returned (.bool true) ∧ Below w.heap.size w w' := by
  clear _w0 _w1 _w2
  have i0 : inB (add a0 a1) = true := inB_of (cl_bd _)
  have i1 : inB (sub a0 a1) = true := inB_of (cl_bd _)
  have i2 : inB (mul a0 a1) = true := inB_of (cl_bd _)
  have i3 : inB (div a0 a1) = true := inB_of (div_bd _ _)
  have i4 : inB (sqrt a0) = true := inB_of (by have := sqrt_bd a0; omega)
  have i5 : inB (ofq a2) = true := inB_of (cl_bd _)
  go_enter Try.func5, Try.ntmps5
  go_wp2_with fail
  refine (shown_any _).mono ?_
  rintro e w1 ⟨rfl, b1⟩
  have B1 : Hid (Below _ _ w1) := b1
  clear b1
  go_wp2_with (first | (go_at_call 13; refine (add_any _ _ _).mono ?_; rintro e w' ⟨rfl, hw⟩; rw [hw]) | (go_at_call 15; refine (sub_any _ _ _).mono ?_; rintro e w' ⟨rfl, hw⟩; rw [hw]))
  refine (mul_any _ _ _).mono ?_
  rintro e w2 ⟨rfl, b2⟩
  have k0 := b2.cell (p := ⟨w1.heap.size, 0, none⟩) (by simp)
  have k1 := b2.cell (p := ⟨w1.heap.size, 1, none⟩) (by simp)
  have k2 := b2.cell (p := ⟨w1.heap.size, 2, none⟩) (by simp)
  have k3 := b2.cell (p := ⟨w1.heap.size, 3, none⟩) (by simp)
  have k4 := b2.cell (p := ⟨w1.heap.size, 4, none⟩) (by simp)
  have k5 := b2.cell (p := ⟨w1.heap.size, 5, none⟩) (by simp)
  have f2 := b2.frozen (p := ⟨w1.heap.size, 2, none⟩) (by simp)
  have f3 := b2.frozen (p := ⟨w1.heap.size, 3, none⟩) (by simp)
  have f4 := b2.frozen (p := ⟨w1.heap.size, 4, none⟩) (by simp)
  have f5 := b2.frozen (p := ⟨w1.heap.size, 5, none⟩) (by simp)
  have z2 := b2.size
  simp at k0 k1 k2 k3 k4 k5 f2 f3 f4 f5 z2
  have B2 : Hid (Below _ _ w2) := b2
  clear b2
  go_wp2_with fail
  refine (div_any _ _ _).mono ?_
  rintro e w3 ⟨rfl, b3⟩
  have j0 : w3.cell? ⟨w1.heap.size, 0, none⟩ = some (.int .i64 (add a0 a1)) := by rw [b3.cell (show w1.heap.size < _ by simp; omega)]; go_simp
  have j1 : w3.cell? ⟨w1.heap.size, 1, none⟩ = some (.int .i64 (sub a0 a1)) := by rw [b3.cell (show w1.heap.size < _ by simp; omega)]; go_simp
  have j2 : w3.cell? ⟨w1.heap.size, 2, none⟩ = some (.int .i64 (mul a0 a1)) := by rw [b3.cell (show w1.heap.size < _ by simp; omega)]; go_simp
  have j3 : w3.cell? ⟨w1.heap.size, 3, none⟩ = some (.int .i64 (0)) := by rw [b3.cell (show w1.heap.size < _ by simp; omega)]; go_simp
  have j4 : w3.cell? ⟨w1.heap.size, 4, none⟩ = some (.int .i64 (0)) := by rw [b3.cell (show w1.heap.size < _ by simp; omega)]; go_simp
  have j5 : w3.cell? ⟨w1.heap.size, 5, none⟩ = some (.int .i64 (0)) := by rw [b3.cell (show w1.heap.size < _ by simp; omega)]; go_simp
  have g3 : w3.frozen? ⟨w1.heap.size, 3, none⟩ = false := by rw [b3.frozen (show w1.heap.size < _ by simp; omega)]; go_simp
  have g4 : w3.frozen? ⟨w1.heap.size, 4, none⟩ = false := by rw [b3.frozen (show w1.heap.size < _ by simp; omega)]; go_simp
  have g5 : w3.frozen? ⟨w1.heap.size, 5, none⟩ = false := by rw [b3.frozen (show w1.heap.size < _ by simp; omega)]; go_simp
  have z3 := b3.size
  simp at z3
  have B3 : Hid (Below _ _ w3) := b3
  clear b3 k0 k1 k2 k3 k4 k5 f2 f3 f4 f5
  go_wp2_with (first | (go_at_call 21; refine (sqrt_any _ _).mono ?_; rintro e w' ⟨rfl, hw⟩; rw [hw]) | (go_at_call 25; refine (of_any _ _).mono ?_; rintro e w' ⟨rfl, hw⟩; rw [hw]))
  go_loop [9] (fun i => ∃ k : Nat, k ≤ 6 ∧ i = .int .i64 (k : Int)) (fun i => (6 - intOf i).toNat)
  case atStart => exact ⟨0, by omega, rfl⟩
  case round =>
    obtain ⟨k, hk, rfl⟩ := hrel
    by_cases lt : k < 6
    · rcases (by omega : k = 0 ∨ k = 1 ∨ k = 2 ∨ k = 3 ∨ k = 4 ∨ k = 5) with rfl | rfl | rfl | rfl | rfl | rfl
      all_goals
        go_wp2_with (go_at_call 31; refine (rin_any _ _).mono ?_; rintro e w' ⟨rfl, hw⟩; rw [hw])
        go_round
        case rel => first | exact ⟨1, by omega, rfl⟩ | exact ⟨2, by omega, rfl⟩ | exact ⟨3, by omega, rfl⟩ | exact ⟨4, by omega, rfl⟩ | exact ⟨5, by omega, rfl⟩ | exact ⟨6, by omega, rfl⟩
        case measure => simp [intOf]
    · obtain rfl : k = 6 := by omega
      go_wp2
      go_ret
      refine ⟨rfl, ?_⟩
      have c1 : Below w.heap.size w w1 := B1.out
      have c2 : Below w.heap.size w w2 := (c1.alloc c1.size _).trans (B2.out.mono (by simp; have := c1.size; omega))
      have c3 : Below w.heap.size w w3 := (c2.setCell c1.size _).trans (B3.out.mono (by simp; have := c2.size; omega))
      exact ((c3.setCell c1.size _).setCell c1.size _).setCell c1.size _
end Go.Proofs.Ytpcajdmbfclfpaa
