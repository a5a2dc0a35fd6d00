/-
  The walk of TrigTurns: it returns true.
-/
import Derived.Test.YtliebglildaneaaTShown
import Derived.OpenShut
namespace Go.Proofs.Ytliebglildaneaa
open Go.RowKit Qm Tm

namespace Tm
theorem zTabs : ∀ n : Fin 30, zT n.val + T n.val = zT (n.val + 1) := by decide +kernel
theorem zT_pos : ∀ n : Fin 31, 0 ≤ zT n.val := by decide +kernel
theorem Tfalls : ∀ n : Fin 29, T (n.val + 1) < T n.val := by decide +kernel
end Tm

set_option maxRecDepth 20000 in
set_option maxHeartbeats 1000000 in
theorem trigTurns_walk (a0 : Int) (_w0 : (Lit.int .i64 a0).wf = true) (w : World) :
    Calls Try.prog 7 #[.int .i64 a0] w fun e w' => e = .returned (.bool true) ∧ Below w.heap.size w w' := by
  have b0 : Below w.heap.size w w := Below.refl _ _
  go_enter Try.func7, Try.ntmps7
  go_wp2_with (first | (go_at_call 9; refine (shown_from w _ (by assumption)).mono ?_; rintro e wx ⟨rfl, bx⟩) | (go_at_call 10; refine (sincos_from w _ _ (by omega) (by omega) (by assumption)).mono ?_; rintro e wx ⟨rfl, bx⟩) | (go_at_call 12; refine (atan_from w _ _ _ (by assumption)).mono ?_; rintro e wx ⟨rfl, bx⟩) | (go_at_call 16; refine (wrap_from w _ _ _ (by assumption)).mono ?_; rintro e wx ⟨rfl, bx⟩) | (go_at_call 14; refine (turn_from w _ _ (by assumption)).mono ?_; rintro e wx ⟨rfl, bx⟩))
  go_loopw [4, 5] (fun s i wr => ∃ j : Nat, j ≤ 30 ∧ i = .int .i64 (j : Int) ∧ s = .int .i64 (zT j) ∧ Below w.heap.size w wr) (fun _ i _ => (30 - intOf i).toNat)
  case atStart => exact ⟨0, by omega, rfl, rfl, by assumption⟩
  case round =>
    obtain ⟨j, hj, rfl, rfl, hbel⟩ := hrel
    clear b0 bx
    by_cases lt : j < 30
    · have lt2 : (j : Int) < 30 := by omega
      have tj := turnv_in lt
      obtain ⟨t0, t1⟩ := T_bd ⟨j, lt⟩
      have z1 := zTabs ⟨j, lt⟩
      have z2 := (bdTop ⟨j, by omega⟩).2
      have z3 := (bdTop ⟨j + 1, by omega⟩).2
      simp only at t0 t1 z1 z2 z3
      obtain ⟨t, ht⟩ : ∃ t, T j = t := ⟨_, rfl⟩
      rw [ht] at t0 t1 z1 tj
      have HT : Hid (T j = t) := ht
      clear ht
      obtain ⟨z, hz⟩ : ∃ z, zT j = z := ⟨_, rfl⟩
      obtain ⟨y, hy⟩ : ∃ y, zT (j + 1) = y := ⟨_, rfl⟩
      rw [hz] at z1 z2
      rw [hy] at z1 z3
      have y0 := (zT_pos ⟨j, by omega⟩)
      simp only at y0
      rw [hz] at y0
      have Z1 : Hid (z + t = y) := z1
      have HY : Hid (zT (j + 1) = y) := hy
      clear z1 hy
      by_cases j0 : j = 0
      · subst j0
        have tj' : turnv 0 = t := tj
        go_wp2_with (first | (go_at_call 9; refine (shown_from w _ (by assumption)).mono ?_; rintro e wx ⟨rfl, bx⟩) | (go_at_call 10; refine (sincos_from w _ _ (by omega) (by omega) (by assumption)).mono ?_; rintro e wx ⟨rfl, bx⟩) | (go_at_call 12; refine (atan_from w _ _ _ (by assumption)).mono ?_; rintro e wx ⟨rfl, bx⟩) | (go_at_call 16; refine (wrap_from w _ _ _ (by assumption)).mono ?_; rintro e wx ⟨rfl, bx⟩) | (go_at_call 14; refine (turn_from w _ _ (by assumption)).mono ?_; rintro e wx ⟨rfl, bx⟩))
        go_round
        case rel => exact ⟨0 + 1, by omega, by go_num, by rw [HY.out, ← Z1.out], by assumption⟩
        case measure => simp [intOf]
      · have tf := Tfalls ⟨j - 1, by omega⟩
        simp only at tf
        rw [show j - 1 + 1 = j by omega, HT.out] at tf
        have tp : turnv ((j : Int) - 1) = T (j - 1) := by
          rw [show (j : Int) - 1 = ((j - 1 : Nat) : Int) by omega]
          exact turnv_in (by omega)
        obtain ⟨s, hs⟩ : ∃ s, T (j - 1) = s := ⟨_, rfl⟩
        rw [hs] at tp tf
        clear hs
        have j1 : 0 < (j : Int) := by omega
        go_wp2_with (first | (go_at_call 9; refine (shown_from w _ (by assumption)).mono ?_; rintro e wx ⟨rfl, bx⟩) | (go_at_call 10; refine (sincos_from w _ _ (by omega) (by omega) (by assumption)).mono ?_; rintro e wx ⟨rfl, bx⟩) | (go_at_call 12; refine (atan_from w _ _ _ (by assumption)).mono ?_; rintro e wx ⟨rfl, bx⟩) | (go_at_call 16; refine (wrap_from w _ _ _ (by assumption)).mono ?_; rintro e wx ⟨rfl, bx⟩) | (go_at_call 14; refine (turn_from w _ _ (by assumption)).mono ?_; rintro e wx ⟨rfl, bx⟩))
        go_round
        case rel => exact ⟨j + 1, by omega, by go_num, by rw [HY.out, ← Z1.out], by assumption⟩
        case measure => simp [intOf]; omega
    · obtain rfl : j = 30 := by omega
      have nlt : ¬ ((30 : Nat) : Int) < 30 := by omega
      have hz : zT 30 = 1191650197 := by decide +kernel
      by_cases c : 0 ≤ a0
      · by_cases d : a0 < 30
        · go_wp2_with (first | (go_at_call 9; refine (shown_from w _ (by assumption)).mono ?_; rintro e wx ⟨rfl, bx⟩) | (go_at_call 10; refine (sincos_from w _ _ (by omega) (by omega) (by assumption)).mono ?_; rintro e wx ⟨rfl, bx⟩) | (go_at_call 12; refine (atan_from w _ _ _ (by assumption)).mono ?_; rintro e wx ⟨rfl, bx⟩) | (go_at_call 16; refine (wrap_from w _ _ _ (by assumption)).mono ?_; rintro e wx ⟨rfl, bx⟩) | (go_at_call 14; refine (turn_from w _ _ (by assumption)).mono ?_; rintro e wx ⟨rfl, bx⟩))
          go_ret
          exact ⟨rfl, by assumption⟩
        · have o := turnv_out (i := a0) (Or.inr (by omega))
          go_wp2_with (first | (go_at_call 9; refine (shown_from w _ (by assumption)).mono ?_; rintro e wx ⟨rfl, bx⟩) | (go_at_call 10; refine (sincos_from w _ _ (by omega) (by omega) (by assumption)).mono ?_; rintro e wx ⟨rfl, bx⟩) | (go_at_call 12; refine (atan_from w _ _ _ (by assumption)).mono ?_; rintro e wx ⟨rfl, bx⟩) | (go_at_call 16; refine (wrap_from w _ _ _ (by assumption)).mono ?_; rintro e wx ⟨rfl, bx⟩) | (go_at_call 14; refine (turn_from w _ _ (by assumption)).mono ?_; rintro e wx ⟨rfl, bx⟩))
          go_ret
          exact ⟨rfl, by assumption⟩
      · have o := turnv_out (i := a0) (Or.inl (by omega))
        go_wp2_with (first | (go_at_call 9; refine (shown_from w _ (by assumption)).mono ?_; rintro e wx ⟨rfl, bx⟩) | (go_at_call 10; refine (sincos_from w _ _ (by omega) (by omega) (by assumption)).mono ?_; rintro e wx ⟨rfl, bx⟩) | (go_at_call 12; refine (atan_from w _ _ _ (by assumption)).mono ?_; rintro e wx ⟨rfl, bx⟩) | (go_at_call 16; refine (wrap_from w _ _ _ (by assumption)).mono ?_; rintro e wx ⟨rfl, bx⟩) | (go_at_call 14; refine (turn_from w _ _ (by assumption)).mono ?_; rintro e wx ⟨rfl, bx⟩))
        go_ret
        exact ⟨rfl, by assumption⟩
end Go.Proofs.Ytliebglildaneaa
