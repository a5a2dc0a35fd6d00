/-
  The contracts of the code's diagonal, below, and of ContainsFunc over it.
-/
import Derived.Test.YtiniobcknmaigaaKGood
import Derived.Test.YtiniobcknmaigaaLaid
import Derived.Test.YtiniobcknmaigaaRRgt
import Derived.Test.YtiniobcknmaigaaKRDg
import Derived.Deep.DeepMust
namespace Go.Proofs.Ytiniobcknmaigaa
open Go.RowKit Go.Sort Qm

theorem kbelow_any (x : Int) (w : World) : Calls Try.prog 36 #[.int .i64 x] w fun e w' => e = .returned (.bool (decide (x < 0))) ∧ w' = w := by
  go_enter Try.func36, Try.ntmps36
  go_wp2
  go_ret
  exact ⟨rfl, rfl⟩
namespace Qm
def lowB (xs : List Int) (n : Nat) : Bool := anyB (fun k => decide (ge xs k < 0)) n
end Qm
set_option maxHeartbeats 400000 in
theorem lowIndex_any (v : Value) (xs : List Int) (w : World) (hn : xs.length ≤ 100) (hs : Sees w v xs) :
    Calls Try.prog 64 #[v, .func (.func 36) #[] #[]] w fun e w' => ∃ r, e = .returned (.int .i64 r) ∧ decide (0 ≤ r) = lowB xs xs.length ∧ w' = w := by
  obtain ⟨ao, cap, rfl, hcell⟩ := hs
  obtain ⟨n, hn'⟩ : ∃ n, xs.length = n := ⟨_, rfl⟩
  rw [hn'] at hn hcell ⊢
  have HN : Hid (xs.length = n) := hn'
  clear hn'
  go_enter Try.func64, Try.ntmps64
  go_wp2
  go_loop [8] (fun i => ∃ k : Nat, k ≤ n ∧ i = .int .i64 k ∧ Hid (lowB xs k = false)) (fun i => n - (intOf i).toNat)
  case atStart => exact ⟨0, Nat.zero_le _, rfl, rfl⟩
  case round =>
    obtain ⟨k, hk, rfl, hno⟩ := hrel
    by_cases hlt : k < n
    · obtain ⟨ad, rfl, _, hc⟩ := hcell k hlt
      cases ho : decide (ge xs k < 0) with
      | true =>
        go_wp2_with (go_at_call 36; refine (kbelow_any _ _).mono ?_; rintro e w' ⟨rfl, rfl⟩)
        go_ret
        exact ⟨_, rfl, by rw [show lowB xs n = true from anyB_hit hlt ho]; simp, rfl⟩
      | false =>
        go_wp2_with (go_at_call 36; refine (kbelow_any _ _).mono ?_; rintro e w' ⟨rfl, rfl⟩)
        go_round
        case rel => exact ⟨k + 1, by omega, by go_num, by show lowB xs (k + 1) = false; unfold lowB; rw [anyB, ho]; have := hno.out; unfold lowB at this; rw [this]; rfl⟩
        case measure => simp [intOf]; omega
    · have e : k = n := by omega
      subst e
      go_wp2
      go_ret
      exact ⟨-1, rfl, by rw [hno.out]; rfl, rfl⟩
theorem lowContains_any (v : Value) (xs : List Int) (w : World) (hn : xs.length ≤ 100) (hs : Sees w v xs) :
    Calls Try.prog 34 #[v, .func (.func 36) #[] #[]] w fun e w' => e = .returned (.bool (lowB xs xs.length)) ∧ w' = w := by
  obtain ⟨A, hA⟩ : ∃ A, lowB xs xs.length = A := ⟨_, rfl⟩
  have hi := lowIndex_any v xs w hn hs
  rw [hA] at hi ⊢
  go_enter Try.func34, Try.ntmps34
  go_wp2_with (go_at_call 64; refine hi.mono ?_; rintro e w' ⟨r, rfl, hr, rfl⟩)
  go_ret
  exact ⟨rfl, rfl⟩
end Go.Proofs.Ytiniobcknmaigaa
