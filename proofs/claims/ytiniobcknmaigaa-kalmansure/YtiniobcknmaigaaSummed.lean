/-
  The contracts of mat.summed, over whatever function tells the numbers, and of the closures of mat.Mul.
-/
import Derived.Test.YtiniobcknmaigaaAt
namespace Go.Proofs.Ytiniobcknmaigaa
open Go.RowKit Go.Sort Qm

namespace Qm
/-- a sum, each sum brought in bounds; was a bound met? -/
def smv (p : Nat → Int) : Nat → Int
  | 0 => 0
  | k + 1 => add (smv p k) (p k)
def smB (p : Nat → Int) (x : Nat → Bool) : Nat → Bool
  | 0 => false
  | k + 1 => smB p x k || x k || addB (smv p k) (p k)
end Qm

set_option maxHeartbeats 800000 in
theorem summed_any (N : Nat) (hN : N ≤ 8) (G : Nat) (hG : ∀ (args : Array Value) (a : World), Sem.run Try.prog (callFunc G args) a = Result.ok (Next.enter G args) a) (caps : Array Value) (p : Nat → Int) (x : Nat → Bool) (w : World)
    (hcall : ∀ (k : Nat) a, k < N → Below w.heap.size w a → Calls Try.prog G (#[.int .i64 k] ++ caps) a (fun e b => e = .returned (.tuple #[.int .i64 (p k), .bool (x k)]) ∧ Below a.heap.size a b)) :
    Calls Try.prog 88 #[.int .i64 N, .func (.func G) #[] caps] w fun e b => e = .returned (.tuple #[.int .i64 (smv p N), .bool (smB p x N)]) ∧ Below w.heap.size w b := by
  go_enter Try.func88, Try.ntmps88
  go_wp2
  go_loopw [6, 7, 14] (fun s m i wr => ∃ k : Nat, k ≤ N ∧ i = .int .i64 k ∧ s = .int .i64 (smv p k) ∧ m = .bool (smB p x k) ∧ Below w.heap.size w wr) (fun _ _ i _ => N - (intOf i).toNat)
  case atStart => exact ⟨0, Nat.zero_le _, rfl, rfl, rfl, Below.refl _ _⟩
  case round =>
    obtain ⟨k, hk, rfl, rfl, rfl, hb⟩ := hrel
    by_cases hlt : k < N
    · have hc1 := hcall k wr hlt hb
      have HS : Hid (smv p (k + 1) = add (smv p k) (p k)) := rfl
      have HM : Hid (smB p x (k + 1) = (smB p x k || x k || addB (smv p k) (p k))) := rfl
      obtain ⟨S, hS⟩ : ∃ S, smv p k = S := ⟨_, rfl⟩
      obtain ⟨M, hM⟩ : ∃ M, smB p x k = M := ⟨_, rfl⟩
      obtain ⟨X, hX⟩ : ∃ X, x k = X := ⟨_, rfl⟩
      obtain ⟨Q, hQ⟩ : ∃ Q, p k = Q := ⟨_, rfl⟩
      rw [hS, hM, hX, hQ] at HM
      rw [hS, hQ] at HS
      rw [hX, hQ] at hc1
      rw [hS, hM]
      clear hS hM hX hQ
      cases M <;> cases X
      all_goals
        go_wp2_with (first | (go_at_call 52; refine (add_any _ _ _).mono ?_; rintro e wy ⟨rfl, rfl⟩) | (refine Calls.mono hc1 ?_; rintro e wx ⟨rfl, bx⟩))
        go_roundw
        case rel => exact ⟨k + 1, by omega, by go_num, by rw [HS.out], by rw [HM.out]; rfl, bt hb bx⟩
        case measure => simp [intOf]; omega
    · have e : k = N := by omega
      subst e
      go_wp2
      go_ret2
      exact ⟨rfl, hb⟩
end Go.Proofs.Ytiniobcknmaigaa
