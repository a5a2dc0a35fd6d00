/-
  The contracts of the leaves of package qfix and of the document's answer: each call returns what the plain arithmetic says.
-/
import Derived.Test.YtiniobcknmaigaaRows
import Derived.Test.YtiniobcknmaigaaMath
import Derived.WalkKit
import Derived.ProofKit
import Derived.WalkLawsBesides
namespace Go.Proofs.Ytiniobcknmaigaa
open Go.RowKit Qm

set_option maxHeartbeats 400000 in
theorem clamp_any (a : Int) (w : World) :
    Calls Try.prog 81 #[.int .i64 a] w fun e w' => e = .returned (.tuple #[.int .i64 (cl a), .bool (ob a)]) ∧ w' = w := by
  by_cases h1 : 70368744177663 < a
  · rw [cl_top h1, ob_top h1]
    go_enter Try.func81, Try.ntmps81
    go_wp2
    go_ret2
    exact ⟨rfl, rfl⟩
  · by_cases h2 : a < -70368744177664
    · rw [cl_low h2, ob_low h2]
      go_enter Try.func81, Try.ntmps81
      go_wp2
      go_ret2
      exact ⟨rfl, rfl⟩
    · rw [cl_in (by omega) (by omega), ob_in (by omega) (by omega)]
      go_enter Try.func81, Try.ntmps81
      go_wp2
      go_ret2
      exact ⟨rfl, rfl⟩

/-- a word's last bit -/
theorem i64_and1 (n : Int) : bits .and .i64 n 1 = n % 2 := by
  have last : ∀ v : BitVec 64, (v &&& 1#64).toNat = v.toNat % 2 := fun v => by rw [BitVec.toNat_and]; exact Nat.and_one_is_mod _
  show IntKind.i64.wrap (((BitVec.ofInt 64 n &&& 1#64).toNat : Nat) : Int) = n % 2
  rw [last, BitVec.toNat_ofInt, IntKind.wrap_i64]
  omega

set_option maxHeartbeats 400000 in
theorem nearest_any (q r d : Int) (w : World) (hr0 : 0 ≤ r) (hr : r ≤ 4611686018427387904) (hq : near q r d ≤ 9223372036854775807) (hq0 : -9223372036854775808 ≤ q) :
    Calls Try.prog 84 #[.int .i64 q, .int .u64 r, .int .u64 d] w fun e w' => e = .returned (.int .i64 (near q r d)) ∧ w' = w := by
  by_cases h1 : d < 2 * r
  · rw [near_up (Or.inl h1)] at hq ⊢
    go_enter Try.func84, Try.ntmps84
    go_wp2
    go_ret
    exact ⟨rfl, rfl⟩
  · by_cases h2 : 2 * r = d
    · by_cases h3 : q % 2 = 1
      · rw [near_up (Or.inr ⟨h2, h3⟩)] at hq ⊢
        have h4 : (bits BinOp.and IntKind.i64 q 1 == 1) = true := by rw [i64_and1]; simp; omega
        have h5 : (2 * r == d) = true := by simp; omega
        clear h2 h3
        go_enter Try.func84, Try.ntmps84
        go_wp2
        go_ret
        exact ⟨rfl, rfl⟩
      · rw [near_stay (by omega)]
        have h4 : (bits BinOp.and IntKind.i64 q 1 == 1) = false := by rw [i64_and1]; simp; omega
        have h5 : (2 * r == d) = true := by simp; omega
        clear h2 h3
        go_enter Try.func84, Try.ntmps84
        go_wp2
        go_ret
        exact ⟨rfl, rfl⟩
    · rw [near_stay (by omega)]
      have h5 : (2 * r == d) = false := by simp; omega
      clear h2
      go_enter Try.func84, Try.ntmps84
      go_wp2
      go_ret
      exact ⟨rfl, rfl⟩

set_option maxHeartbeats 400000 in
theorem clampBoth_any (a b : Int) (w : World) :
    Calls Try.prog 80 #[.int .i64 a, .int .i64 b] w fun e w' => e = .returned (.tuple #[.int .i64 (cl a), .int .i64 (cl b), .bool (ob2 a b)]) ∧ w' = w := by
  unfold ob2
  cases hb : ob a
  all_goals
    go_enter Try.func80, Try.ntmps80
    go_wp2_with (go_at_call 81; refine (clamp_any _ _).mono ?_; rintro e w' ⟨rfl, rfl⟩)
    go_ret3
    exact ⟨rfl, rfl⟩

set_option maxHeartbeats 400000 in
theorem add_any (a b : Int) (w : World) :
    Calls Try.prog 52 #[.int .i64 a, .int .i64 b] w fun e w' => e = .returned (.tuple #[.int .i64 (add a b), .bool (addB a b)]) ∧ w' = w := by
  have h1 := cl_lo a; have h2 := cl_hi a; have h3 := cl_lo b; have h4 := cl_hi b
  unfold add addB
  cases hb : ob2 a b
  all_goals
    go_enter Try.func52, Try.ntmps52
    go_wp2_with (first | (go_at_call 81; refine (clamp_any _ _).mono ?_; rintro e w' ⟨rfl, rfl⟩) | (go_at_call 80; refine (clampBoth_any _ _ _).mono ?_; rintro e w' ⟨rfl, rfl⟩))
    go_ret2
    exact ⟨rfl, rfl⟩

set_option maxHeartbeats 400000 in
theorem sub_any (a b : Int) (w : World) :
    Calls Try.prog 50 #[.int .i64 a, .int .i64 b] w fun e w' => e = .returned (.tuple #[.int .i64 (sub a b), .bool (subB a b)]) ∧ w' = w := by
  have h1 := cl_lo a; have h2 := cl_hi a; have h3 := cl_lo b; have h4 := cl_hi b
  unfold sub subB
  cases hb : ob2 a b
  all_goals
    go_enter Try.func50, Try.ntmps50
    go_wp2_with (first | (go_at_call 81; refine (clamp_any _ _).mono ?_; rintro e w' ⟨rfl, rfl⟩) | (go_at_call 80; refine (clampBoth_any _ _ _).mono ?_; rintro e w' ⟨rfl, rfl⟩))
    go_ret2
    exact ⟨rfl, rfl⟩

/-! ### the sign's two closures, over a cell of their own -/
set_option maxHeartbeats 400000 in
theorem signs_any (w : World) :
    Calls Try.prog 91 #[] w fun e w' => e = .returned (.tuple #[.func (Fn.func 102) #[] #[.pointer (some ⟨w.heap.size, 0, none⟩)], .func (Fn.func 103) #[] #[.pointer (some ⟨w.heap.size, 0, none⟩)]]) ∧ w' = w.alloc (.cells #[.bool false] 4) := by
  go_enter Try.func91, Try.ntmps91
  go_wp2
  go_ret2
  exact ⟨rfl, rfl⟩

set_option maxHeartbeats 400000 in
theorem takeOff_any (n : Int) (s : Bool) (w : World) (h1 : -70368744177664 ≤ n) (h2 : n ≤ 70368744177663) :
    Calls Try.prog 102 #[.int .i64 n, .pointer (some ⟨w.heap.size, 0, none⟩)] (w.alloc (.cells #[.bool s] 4)) fun e w' => e = .returned (.int .u64 (ab n)) ∧ w' = w.alloc (.cells #[.bool (flip s n)] 4) := by
  by_cases h : n < 0
  · rw [flip_neg h, ab_neg h]
    go_enter Try.func102, Try.ntmps102
    go_wp2
    go_ret
    exact ⟨rfl, rfl⟩
  · rw [flip_pos h, ab_pos h]
    go_enter Try.func102, Try.ntmps102
    go_wp2
    go_ret
    exact ⟨rfl, rfl⟩

set_option maxHeartbeats 400000 in
theorem layOn_any (n : Int) (s : Bool) (w : World) (h1 : 0 ≤ n) (h2 : n ≤ 4611686018427387904) :
    Calls Try.prog 103 #[.int .i64 n, .pointer (some ⟨w.heap.size, 0, none⟩)] (w.alloc (.cells #[.bool s] 4)) fun e w' => e = .returned (.int .i64 (sg s n)) ∧ w' = w.alloc (.cells #[.bool s] 4) := by
  cases s
  · rw [sg_f]
    go_enter Try.func103, Try.ntmps103
    go_wp2
    go_ret
    exact ⟨rfl, rfl⟩
  · rw [sg_t]
    go_enter Try.func103, Try.ntmps103
    go_wp2
    go_ret
    exact ⟨rfl, rfl⟩
end Go.Proofs.Ytiniobcknmaigaa
