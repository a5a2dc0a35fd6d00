/-
  The contracts of mat.laid, slices.IndexFunc, slices.ContainsFunc and mat.Right.
-/
import Derived.Test.YtiniobcknmaigaaNums
namespace Go.Proofs.Ytiniobcknmaigaa
open Go.RowKit Qm

set_option maxHeartbeats 400000 in
theorem laid_any (r c : Int) (ao : Option Addr) (n cap : Nat) (w : World) :
    Calls Try.prog 57 #[.agg #[.int .i64 r, .int .i64 c, .slice ao n cap]] w fun e w' => e = .returned (.bool (laidB r c n)) ∧ Below w.heap.size w w' := by
  have hB := box_below w (.cells #[.int .i64 r, .int .i64 c, .slice ao n cap] 24)
  cases h1 : cntB r with
  | false =>
    have hl : laidB r c n = false := by unfold laidB; rw [h1]; rfl
    rw [hl]
    go_enter Try.func57, Try.ntmps57
    go_wp2_with (go_at_call 53; refine (mayCount_any _ _).mono ?_; rintro e w' ⟨rfl, rfl⟩)
    go_ret
    exact ⟨rfl, hB⟩
  | true =>
    cases h2 : cntB c with
    | false =>
      have hl : laidB r c n = false := by unfold laidB; rw [h1, h2]; rfl
      rw [hl]
      go_enter Try.func57, Try.ntmps57
      go_wp2_with (go_at_call 53; refine (mayCount_any _ _).mono ?_; rintro e w' ⟨rfl, rfl⟩)
      go_ret
      exact ⟨rfl, hB⟩
    | true =>
      have hl : laidB r c n = decide ((n : Int) = r * c) := by unfold laidB; rw [h1, h2]; rfl
      rw [hl]
      obtain ⟨R, rfl⟩ := Int.eq_ofNat_of_zero_le (by have := cntB_in h1; omega : 0 ≤ r)
      obtain ⟨C, rfl⟩ := Int.eq_ofNat_of_zero_le (by have := cntB_in h2; omega : 0 ≤ c)
      have hm : R * C ≤ 64 := mul_le_64 (by have := cntB_in h1; omega) (by have := cntB_in h2; omega)
      obtain ⟨q, hq⟩ : ∃ q, R * C = q := ⟨_, rfl⟩
      have hq' : (R : Int) * (C : Int) = (q : Int) := by rw [← hq]; exact (Int.natCast_mul R C).symm
      rw [hq] at hm
      rw [hq']
      clear hq hl
      obtain ⟨D, hD⟩ : ∃ D, decide ((n : Int) = (q : Int)) = D := ⟨_, rfl⟩
      rw [hD]
      go_enter Try.func57, Try.ntmps57
      go_wp2_with (go_at_call 53; refine (mayCount_any _ _).mono ?_; rintro e w' ⟨rfl, rfl⟩)
      go_ret
      exact ⟨by rw [← hD]; rfl, hB⟩

namespace Qm
theorem anyB_hit {o : Nat → Bool} {k n : Nat} (hk : k < n) (h : o k = true) : anyB o n = true := by
  induction n with
  | zero => omega
  | succ n ih =>
    rw [anyB]
    by_cases e : k = n
    · subst e; rw [h, Bool.or_true]
    · rw [ih (by omega), Bool.true_or]
theorem anyB_of {o : Nat → Bool} {n : Nat} (h : anyB o n = false) : ∀ k, k < n → o k = false := by
  intro k hk
  cases e : o k with
  | false => rfl
  | true => rw [anyB_hit hk e] at h; cases h
/-- is one of them out of bounds? -/
def outB (xs : List Int) (n : Nat) : Bool := anyB (fun k => ob (ge xs k)) n
def rightB (r c : Int) (xs : List Int) : Bool := laidB r c xs.length && !outB xs xs.length
end Qm

set_option maxHeartbeats 400000 in
theorem index_any (v : Value) (xs : List Int) (w : World) (hn : xs.length ≤ 100) (hs : Sees w v xs) :
    Calls Try.prog 64 #[v, .func (.func 54) #[] #[]] w fun e w' => ∃ r, e = .returned (.int .i64 r) ∧ decide (0 ≤ r) = outB xs xs.length ∧ w' = w := by
  obtain ⟨ao, cap, rfl, hcell⟩ := hs
  obtain ⟨n, hn'⟩ : ∃ n, xs.length = n := ⟨_, rfl⟩
  rw [hn'] at hn hcell ⊢
  have HN : Hid (xs.length = n) := hn'
  clear hn'
  go_enter Try.func64, Try.ntmps64
  go_wp2
  go_loop [8] (fun i => ∃ k : Nat, k ≤ n ∧ i = .int .i64 k ∧ Hid (outB xs k = false)) (fun i => n - (intOf i).toNat)
  case atStart => exact ⟨0, Nat.zero_le _, rfl, rfl⟩
  case round =>
    obtain ⟨k, hk, rfl, hno⟩ := hrel
    by_cases hlt : k < n
    · obtain ⟨ad, rfl, _, hc⟩ := hcell k hlt
      cases ho : ob (ge xs k) with
      | true =>
        go_wp2_with (go_at_call 54; refine (outside_any _ _).mono ?_; rintro e w' ⟨rfl, rfl⟩)
        go_ret
        exact ⟨_, rfl, by rw [show outB xs n = true from anyB_hit hlt ho]; simp, rfl⟩
      | false =>
        go_wp2_with (go_at_call 54; refine (outside_any _ _).mono ?_; rintro e w' ⟨rfl, rfl⟩)
        go_round
        case rel => exact ⟨k + 1, by omega, by go_num, by show outB xs (k + 1) = false; unfold outB; rw [anyB, ho]; have := hno.out; unfold outB at this; rw [this]; rfl⟩
        case measure => simp [intOf]; omega
    · have e : k = n := by omega
      subst e
      go_wp2
      go_ret
      exact ⟨-1, rfl, by rw [hno.out]; rfl, rfl⟩

theorem contains_any (v : Value) (xs : List Int) (w : World) (hn : xs.length ≤ 100) (hs : Sees w v xs) :
    Calls Try.prog 34 #[v, .func (.func 54) #[] #[]] w fun e w' => e = .returned (.bool (outB xs xs.length)) ∧ w' = w := by
  obtain ⟨A, hA⟩ : ∃ A, outB xs xs.length = A := ⟨_, rfl⟩
  have hi := index_any v xs w hn hs
  rw [hA] at hi ⊢
  go_enter Try.func34, Try.ntmps34
  go_wp2_with (go_at_call 64; refine hi.mono ?_; rintro e w' ⟨r, rfl, hr, rfl⟩)
  go_ret
  exact ⟨rfl, rfl⟩

set_option maxHeartbeats 400000 in
theorem right_any (r c : Int) (v : Value) (xs : List Int) (w : World) (hn : xs.length ≤ 100) (hs : Sees w v xs) :
    Calls Try.prog 30 #[.agg #[.int .i64 r, .int .i64 c, v]] w fun e w' => e = .returned (.bool (rightB r c xs)) ∧ Below w.heap.size w w' := by
  obtain ⟨ao, cap, rfl⟩ := hs.slice
  have hR : rightB r c xs = (laidB r c xs.length && !outB xs xs.length) := rfl
  cases hl : laidB r c xs.length with
  | false =>
    rw [hR, hl]
    go_enter Try.func30, Try.ntmps30
    go_wp2_with (go_at_call 57; refine (laid_any _ _ _ _ _ _).mono ?_; rintro e w' ⟨rfl, bx⟩)
    go_ret
    exact ⟨rfl, bt (box_below _ _) bx⟩
  | true =>
    rw [hR, hl]
    go_enter Try.func30, Try.ntmps30
    go_wp2_with (first | (go_at_call 57; refine (laid_any _ _ _ _ _ _).mono ?_; rintro e w' ⟨rfl, bx⟩; obtain ⟨c0, c1, c2, _⟩ := mat_cells ((bx.block w.heap.size (by simp)).trans (heap_alloc_new w _)); have hs' := (hs.alloc _).below bx) | (go_at_call 34; refine (contains_any _ _ _ hn hs').mono ?_; rintro e w' ⟨rfl, rfl⟩))
    go_ret
    exact ⟨rfl, bt (box_below _ _) bx⟩
end Go.Proofs.Ytiniobcknmaigaa
