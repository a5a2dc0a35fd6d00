/-
  The contracts of slices.Equal and mat.Same.
-/
import Derived.Test.YtiniobcknmaigaaEven
import Derived.Test.YtiniobcknmaigaaOf
namespace Go.Proofs.Ytiniobcknmaigaa
open Go.RowKit Go.Sort Qm

namespace Qm
/-- are two the same? -/
def eqB (xs ys : List Int) : Bool := decide (xs = ys)
def sameB (r c : Int) (xs : List Int) (r' c' : Int) (ys : List Int) : Bool := decide (r = r') && (decide (c = c') && eqB xs ys)
theorem eq_of_ge {xs ys : List Int} (h : xs.length = ys.length) (g : ∀ k, k < xs.length → ge xs k = ge ys k) : xs = ys := by
  rw [← tab_self xs, ← tab_self ys, ← h]
  exact tab_congr g
theorem eqB_len {xs ys : List Int} (h : xs.length ≠ ys.length) : eqB xs ys = false := by unfold eqB; simp; intro e; rw [e] at h; exact h rfl
theorem eqB_at {xs ys : List Int} {k : Nat} (h : ge xs k ≠ ge ys k) : eqB xs ys = false := by unfold eqB; simp; intro e; rw [e] at h; exact h rfl
theorem eqB_all {xs ys : List Int} (h : xs.length = ys.length) (g : ∀ k, k < xs.length → ge xs k = ge ys k) : eqB xs ys = true := by unfold eqB; simp; exact eq_of_ge h g
end Qm

set_option maxHeartbeats 400000 in
theorem equal_any (va vb : Value) (xs ys : List Int) (w : World) (hx : xs.length ≤ 100) (hy : ys.length ≤ 100) (sa : Sees w va xs) (sb : Sees w vb ys) :
    Calls Try.prog 59 #[va, vb] w fun e w' => e = .returned (.bool (eqB xs ys)) ∧ Below w.heap.size w w' := by
  obtain ⟨ao, cap, rfl, ha⟩ := sa
  obtain ⟨bo, bcap, rfl, hb⟩ := sb
  obtain ⟨n, hn⟩ : ∃ n, xs.length = n := ⟨_, rfl⟩
  obtain ⟨m, hm⟩ : ∃ m, ys.length = m := ⟨_, rfl⟩
  rw [hn] at hx ha ⊢
  rw [hm] at hy hb ⊢
  by_cases hne : n = m
  · subst hne
    have HN : Hid (xs.length = n ∧ ys.length = n) := ⟨hn, hm⟩
    obtain ⟨E, hE⟩ : ∃ E, eqB xs ys = E := ⟨_, rfl⟩
    rw [hE]
    have HE : Hid (eqB xs ys = E) := hE
    clear hn hm hE
    go_enter Try.func59, Try.ntmps59
    go_wp2
    go_loopw [13] (fun i wr => ∃ k : Nat, k ≤ n ∧ i = .int .i64 k ∧ Hid (∀ j, j < k → ge xs j = ge ys j) ∧ Below w.heap.size w wr) (fun i _ => n - (intOf i).toNat)
    case atStart => exact ⟨0, Nat.zero_le _, rfl, fun j hj => absurd hj (Nat.not_lt_zero _), Below.refl _ _⟩
    case round =>
      obtain ⟨k, hk, rfl, hno, hbl⟩ := hrel
      by_cases hlt : k < n
      · obtain ⟨ad, rfl, la, ca⟩ := ha k hlt
        obtain ⟨bd, rfl, lb, cb⟩ := hb k hlt
        have ca' : wr.cell? (ad.add k) = _ := (hbl.cell (by rw [add_block]; exact la)).trans ca
        have cb' : wr.cell? (bd.add k) = _ := (hbl.cell (by rw [add_block]; exact lb)).trans cb
        clear ca cb
        by_cases he : ge xs k = ge ys k
        · have e1 : (ge xs k == ge ys k) = true := by simpa using he
          obtain ⟨x, hx'⟩ : ∃ x, ge xs k = x := ⟨_, rfl⟩
          have hy' : ge ys k = x := by rw [← he]; exact hx'
          have HX : Hid (ge xs k = ge ys k) := he
          clear e1 he
          go_wp2
          go_quiet (fail)
          go_wp2
          go_roundw
          case rel =>
            refine ⟨k + 1, by omega, by go_num, ?_, Below.trans hbl (below_drewN (Below.refl _ _) _)⟩
            intro j hj
            by_cases e : j = k
            · subst e; exact HX.out
            · exact hno.out j (by omega)
          case measure => simp [intOf]; omega
        · have HX : Hid (eqB xs ys = false) := eqB_at he
          have e1 : (ge xs k == ge ys k) = false := by simpa using he
          obtain ⟨x, hx'⟩ : ∃ x, ge xs k = x := ⟨_, rfl⟩
          obtain ⟨y, hy'⟩ : ∃ y, ge ys k = y := ⟨_, rfl⟩
          rw [hx', hy'] at e1 he
          have e2 : ¬ (x = y) := he
          clear he
          go_wp2
          go_quiet (fail)
          go_wp2
          go_ret
          exact ⟨by rw [← HE.out, HX.out]; rfl, Below.trans hbl (below_drewN (Below.refl _ _) _)⟩
      · have e : k = n := by omega
        subst e
        go_wp2
        go_ret
        refine ⟨?_, hbl⟩
        rw [← HE.out, eqB_all (by rw [HN.out.1, HN.out.2]) (by rw [HN.out.1]; exact hno.out)]
        rfl
  · have hE : eqB xs ys = false := eqB_len (by omega)
    rw [hE]
    clear hE hn hm
    have e1 : ¬ ((n : Int) = (m : Int)) := by omega
    go_enter Try.func59, Try.ntmps59
    go_wp2
    go_ret
    exact ⟨rfl, Below.refl _ _⟩

theorem equal_calm (va vb : Value) (xs ys : List Int) (w : World) (hx : xs.length ≤ 100) (hy : ys.length ≤ 100) (sa : Sees w va xs) (sb : Sees w vb ys) (d : Nat) (os : Array Obj) :
    Calls Try.prog 59 #[va, vb] (grow (redrawn w d) os) fun e w'' => e = .returned (.bool (eqB xs ys)) ∧ ∃ p : Regrown, w'' = grow (redrawn w p.d) p.os :=
  Calls.regrown_of (equal_any va vb xs ys _ hx hy (sa.below (below_regrown w d os)) (sb.below (below_regrown w d os)))

set_option maxHeartbeats 800000 in
theorem same_any (r c r' c' : Int) (va vb : Value) (xs ys : List Int) (w : World) (hx : xs.length ≤ 100) (hy : ys.length ≤ 100) (sa : Sees w va xs) (sb : Sees w vb ys) :
    Calls Try.prog 32 #[.agg #[.int .i64 r, .int .i64 c, va], .agg #[.int .i64 r', .int .i64 c', vb]] w fun e w' => e = .returned (.bool (sameB r c xs r' c' ys)) ∧ Below w.heap.size w w' := by
  obtain ⟨ao, cap, rfl⟩ := sa.slice
  obtain ⟨bo, bcap, rfl⟩ := sb.slice
  obtain ⟨W, hW⟩ : ∃ W, (w.alloc (.cells #[.int .i64 r, .int .i64 c, .slice ao xs.length cap] 24)).alloc (.cells #[.int .i64 r', .int .i64 c', .slice bo ys.length bcap] 24) = W := ⟨_, rfl⟩
  obtain ⟨x1, x2⟩ := allocs2 w (.cells #[.int .i64 r, .int .i64 c, .slice ao xs.length cap] 24) (.cells #[.int .i64 r', .int .i64 c', .slice bo ys.length bcap] 24)
  have bq := ball2 w (.cells #[.int .i64 r, .int .i64 c, .slice ao xs.length cap] 24) (.cells #[.int .i64 r', .int .i64 c', .slice bo ys.length bcap] 24)
  rw [hW] at x1 x2 bq
  have cE := equal_calm (.slice ao xs.length cap) (.slice bo ys.length bcap) xs ys W hx hy (sa.below bq) (sb.below bq)
  obtain ⟨u0, u1, u2, _⟩ := mat_cells x1
  obtain ⟨v0, v1, v2, _⟩ := mat_cells x2
  have m0 := cell_regrown u0
  have m1 := cell_regrown u1
  have m2 := cell_regrown u2
  have m3 := cell_regrown v0
  have m4 := cell_regrown v1
  have m5 := cell_regrown v2
  obtain ⟨E, hE⟩ : ∃ E, eqB xs ys = E := ⟨_, rfl⟩
  have hS : sameB r c xs r' c' ys = (decide (r = r') && (decide (c = c') && E)) := by rw [← hE]; rfl
  rw [hS]
  rw [hE] at cE
  clear hE hS sa sb u0 u1 u2 v0 v1 v2 x1 x2
  by_cases h1 : r = r'
  · subst h1
    by_cases h2 : c = c'
    · subst h2
      go_enter Try.func32, Try.ntmps32
      go_wp2
      refine wp_region_quiet_below (by kernel_rfl) (by kernel_rfl) ?_
      clear hW
      repeat (quiet_step (first | (go_at_call 58; exact sizeOf_calm _ _ _ _ _ _ _ _) | (go_at_call 59; exact cE _ _)))
      refine wpQuiet_nil ?_
      intro _ hw'
      obtain ⟨⟨dq, osq⟩, hw''⟩ := hw'
      subst hw''
      have bz := below_regrown W dq osq
      go_wp2
      go_ret
      exact ⟨by simp, bt bq bz⟩
    · have e1 : (c == c') = false := by simpa using h2
      go_enter Try.func32, Try.ntmps32
      go_wp2
      refine wp_region_quiet_below (by kernel_rfl) (by kernel_rfl) ?_
      clear hW
      repeat (quiet_step (first | (go_at_call 58; exact sizeOf_calm _ _ _ _ _ _ _ _) | (go_at_call 59; exact cE _ _)))
      refine wpQuiet_nil ?_
      intro _ hw'
      obtain ⟨⟨dq, osq⟩, hw''⟩ := hw'
      subst hw''
      have bz := below_regrown W dq osq
      go_wp2
      go_ret
      exact ⟨by simp; intro e; exact absurd e h2, bt bq bz⟩
  · have e1 : (r == r') = false := by simpa using h1
    go_enter Try.func32, Try.ntmps32
    go_wp2
    refine wp_region_quiet_below (by kernel_rfl) (by kernel_rfl) ?_
    clear hW
    repeat (quiet_step (first | (go_at_call 58; exact sizeOf_calm _ _ _ _ _ _ _ _) | (go_at_call 59; exact cE _ _)))
    refine wpQuiet_nil ?_
    intro _ hw'
    obtain ⟨⟨dq, osq⟩, hw''⟩ := hw'
    subst hw''
    have bz := below_regrown W dq osq
    go_wp2
    go_ret
    exact ⟨by simp; intro e; exact absurd e h1, bt bq bz⟩
end Go.Proofs.Ytiniobcknmaigaa
