/-
  The contracts of slices.Clone, of numbers, and of the code's copied and passes.
-/
import Derived.Test.YtiniobcknmaigaaKStep
import Derived.Test.YtiniobcknmaigaaRInn
import Derived.Deep.DeepMust
import Derived.Laws.Cover3
namespace Go.Proofs.Ytiniobcknmaigaa
open Go.RowKit Go.Sort Qm

theorem sees_vals {w : World} {ao : Option Addr} {cap : Nat} {xs : List Int} {ad : Addr} (h : Sees w (.slice ao xs.length cap) xs) (ha : ao = some ad) : ∀ (j : Nat) (u : Value), (xs.map (Value.int .i64))[j]? = some u → w.cell? (ad.add j) = some u := by
  intro j u hj
  obtain ⟨ao', cap', e, hc⟩ := h
  rw [List.getElem?_map] at hj
  obtain ⟨x, hx, rfl⟩ := Option.map_eq_some_iff.1 hj
  obtain ⟨hl, hg⟩ := List.getElem?_eq_some_iff.1 hx
  obtain ⟨ad', e2, _, h3⟩ := hc j hl
  injection e with e3
  rw [ha, e2] at e3
  injection e3 with e4
  rw [e4, h3]
  unfold ge
  rw [List.getD_eq_getElem?_getD, hx]; rfl
theorem run_nil22 (a : Option Addr) (l c : Nat) (w : World) : Sem.run Try.prog (binOp BinOp.eql 22 (.slice a l c) (.slice none 0 0)) w = .ok (.bool a.isNone) w := by
  have h := run_equal_slice_nil (P := Try.prog) (w := w) 22 41 a l c Try.under22
  simp [binOp, go_sem, h]
theorem vals_one (xs : List Int) : ∀ u ∈ xs.map (Value.int .i64), u.oneCell' = true := by
  intro u hu
  obtain ⟨x, _, rfl⟩ := List.mem_map.1 hu
  rfl
set_option maxRecDepth 20000 in
set_option maxHeartbeats 400000 in
theorem clone_nil (w : World) :
    Calls Try.prog 27 #[.slice none 0 0] w fun e b => ∃ v', e = .returned v' ∧ Sees b v' [] ∧ New w.heap.size v' ∧ Below w.heap.size w b := by
  have hnil := fun v => run_nil22 none 0 0 v
  go_enter Try.func27, Try.ntmps27
  go_wp2
  go_ret
  exact ⟨_, rfl, ⟨none, 0, rfl, fun k hk => by simp at hk⟩, fun k hk => (by cases hk), Below.refl _ _⟩
set_option maxRecDepth 20000 in
set_option maxHeartbeats 400000 in
theorem clone_at (ad : Addr) (cap : Nat) (xs : List Int) (hn : xs.length ≤ 100) (w : World) (hs : Sees w (.slice (some ad) xs.length cap) xs) :
    Calls Try.prog 27 #[.slice (some ad) xs.length cap] w fun e b => ∃ v', e = .returned v' ∧ Sees b v' xs ∧ New w.heap.size v' ∧ Below w.heap.size w b := by
  obtain ⟨i0, hi, hz0, hz1, hz2⟩ := info_parts Try.info33
  have hv := fun o => sees_vals (hs.alloc o) rfl
  have HE : Hid (∀ (b : World) (v : Value), b.ownsRow w.heap.size 41 1 v xs.length (xs.map (Value.int .i64)) → Sees b v xs ∧ New w.heap.size v) := fun b v h => ⟨Sees.own h, New.own h⟩
  have hl : (xs.map (Value.int .i64)).length = xs.length := by simp
  have ho := vals_one xs
  generalize xs.map (Value.int .i64) = vals at hv hl HE ho
  obtain ⟨n, hn'⟩ : ∃ n, xs.length = n := ⟨_, rfl⟩
  rw [hn'] at hn hl hs HE ⊢
  clear hn'
  have HL : Hid (vals.length = n * 1) := by rw [Nat.mul_one]; exact hl
  have hnil := fun v => run_nil22 (some ad) n cap v
  have h0 : (w.alloc (.cells #[] 41)).ownsRow w.heap.size 41 1 (.slice (some ⟨w.heap.size, 0, none⟩) 0 0) 0 [] := ⟨rfl, .inr ⟨_, 0, #[], rfl, Nat.le_refl _, heap_new _ _, Nat.le_refl _, Nat.zero_le _, rfl, rfl⟩⟩
  clear hl
  go_enter Try.func27, Try.ntmps27
  go_wp2_with (at_builtin; go_must (refine wpList_append_own _ rfl _ _ 22 rfl w.heap.size 41 i0 (.int .i64 0) 1 8 Try.under22 hi hz0 hz1 hz2 rfl (by decide) _ _ _ rfl h0 ad n cap vals rfl HL.out (hv _) ho (by unfold maxLen; omega) (by omega) (by simp) ?_); intro v2 w2 hown2 hg2 hnil2)
  have b2 : Below w.heap.size w w2 := (box_below w _).trans (((Below.refl _ _)).grown hg2 (by simp) (fun m e => by cases e; exact Nat.le_refl _))
  have h3 := HE.out w2 v2 (by simpa using hown2)
  clear hown2 hg2 hnil2
  go_wp2
  go_ret
  exact ⟨_, rfl, h3.1, h3.2, b2⟩
theorem clone_any (v : Value) (xs : List Int) (h0 : 0 < xs.length) (hn : xs.length ≤ 100) (w : World) (hs : Sees w v xs) :
    Calls Try.prog 27 #[v] w fun e b => ∃ v', e = .returned v' ∧ Sees b v' xs ∧ New w.heap.size v' ∧ Below w.heap.size w b := by
  obtain ⟨ao, cap, rfl, hc⟩ := id hs
  obtain ⟨ad, rfl, _⟩ := hc 0 h0
  exact clone_at ad cap xs hn w hs
theorem enters_clone : ∀ (args : Array Value) (a : World), Sem.run Try.prog (callFunc 27 args) a = Result.ok (Next.enter 27 args) a := by
  intro args a
  simp [callFunc, Try.func27, go_sem]
  rfl

set_option maxRecDepth 20000 in
set_option maxHeartbeats 800000 in
theorem passes_any (N : Nat) (m : Bool) (y s gate : Int) (w : World) (hN : w.heap[N]? = some (.cells #[.bool m, .int .i64 0] 77 (0, 0))) :
    Calls Try.prog 45 #[.func (.func 41) #[.pointer (some ⟨N, 0, none⟩)] #[], .int .i64 y, .int .i64 s, .int .i64 gate] w fun e b => e = .returned (.bool (decide (mul y y ≤ mul gate s) && decide (0 < s))) ∧
      b.heap[N]? = some (.cells #[.bool (m || mulB y y || mulB gate s), .int .i64 0] 77 (0, 0)) ∧ w.grownBy b (some N) := by
  have HE := enters_keep
  have k1 := fun v => mul_any y y v
  have k2 := fun v => mul_any gate s v
  generalize mul y y = A at k1 ⊢
  generalize mul gate s = B at k2 ⊢
  generalize mulB y y = ma at k1 ⊢
  generalize mulB gate s = mb at k2 ⊢
  cases hA : decide (A ≤ B)
  all_goals
    go_enter Try.func45, Try.ntmps45
    go_wp2_with (first
      | (have _ := hg2; have _ := b3; go_at_call 41; go_must (refine (keep_any N (m || ma) mb _ (keep b3 hn2)).mono ?_); rintro e w4 ⟨rfl, hn4, hg4⟩)
      | (have _ := hg2; go_at_call 73; go_must (refine (k2 _).mono ?_); rintro e w3 ⟨rfl, b3⟩)
      | (have _ := b1; go_at_call 41; go_must (refine (keep_any N m ma _ (keep b1 hN)).mono ?_); rintro e w2 ⟨rfl, hn2, hg2⟩)
      | (go_at_call 73; go_must (refine (k1 _).mono ?_); rintro e w1 ⟨rfl, b1⟩))
    go_ret
    exact ⟨by simp, hn4, gb_trans (gb_trans (gb_trans (gb_below _ b1) hg2) (gb_below _ b3)) hg4⟩
end Go.Proofs.Ytiniobcknmaigaa
