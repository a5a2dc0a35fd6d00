/-
  How many numbers a kind has; which frames are right; which are the same: the code's and the document's.
-/
import Derived.Test.YtnkghcbjokmooaaDoorFW
namespace Go.Proofs.YtnkghcbjokmooaaDoor.Gr
open Go.RowKit Go.Sort Qm

/-- what the table of the kinds' lengths reads as -/
def Longs (w : World) : Prop := ∀ k : Nat, k < 9 → w.cell? ⟨0, k, none⟩ = some (.int .i64 (longS k))
theorem Longs.below {w w' : World} (h : Longs w) (hb : Below w.heap.size w w') : Longs w' := fun k hk => by
  rw [hb.cell (p := ⟨0, k, none⟩) (block_lt_of_cell (h k hk))]; exact h k hk

set_option maxRecDepth 20000 in
set_option maxHeartbeats 400000 in
theorem long_any (k : Int) (w : World) (hG : Longs w) :
    Calls Tryd.prog 17 #[.int .i64 k] w fun e w' => e = .returned (.int .i64 (longS k)) ∧ Below w.heap.size w w' := by
  by_cases h0 : k < 0
  · have e : longS k = 0 := longS_out (by omega)
    rw [e]
    clear e
    go_enter Tryd.func17, Tryd.ntmps17
    go_wp2
    go_ret
    exact ⟨rfl, Below.refl _ _⟩
  · by_cases h9 : 9 ≤ k
    · have e : longS k = 0 := longS_out (by omega)
      rw [e]
      clear e
      go_enter Tryd.func17, Tryd.ntmps17
      go_wp2
      go_ret
      exact ⟨rfl, Below.refl _ _⟩
    · obtain ⟨j, rfl⟩ : ∃ j : Nat, k = j := ⟨k.toNat, by omega⟩
      have hj : j < 9 := by omega
      have hc := hG j hj
      generalize longS (j : Int) = L at hc ⊢
      clear hG
      go_enter Tryd.func17, Tryd.ntmps17
      go_wp2
      go_ret
      exact ⟨rfl, Below.refl _ _⟩

set_option maxRecDepth 20000 in
set_option maxHeartbeats 800000 in
theorem rlong_any (k : Int) (w : World) :
    Calls Tryd.prog 18 #[.int .i64 k] w fun e w' => e = .returned (.int .i64 (longS k)) ∧ Below w.heap.size w w' := by
  unfold longS
  by_cases h1 : k = 1
  · subst h1
    go_enter Tryd.func18, Tryd.ntmps18
    go_wp2
    go_ret
    exact ⟨rfl, Below.refl _ _⟩
  rw [if_neg h1]
  by_cases h2 : k = 2
  · subst h2
    go_enter Tryd.func18, Tryd.ntmps18
    go_wp2
    go_ret
    exact ⟨rfl, Below.refl _ _⟩
  rw [if_neg h2]
  by_cases h3 : k = 3
  · subst h3
    go_enter Tryd.func18, Tryd.ntmps18
    go_wp2
    go_ret
    exact ⟨rfl, Below.refl _ _⟩
  rw [if_neg h3]
  by_cases h4 : k = 4
  · subst h4
    go_enter Tryd.func18, Tryd.ntmps18
    go_wp2
    go_ret
    exact ⟨rfl, Below.refl _ _⟩
  rw [if_neg h4]
  by_cases h5 : k = 5
  · subst h5
    go_enter Tryd.func18, Tryd.ntmps18
    go_wp2
    go_ret
    exact ⟨rfl, Below.refl _ _⟩
  rw [if_neg h5]
  by_cases h6 : k = 6
  · subst h6
    go_enter Tryd.func18, Tryd.ntmps18
    go_wp2
    go_ret
    exact ⟨rfl, Below.refl _ _⟩
  rw [if_neg h6]
  by_cases h7 : k = 7
  · subst h7
    go_enter Tryd.func18, Tryd.ntmps18
    go_wp2
    go_ret
    exact ⟨rfl, Below.refl _ _⟩
  rw [if_neg h7]
  by_cases h8 : k = 8
  · subst h8
    go_enter Tryd.func18, Tryd.ntmps18
    go_wp2
    go_ret
    exact ⟨rfl, Below.refl _ _⟩
  rw [if_neg h8]
  go_enter Tryd.func18, Tryd.ntmps18
  go_wp2
  go_ret
  exact ⟨rfl, Below.refl _ _⟩

theorem long_calm (k : Int) (w : World) (hG : Longs w) (d : Nat) (os : Array Obj) :
    Calls Tryd.prog 17 #[.int .i64 k] (grow (redrawn w d) os) fun e w'' => e = .returned (.int .i64 (longS k)) ∧ ∃ p : Regrown, w'' = grow (redrawn w p.d) p.os :=
  Calls.regrown_of (long_any k _ (hG.below (below_regrown w d os)))
theorem rlong_calm (k : Int) (w : World) (d : Nat) (os : Array Obj) :
    Calls Tryd.prog 18 #[.int .i64 k] (grow (redrawn w d) os) fun e w'' => e = .returned (.int .i64 (longS k)) ∧ ∃ p : Regrown, w'' = grow (redrawn w p.d) p.os :=
  Calls.regrown_of (rlong_any k _)

/-- a frame's cells -/
theorem frame_cells {w : World} {b : Nat} {k : Int} {v : Value} {t : TypeId} (h : w.heap[b]? = some (.cells #[.int .i64 k, v] t (0, 0))) : w.cell? ⟨b, 0, none⟩ = some (.int .i64 k) ∧ w.cell? ⟨b, 1, none⟩ = some v := by
  constructor <;> simp [World.cell?, h]

set_option maxRecDepth 20000 in
set_option maxHeartbeats 400000 in
theorem right_any (k : Int) (ao : Option Addr) (n cap : Nat) (w : World) (hG : Longs w) :
    Calls Tryd.prog 19 #[.agg #[.int .i64 k, .slice ao n cap]] w fun e w' => e = .returned (.bool (rightS k n)) ∧ Below w.heap.size w w' := by
  have hL := fun o => long_any k _ (hG.below (box_below w o))
  have hk := longS_le k
  unfold rightS
  generalize longS k = L at hL hk ⊢
  by_cases h0 : 0 < L
  · have d0 : decide (0 < L) = true := decide_eq_true h0
    have h0' : (0 : Int) < (L : Int) := by omega
    by_cases h1 : n = L
    · subst h1
      have d1 : decide (n = n) = true := decide_eq_true rfl
      rw [d0, d1]
      clear d0 d1 hG
      go_enter Tryd.func19, Tryd.ntmps19
      go_wp2_with (go_at_call 17; refine (hL _).mono ?_; rintro e w1 ⟨rfl, b1⟩; obtain ⟨c0, c1⟩ := frame_cells (keep b1 (heap_new w _)))
      go_ret
      exact ⟨rfl, bt (box_below w _) b1⟩
    · have d1 : decide (n = L) = false := decide_eq_false h1
      have h1' : ¬ ((n : Int) = (L : Int)) := by omega
      have h2' : ((n : Int) == (L : Int)) = false := by simpa using h1'
      rw [d0, d1]
      clear d0 d1 hG h1
      go_enter Tryd.func19, Tryd.ntmps19
      go_wp2_with (go_at_call 17; refine (hL _).mono ?_; rintro e w1 ⟨rfl, b1⟩; obtain ⟨c0, c1⟩ := frame_cells (keep b1 (heap_new w _)))
      go_ret
      exact ⟨rfl, bt (box_below w _) b1⟩
  · obtain rfl : L = 0 := by omega
    have d0 : decide (0 < 0) = false := rfl
    rw [d0]
    clear d0 hG h0 hk
    go_enter Tryd.func19, Tryd.ntmps19
    go_wp2_with (go_at_call 17; refine (hL _).mono ?_; rintro e w1 ⟨rfl, b1⟩; obtain ⟨c0, c1⟩ := frame_cells (keep b1 (heap_new w _)))
    go_ret
    exact ⟨rfl, bt (box_below w _) b1⟩

set_option maxRecDepth 20000 in
set_option maxHeartbeats 400000 in
theorem rright_any (k : Int) (ao : Option Addr) (n cap : Nat) (w : World) :
    Calls Tryd.prog 20 #[.agg #[.int .i64 k, .slice ao n cap]] w fun e w' => e = .returned (.bool (rightS k n)) ∧ Below w.heap.size w w' := by
  have hL := fun u d os => rlong_calm k u d os
  have hk := longS_le k
  have hn0 := heap_new w (.cells #[.int .i64 k, .slice ao n cap] 24)
  obtain ⟨c0, c1⟩ := frame_cells hn0
  have m0 := cell_regrown c0
  have m1 := cell_regrown c1
  have hb := box_below w (.cells #[.int .i64 k, .slice ao n cap] 24)
  clear c0 c1
  unfold rightS
  generalize longS k = L at hL hk ⊢
  by_cases h0 : 0 < L
  · have d0 : decide (0 < L) = true := decide_eq_true h0
    have h0' : (0 : Int) < (L : Int) := by omega
    by_cases h1 : n = L
    · subst h1
      have d1 : decide (n = n) = true := decide_eq_true rfl
      rw [d0, d1]
      clear d0 d1 hn0
      go_enter Tryd.func20, Tryd.ntmps20
      go_wp2
      refine wp_region_quiet_below (by kernel_rfl) (by kernel_rfl) ?_
      repeat (quiet_step (first | (go_at_call 18; exact hL _ _ _)))
      refine wpQuiet_nil ?_
      rintro _ ⟨⟨dq, osq⟩, rfl⟩
      go_wp2
      go_ret
      exact ⟨rfl, bt hb (below_regrown _ dq osq)⟩
    · have d1 : decide (n = L) = false := decide_eq_false h1
      have h1' : ¬ ((n : Int) = (L : Int)) := by omega
      have h2' : ((n : Int) == (L : Int)) = false := by simpa using h1'
      rw [d0, d1]
      clear d0 d1 h1 hn0
      go_enter Tryd.func20, Tryd.ntmps20
      go_wp2
      refine wp_region_quiet_below (by kernel_rfl) (by kernel_rfl) ?_
      repeat (quiet_step (first | (go_at_call 18; exact hL _ _ _)))
      refine wpQuiet_nil ?_
      rintro _ ⟨⟨dq, osq⟩, rfl⟩
      go_wp2
      go_ret
      exact ⟨rfl, bt hb (below_regrown _ dq osq)⟩
  · obtain rfl : L = 0 := by omega
    have d0 : decide (0 < 0) = false := rfl
    rw [d0]
    clear d0 h0 hk hn0
    go_enter Tryd.func20, Tryd.ntmps20
    go_wp2
    refine wp_region_quiet_below (by kernel_rfl) (by kernel_rfl) ?_
    repeat (quiet_step (first | (go_at_call 18; exact hL _ _ _)))
    refine wpQuiet_nil ?_
    rintro _ ⟨⟨dq, osq⟩, rfl⟩
    go_wp2
    go_ret
    exact ⟨rfl, bt hb (below_regrown _ dq osq)⟩
theorem right_calm (k : Int) (ao : Option Addr) (n cap : Nat) (w : World) (hG : Longs w) (d : Nat) (os : Array Obj) :
    Calls Tryd.prog 19 #[.agg #[.int .i64 k, .slice ao n cap]] (grow (redrawn w d) os) fun e w'' => e = .returned (.bool (rightS k n)) ∧ ∃ p : Regrown, w'' = grow (redrawn w p.d) p.os :=
  Calls.regrown_of (right_any k ao n cap _ (hG.below (below_regrown w d os)))
theorem rright_calm (k : Int) (ao : Option Addr) (n cap : Nat) (w : World) (d : Nat) (os : Array Obj) :
    Calls Tryd.prog 20 #[.agg #[.int .i64 k, .slice ao n cap]] (grow (redrawn w d) os) fun e w'' => e = .returned (.bool (rightS k n)) ∧ ∃ p : Regrown, w'' = grow (redrawn w p.d) p.os :=
  Calls.regrown_of (rright_any k ao n cap _)

namespace Qm
def sameS (ka : Int) (xs : List Int) (kb : Int) (ys : List Int) : Bool := decide (ka = kb) && decide (xs = ys)
theorem sameS_self (k : Int) (xs : List Int) : sameS k xs k xs = true := by simp [sameS]
end Qm
theorem ball2' (w : World) (o o' : Obj) : Below w.heap.size w ((w.alloc o).alloc o') := bt (box_below w o) (box_below _ o')
set_option maxRecDepth 20000 in
set_option maxHeartbeats 400000 in
theorem same_any (ka : Int) (va : Value) (xs : List Int) (kb : Int) (vb' : Value) (ys : List Int) (w : World) (hx : xs.length ≤ 100000) (hy : ys.length ≤ 140737488351232) (sa : SeesI w va xs) (sb : SeesI w vb' ys) :
    Calls Tryd.prog 21 #[.agg #[.int .i64 ka, va], .agg #[.int .i64 kb, vb']] w fun e w' => e = .returned (.bool (sameS ka xs kb ys)) ∧ Below w.heap.size w w' := by
  have hE := fun (u : World) (h : Below w.heap.size w u) => equal_any va vb' xs ys u hx hy (sa.below h) (sb.below h)
  obtain ⟨ao, cap, rfl⟩ := sa.slice
  obtain ⟨bo, bcap, rfl⟩ := sb.slice
  unfold sameS
  have b0 := ball2' w (.cells #[.int .i64 ka, .slice ao xs.length cap] 24) (.cells #[.int .i64 kb, .slice bo ys.length bcap] 24)
  generalize decide (xs = ys) = E at hE ⊢
  clear sa sb
  by_cases h : ka = kb
  · subst h
    have d : decide (ka = ka) = true := decide_eq_true rfl
    rw [d, Bool.true_and]
    clear d
    go_enter Tryd.func21, Tryd.ntmps21
    go_wp2_with (go_at_call 34; refine (hE _ b0).mono ?_; rintro e w1 ⟨rfl, b1⟩)
    go_ret
    exact ⟨rfl, bt b0 b1⟩
  · have d : decide (ka = kb) = false := decide_eq_false h
    rw [d, Bool.false_and]
    clear d
    go_enter Tryd.func21, Tryd.ntmps21
    go_wp2
    go_ret
    exact ⟨rfl, b0⟩
set_option maxRecDepth 20000 in
set_option maxHeartbeats 400000 in
theorem rsame8_any (ka : Int) (va : Value) (xs : List Int) (kb : Int) (vb' : Value) (ys : List Int) (w : World) (hx : xs.length ≤ 100000) (hy : ys.length ≤ 140737488351232) (sa : SeesI w va xs) (sb : SeesI w vb' ys) :
    Calls Tryd.prog 16 #[.agg #[.int .i64 ka, va], .agg #[.int .i64 kb, vb']] w fun e w' => e = .returned (.bool (sameS ka xs kb ys)) ∧ Below w.heap.size w w' := by
  have hE := fun (u : World) (h : Below w.heap.size w u) => ints_any va vb' xs ys u hx hy (sa.below h) (sb.below h)
  obtain ⟨ao, cap, rfl⟩ := sa.slice
  obtain ⟨bo, bcap, rfl⟩ := sb.slice
  unfold sameS
  have b0 := ball2' w (.cells #[.int .i64 ka, .slice ao xs.length cap] 24) (.cells #[.int .i64 kb, .slice bo ys.length bcap] 24)
  have q1 := heap_new (w.alloc (.cells #[.int .i64 ka, .slice ao xs.length cap] 24)) (.cells #[.int .i64 kb, .slice bo ys.length bcap] 24)
  have q0 := heap_old (heap_new w (.cells #[.int .i64 ka, .slice ao xs.length cap] 24)) (.cells #[.int .i64 kb, .slice bo ys.length bcap] 24)
  rw [World.size_alloc] at q1
  have Q : Hid (_ ∧ _) := ⟨q0, q1⟩
  clear q0 q1
  generalize decide (xs = ys) = E at hE ⊢
  clear sa sb
  cases E
  · rw [Bool.and_false]
    go_enter Tryd.func16, Tryd.ntmps16
    go_wp2_with (go_at_call 24; refine (hE _ b0).mono ?_; rintro e w1 ⟨rfl, b1⟩)
    go_ret
    exact ⟨rfl, bt b0 b1⟩
  · rw [Bool.and_true]
    by_cases h : ka = kb
    · subst h
      have d : decide (ka = ka) = true := decide_eq_true rfl
      rw [d]
      clear d
      go_enter Tryd.func16, Tryd.ntmps16
      go_wp2_with (go_at_call 24; refine (hE _ b0).mono ?_; rintro e w1 ⟨rfl, b1⟩; obtain ⟨c0, c1⟩ := frame_cells (keep b1 Q.out.1); obtain ⟨d0, d1⟩ := frame_cells (keep b1 Q.out.2))
      go_ret
      exact ⟨rfl, bt b0 b1⟩
    · have d : decide (ka = kb) = false := decide_eq_false h
      have h2' : (ka == kb) = false := by simpa using h
      rw [d]
      clear d
      go_enter Tryd.func16, Tryd.ntmps16
      go_wp2_with (go_at_call 24; refine (hE _ b0).mono ?_; rintro e w1 ⟨rfl, b1⟩; obtain ⟨c0, c1⟩ := frame_cells (keep b1 Q.out.1); obtain ⟨d0, d1⟩ := frame_cells (keep b1 Q.out.2))
      go_ret
      exact ⟨rfl, bt b0 b1⟩
theorem same_calm (ka : Int) (va : Value) (xs : List Int) (kb : Int) (vb' : Value) (ys : List Int) (w : World) (hx : xs.length ≤ 100000) (hy : ys.length ≤ 140737488351232) (sa : SeesI w va xs) (sb : SeesI w vb' ys) (d : Nat) (os : Array Obj) :
    Calls Tryd.prog 21 #[.agg #[.int .i64 ka, va], .agg #[.int .i64 kb, vb']] (grow (redrawn w d) os) fun e w'' => e = .returned (.bool (sameS ka xs kb ys)) ∧ ∃ p : Regrown, w'' = grow (redrawn w p.d) p.os :=
  Calls.regrown_of (same_any ka va xs kb vb' ys _ hx hy (sa.below (below_regrown w d os)) (sb.below (below_regrown w d os)))
theorem rsame8_calm (ka : Int) (va : Value) (xs : List Int) (kb : Int) (vb' : Value) (ys : List Int) (w : World) (hx : xs.length ≤ 100000) (hy : ys.length ≤ 140737488351232) (sa : SeesI w va xs) (sb : SeesI w vb' ys) (d : Nat) (os : Array Obj) :
    Calls Tryd.prog 16 #[.agg #[.int .i64 ka, va], .agg #[.int .i64 kb, vb']] (grow (redrawn w d) os) fun e w'' => e = .returned (.bool (sameS ka xs kb ys)) ∧ ∃ p : Regrown, w'' = grow (redrawn w p.d) p.os :=
  Calls.regrown_of (rsame8_any ka va xs kb vb' ys _ hx hy (sa.below (below_regrown w d os)) (sb.below (below_regrown w d os)))
end Go.Proofs.YtnkghcbjokmooaaDoor.Gr
