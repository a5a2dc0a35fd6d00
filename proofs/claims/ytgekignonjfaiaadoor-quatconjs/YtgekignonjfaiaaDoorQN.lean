/-
  The contracts of quat.Norm, quat.Unit, quat.Conj, quat.Right.
-/
import Derived.Test.YtgekignonjfaiaaDoorQMul
import Derived.Test.YtgekignonjfaiaaDoorDiv
import Derived.Test.YtgekignonjfaiaaDoorSqrt
namespace Go.Proofs.YtgekignonjfaiaaDoor
open Go.RowKit Go.Sort Qm

namespace Qm
/-- the sum of four squares; was a bound met? -/
def nm (p : Nat → Int) : Int := sm4 (fun k => mul (p k) (p k))
def nmB (p : Nat → Int) : Bool := anyB (fun k => mulB (p k) (p k)) 4 || sm4B (fun k => mul (p k) (p k))
/-- each one by the root of the norm -/
def un (p : Nat → Int) (k : Nat) : Int := if sqrt (nm p) = 0 then (if k = 0 then 16777216 else 0) else div (p k) (sqrt (nm p))
def unB (p : Nat → Int) : Bool := if sqrt (nm p) = 0 then true else (nmB p || sqrtB (nm p) || anyB (fun k => divB (p k) (sqrt (nm p))) 4)
/-- turned round, but for the first one -/
def cj (p : Nat → Int) (k : Nat) : Int := if k = 0 then p 0 else sub 0 (p k)
def cjB (p : Nat → Int) (k : Nat) : Bool := if k = 0 then false else subB 0 (p k)
end Qm

theorem enters32 : ∀ (args : Array Value) (a : World), Sem.run Tryd.prog (callFunc 32 args) a = Result.ok (Next.enter 32 args) a := by
  intro args a; simp [callFunc, Tryd.func32, go_sem]; rfl
theorem enters34 : ∀ (args : Array Value) (a : World), Sem.run Tryd.prog (callFunc 34 args) a = Result.ok (Next.enter 34 args) a := by
  intro args a; simp [callFunc, Tryd.func34, go_sem]; rfl
theorem enters60 : ∀ (args : Array Value) (a : World), Sem.run Tryd.prog (callFunc 60 args) a = Result.ok (Next.enter 60 args) a := by
  intro args a; simp [callFunc, Tryd.func60, go_sem]; rfl
theorem enters40 : ∀ (args : Array Value) (a : World), Sem.run Tryd.prog (callFunc 40 args) a = Result.ok (Next.enter 40 args) a := by
  intro args a; simp [callFunc, Tryd.func40, go_sem]; rfl
theorem div_calm (a b : Int) (w : World) (d : Nat) (os : Array Obj) : Calls Tryd.prog 35 #[.int .i64 a, .int .i64 b] (grow (redrawn w d) os) fun e w'' => e = .returned (.tuple #[.int .i64 (div a b), .bool (divB a b)]) ∧ ∃ p : Regrown, w'' = grow (redrawn w p.d) p.os :=
  Calls.regrown_of (div_any a b _)

set_option maxHeartbeats 1000000 in
theorem norm1_any (i : Nat) (hi : i < 4) (P : Nat) (p : Nat → Int) (w : World) (hP : Box4 w P p) :
    Calls Tryd.prog 32 #[.int .i64 i, .pointer (some ⟨P, 0, none⟩)] w fun e w' => e = .returned (.tuple #[.int .i64 (mul (p i) (p i)), .bool (mulB (p i) (p i))]) ∧ Below w.heap.size w w' := by
  have c1 := cell_regrown (hP i hi)
  have cM := mul_calm (p i) (p i) w
  obtain ⟨x, hx'⟩ : ∃ x, p i = x := ⟨_, rfl⟩
  rw [hx'] at c1 cM ⊢
  clear hx' hP
  have i1 : (i : Int) < 4 := by omega
  have i2 : (0 : Int) ≤ (i : Int) := by omega
  go_enter Tryd.func32, Tryd.ntmps32
  go_wp2
  refine wp_region_quiet_below (by kernel_rfl) (by kernel_rfl) ?_
  repeat (quiet_step (first | exact cM _ _))
  refine wpQuiet_nil ?_
  intro _ hw'
  obtain ⟨⟨dq, osq⟩, hw''⟩ := hw'
  subst hw''
  go_wp2
  go_ret2
  exact ⟨rfl, below_regrown w dq osq⟩

set_option maxHeartbeats 1000000 in
theorem norm_any (p : Nat → Int) (w : World) :
    Calls Tryd.prog 13 #[.agg #[.int .i64 (p 0), .int .i64 (p 1), .int .i64 (p 2), .int .i64 (p 3)]] w fun e w' => e = .returned (.tuple #[.int .i64 (nm p), .bool (nmB p)]) ∧ Below w.heap.size w w' := by
  have hsm := summed_any 32 enters32 #[.pointer (some ⟨w.heap.size, 0, none⟩)] (fun k => mul (p k) (p k)) (fun k => mulB (p k) (p k)) (w.alloc (.cells #[.int .i64 (p 0), .int .i64 (p 1), .int .i64 (p 2), .int .i64 (p 3)] 24)) (by
    intro i a hi hb
    exact norm1_any i hi w.heap.size p a ((Box4.of (heap_new _ _)).below hb))
  change Calls Tryd.prog 27 _ _ (fun e b => e = .returned (.tuple #[.int .i64 (nm p), .bool (nmB p)]) ∧ _) at hsm
  obtain ⟨D, hD⟩ : ∃ D, nm p = D := ⟨_, rfl⟩
  obtain ⟨E, hE⟩ : ∃ E, nmB p = E := ⟨_, rfl⟩
  rw [hD, hE] at hsm ⊢
  clear hD hE
  go_enter Tryd.func13, Tryd.ntmps13
  go_wp2_with (go_at_call 27; refine hsm.mono ?_; rintro e wx ⟨rfl, bx⟩)
  go_ret2
  exact ⟨rfl, bt (ball1 _ _) bx⟩

set_option maxHeartbeats 1000000 in
theorem unit1_any (i : Nat) (hi : i < 4) (P L : Nat) (p : Nat → Int) (n : Int) (w : World) (hP : Box4 w P p) (hL : w.cell? ⟨L, 0, none⟩ = some (.int .i64 n)) :
    Calls Tryd.prog 34 #[.int .i64 i, .pointer (some ⟨P, 0, none⟩), .pointer (some ⟨L, 0, none⟩)] w fun e w' => e = .returned (.tuple #[.int .i64 (div (p i) n), .bool (divB (p i) n)]) ∧ Below w.heap.size w w' := by
  have c1 := cell_regrown (hP i hi)
  have c2 := cell_regrown hL
  have cM := div_calm (p i) n w
  obtain ⟨x, hx'⟩ : ∃ x, p i = x := ⟨_, rfl⟩
  rw [hx'] at c1 cM ⊢
  clear hx' hP hL
  have i1 : (i : Int) < 4 := by omega
  have i2 : (0 : Int) ≤ (i : Int) := by omega
  go_enter Tryd.func34, Tryd.ntmps34
  go_wp2
  refine wp_region_quiet_below (by kernel_rfl) (by kernel_rfl) ?_
  repeat (quiet_step (first | exact cM _ _))
  refine wpQuiet_nil ?_
  intro _ hw'
  obtain ⟨⟨dq, osq⟩, hw''⟩ := hw'
  subst hw''
  go_wp2
  go_ret2
  exact ⟨rfl, below_regrown w dq osq⟩

set_option maxHeartbeats 1000000 in
theorem turned1_any (i : Nat) (hi : i < 4) (P : Nat) (p : Nat → Int) (w : World) (hP : Box4 w P p) :
    Calls Tryd.prog 60 #[.int .i64 i, .pointer (some ⟨P, 0, none⟩)] w fun e w' => e = .returned (.tuple #[.int .i64 (cj p i), .bool (cjB p i)]) ∧ Below w.heap.size w w' := by
  have c0 := hP 0 (by omega)
  have c1 := hP i hi
  unfold cj cjB
  by_cases h : i = 0
  · subst h
    clear hP
    simp only [if_true]
    go_enter Tryd.func60, Tryd.ntmps60
    go_wp2
    go_ret2
    exact ⟨rfl, Below.refl _ _⟩
  · rw [if_neg h, if_neg h]
    obtain ⟨x, hx'⟩ : ∃ x, p i = x := ⟨_, rfl⟩
    rw [hx'] at c1 ⊢
    clear hx' hP c0
    have h0 : ((i : Int) == 0) = false := by simp; omega
    go_enter Tryd.func60, Tryd.ntmps60
    go_wp2_with (go_at_call 30; refine (sub_any _ _ _).mono ?_; rintro e wy ⟨rfl, rfl⟩)
    go_ret2
    exact ⟨rfl, Below.refl _ _⟩

set_option maxHeartbeats 1000000 in
theorem right1_any (i : Nat) (hi : i < 4) (P : Nat) (p : Nat → Int) (w : World) (hP : Box4 w P p) :
    Calls Tryd.prog 40 #[.int .i64 i, .pointer (some ⟨P, 0, none⟩)] w fun e w' => e = .returned (.tuple #[.int .i64 (cl (p i)), .bool (ob (p i))]) ∧ Below w.heap.size w w' := by
  have c1 := hP i hi
  obtain ⟨x, hx'⟩ : ∃ x, p i = x := ⟨_, rfl⟩
  rw [hx'] at c1 ⊢
  clear hx' hP
  go_enter Tryd.func40, Tryd.ntmps40
  go_wp2_with (go_at_call 41; refine (clamp_any _ _).mono ?_; rintro e wy ⟨rfl, rfl⟩)
  go_ret2
  exact ⟨rfl, Below.refl _ _⟩

set_option maxHeartbeats 1000000 in
theorem turned_any (p : Nat → Int) (w : World) :
    Calls Tryd.prog 38 #[.agg #[.int .i64 (p 0), .int .i64 (p 1), .int .i64 (p 2), .int .i64 (p 3)]] w fun e w' => e = .returned (.tuple #[.agg #[.int .i64 (cj p 0), .int .i64 (cj p 1), .int .i64 (cj p 2), .int .i64 (cj p 3)], .bool (anyB (cjB p) 4)]) ∧ Below w.heap.size w w' := by
  obtain ⟨W, hW⟩ : ∃ W, (w.alloc (.cells #[.int .i64 (p 0), .int .i64 (p 1), .int .i64 (p 2), .int .i64 (p 3)] 24)).alloc (.cells #[.int .i64 0, .int .i64 0, .int .i64 0, .int .i64 0] 24) = W := ⟨_, rfl⟩
  obtain ⟨g1, g2⟩ := allocs2 w (.cells #[.int .i64 (p 0), .int .i64 (p 1), .int .i64 (p 2), .int .i64 (p 3)] 24) (.cells #[.int .i64 0, .int .i64 0, .int .i64 0, .int .i64 0] 24)
  have bW := ball2 w (.cells #[.int .i64 (p 0), .int .i64 (p 1), .int .i64 (p 2), .int .i64 (p 3)] 24) (.cells #[.int .i64 0, .int .i64 0, .int .i64 0, .int .i64 0] 24)
  rw [hW] at g1 g2 bW
  have ht := told_any 60 enters60 #[.pointer (some ⟨w.heap.size, 0, none⟩)] (cj p) (cjB p) W (by
    intro k a hk hb
    exact turned1_any k hk w.heap.size p a ((Box4.of g1).below hb))
  obtain ⟨X, hX⟩ : ∃ X, anyB (cjB p) 4 = X := ⟨_, rfl⟩
  obtain ⟨z0, hz0⟩ : ∃ z, cj p 0 = z := ⟨_, rfl⟩
  obtain ⟨z1, hz1⟩ : ∃ z, cj p 1 = z := ⟨_, rfl⟩
  obtain ⟨z2, hz2⟩ : ∃ z, cj p 2 = z := ⟨_, rfl⟩
  obtain ⟨z3, hz3⟩ : ∃ z, cj p 3 = z := ⟨_, rfl⟩
  rw [hX, hz0, hz1, hz2, hz3] at ht ⊢
  rw [← hW] at ht
  have HW : Hid (_ = W) := hW
  clear hX hz0 hz1 hz2 hz3 hW
  go_enter Tryd.func38, Tryd.ntmps38
  go_wp2_with (go_at_call 25; refine ht.mono ?_; rintro e wx ⟨rfl, bx⟩; rw [HW.out] at bx; obtain ⟨d0, d1, d2, d3, f0, f1, f2, f3⟩ := four_cells (keep bx g2))
  refine bodyPost_ret (v := .tuple #[.agg #[.int .i64 z0, .int .i64 z1, .int .i64 z2, .int .i64 z3], .bool X]) (by simp [results, Tryd.results38, go_sem, d0, d1, d2, d3]) rfl ?_
  exact ⟨rfl, put4 (bt bW bx) (by omega) _ _ _ _⟩

set_option maxHeartbeats 1000000 in
theorem conj_any (p : Nat → Int) (w : World) :
    Calls Tryd.prog 17 #[.agg #[.int .i64 (p 0), .int .i64 (p 1), .int .i64 (p 2), .int .i64 (p 3)]] w fun e w' => e = .returned (.agg #[.int .i64 (cj p 0), .int .i64 (cj p 1), .int .i64 (cj p 2), .int .i64 (cj p 3)]) ∧ Below w.heap.size w w' := by
  have g2 := (allocs2 w (.cells #[.int .i64 (p 0), .int .i64 (p 1), .int .i64 (p 2), .int .i64 (p 3)] 24) (.cells #[.int .i64 0, .int .i64 0, .int .i64 0, .int .i64 0] 24)).2
  have bW := ball2 w (.cells #[.int .i64 (p 0), .int .i64 (p 1), .int .i64 (p 2), .int .i64 (p 3)] 24) (.cells #[.int .i64 0, .int .i64 0, .int .i64 0, .int .i64 0] 24)
  have ht := turned_any p ((w.alloc (.cells #[.int .i64 (p 0), .int .i64 (p 1), .int .i64 (p 2), .int .i64 (p 3)] 24)).alloc (.cells #[.int .i64 0, .int .i64 0, .int .i64 0, .int .i64 0] 24))
  obtain ⟨z0, hz0⟩ : ∃ z, cj p 0 = z := ⟨_, rfl⟩
  obtain ⟨z1, hz1⟩ : ∃ z, cj p 1 = z := ⟨_, rfl⟩
  obtain ⟨z2, hz2⟩ : ∃ z, cj p 2 = z := ⟨_, rfl⟩
  obtain ⟨z3, hz3⟩ : ∃ z, cj p 3 = z := ⟨_, rfl⟩
  rw [hz0, hz1, hz2, hz3] at ht ⊢
  clear hz0 hz1 hz2 hz3
  have G2 : Hid _ := g2
  clear g2
  go_enter Tryd.func17, Tryd.ntmps17
  go_wp2_with (go_at_call 38; refine ht.mono ?_; rintro e wx ⟨rfl, bx⟩; obtain ⟨d0, d1, d2, d3, f0, f1, f2, f3⟩ := four_cells (heap_old (keep bx G2.out) (.cells #[.int .i64 z0, .int .i64 z1, .int .i64 z2, .int .i64 z3] 24)))
  refine bodyPost_ret (v := .agg #[.int .i64 z0, .int .i64 z1, .int .i64 z2, .int .i64 z3]) (by simp [results, Tryd.results17, go_sem, d0, d1, d2, d3]) rfl ?_
  exact ⟨rfl, put4 ((bt bW bx).alloc ((bt bW bx).size) _) (by omega) _ _ _ _⟩

set_option maxHeartbeats 1000000 in
theorem right_any (p : Nat → Int) (w : World) :
    Calls Tryd.prog 19 #[.agg #[.int .i64 (p 0), .int .i64 (p 1), .int .i64 (p 2), .int .i64 (p 3)]] w fun e w' => e = .returned (.bool (!anyB (fun k => ob (p k)) 4)) ∧ Below w.heap.size w w' := by
  have ht := told_any 40 enters40 #[.pointer (some ⟨w.heap.size, 0, none⟩)] (fun k => cl (p k)) (fun k => ob (p k)) (w.alloc (.cells #[.int .i64 (p 0), .int .i64 (p 1), .int .i64 (p 2), .int .i64 (p 3)] 24)) (by
    intro k a hk hb
    exact right1_any k hk w.heap.size p a ((Box4.of (heap_new _ _)).below hb))
  obtain ⟨X, hX⟩ : ∃ X, anyB (fun k => ob (p k)) 4 = X := ⟨_, rfl⟩
  rw [hX] at ht ⊢
  clear hX
  go_enter Tryd.func19, Tryd.ntmps19
  go_wp2_with (go_at_call 25; refine ht.mono ?_; rintro e wx ⟨rfl, bx⟩)
  go_ret
  exact ⟨rfl, (bt (ball1 _ _) bx).alloc (bt (ball1 _ _) bx).size _⟩
end Go.Proofs.YtgekignonjfaiaaDoor
