/-
  All turns, over trig.turned: of trig.SinCos's rule and of trig.Atan's.
-/
import Derived.Test.YtliebglildaneaaSteps
namespace Go.Proofs.Ytliebglildaneaa
open Go.RowKit Qm Tm

theorem at_start (w : World) (f : Nat) (x y z : Int) (o : Obj) : AtIs ((((w.alloc (.cells #[.int .i64 x, .int .i64 y, .int .i32 z] 41)).alloc (.cells #[.func (Fn.func f) #[] #[]] 43)).alloc (.cells #[.int .i64 0, .int .i64 0, .int .i32 0] 41)).alloc o) w.heap.size f x y z := by
  have a : AtIs (((w.alloc (.cells #[.int .i64 x, .int .i64 y, .int .i32 z] 41)).alloc (.cells #[.func (Fn.func f) #[] #[]] 43)).alloc (.cells #[.int .i64 0, .int .i64 0, .int .i32 0] 41)) w.heap.size f x y z := by
    constructor <;> simp [go_sem]
  exact a.below ((Below.refl _ _).alloc (Nat.le_refl _) _)
theorem bel_start (w : World) (a b c d : Obj) : Below w.heap.size w ((((w.alloc a).alloc b).alloc c).alloc d) := by
  have h1 := (Below.refl w.heap.size w).alloc (Nat.le_refl _) a
  have h2 := h1.alloc h1.size b
  have h3 := h2.alloc h2.size c
  exact h3.alloc h3.size d

set_option maxHeartbeats 1000000 in
/-- all turns -/
theorem turned_sin (z : Int) (w : World) (z0 : -1073741824 ≤ z) (z1 : z ≤ 1073741824) :
    Calls Try.prog 19 #[.agg #[.int .i64 652032874, .int .i64 0, .int .i32 z], .func (Fn.func 20) #[] #[]] w fun e w' => e = .returned (.agg #[.int .i64 (runS z 30).1, .int .i64 (runS z 30).2.1, .int .i32 (runS z 30).2.2]) ∧ Below w.heap.size w w' := by
  obtain ⟨X, hX⟩ : ∃ X, (runS z 30).1 = X := ⟨_, rfl⟩
  obtain ⟨Y, hY⟩ : ∃ Y, (runS z 30).2.1 = Y := ⟨_, rfl⟩
  obtain ⟨Z, hZ⟩ : ∃ Z, (runS z 30).2.2 = Z := ⟨_, rfl⟩
  rw [hX, hY, hZ]
  have HX : Hid ((runS z 30).1 = X ∧ (runS z 30).2.1 = Y ∧ (runS z 30).2.2 = Z) := ⟨hX, hY, hZ⟩
  clear hX hY hZ
  have at0 : AtIs ((((w.alloc (.cells #[.int .i64 652032874, .int .i64 0, .int .i32 z] 41)).alloc (.cells #[.func (Fn.func 20) #[] #[]] 43)).alloc (.cells #[.int .i64 0, .int .i64 0, .int .i32 0] 41)).alloc (.cells TV 48)) w.heap.size 20 652032874 0 z := at_start w 20 _ _ _ _
  have bel0 : Below w.heap.size w ((((w.alloc (.cells #[.int .i64 652032874, .int .i64 0, .int .i32 z] 41)).alloc (.cells #[.func (Fn.func 20) #[] #[]] 43)).alloc (.cells #[.int .i64 0, .int .i64 0, .int .i32 0] 41)).alloc (.cells TV 48)) := bel_start w _ _ _ _
  have A0 : Hid (AtIs _ _ _ _ _ _ ∧ Below _ _ _) := ⟨at0, bel0⟩
  clear at0 bel0
  go_enter Try.func19, Try.ntmps19
  go_wp2_with (go_at_call 27; refine (turns_any _).mono ?_; rintro e w' ⟨rfl, rfl⟩)
  go_loopw [10] (fun i wr => ∃ j : Nat, j ≤ 30 ∧ i = .int .i64 (j : Int) ∧ AtIs wr w.heap.size 20 (runS z j).1 (runS z j).2.1 (runS z j).2.2 ∧ Below w.heap.size w wr) (fun i _ => (30 - intOf i).toNat)
  case atStart => exact ⟨0, by omega, rfl, A0.out.1, A0.out.2⟩
  case round =>
    obtain ⟨j, hj, rfl, hat, hbel⟩ := hrel
    have HAT : Hid (AtIs wr w.heap.size 20 (runS z j).1 (runS z j).2.1 (runS z j).2.2) := hat
    have HB : Hid (Below w.heap.size w wr) := hbel
    clear hat hbel A0
    by_cases lt : j < 30
    · have lt2 : (j : Int) < 30 := by omega
      have hidx := idx48 lt
      have BD : Hid _ := runS_z z0 z1 j (by omega)
      have BE : Hid _ := runS_xy z j (by omega)
      go_wp2_with (go_at_call 28; refine (step_sin j _ _ _ w.heap.size wr lt HAT.out (by have := BE.out; omega) (by have := BE.out; omega) (by have := BE.out; omega) (by have := BE.out; omega) (by have := BD.out; omega) (by have := BD.out; omega)).mono ?_; rintro e w2 ⟨rfl, hat2, hb2⟩)
      go_round
      case rel => exact ⟨j + 1, by omega, by go_num, hat2, HB.out.trans hb2⟩
      case measure => simp [intOf]; omega
    · obtain rfl : j = 30 := by omega
      have nlt : ¬ ((30 : Nat) : Int) < 30 := by omega
      have hh := HX.out
      have hat := HAT.out
      rw [hh.1, hh.2.1, hh.2.2] at hat
      obtain ⟨d0, d1, d2, f0, f1, f2, du, r0, r1, r2, g0, g1, g2, ds⟩ := hat
      clear hh HAT HX
      go_wp2
      refine bodyPost_ret (v := .agg #[.int .i64 X, .int .i64 Y, .int .i32 Z]) (by simp [results, Try.results19, go_sem, r0, r1, r2]) rfl ?_
      exact ⟨rfl, ((HB.out.setCell (p := ⟨w.heap.size + 1 + 1, 0, none⟩) (by show w.heap.size ≤ w.heap.size + 1 + 1; omega) _).setCell (p := ⟨w.heap.size + 1 + 1, 1, none⟩) (by show w.heap.size ≤ w.heap.size + 1 + 1; omega) _).setCell (p := ⟨w.heap.size + 1 + 1, 2, none⟩) (by show w.heap.size ≤ w.heap.size + 1 + 1; omega) _⟩

set_option maxHeartbeats 1000000 in
/-- all turns -/
theorem turned_atan (p q : Int) (w : World) (p0 : -288230376151711744 ≤ p) (p1 : p ≤ 288230376151711744) (q0 : -288230376151711744 ≤ q) (q1 : q ≤ 288230376151711744) :
    Calls Try.prog 19 #[.agg #[.int .i64 p, .int .i64 q, .int .i32 0], .func (Fn.func 25) #[] #[]] w fun e w' => e = .returned (.agg #[.int .i64 (runA p q 30).1, .int .i64 (runA p q 30).2.1, .int .i32 (runA p q 30).2.2]) ∧ Below w.heap.size w w' := by
  obtain ⟨X, hX⟩ : ∃ X, (runA p q 30).1 = X := ⟨_, rfl⟩
  obtain ⟨Y, hY⟩ : ∃ Y, (runA p q 30).2.1 = Y := ⟨_, rfl⟩
  obtain ⟨Z, hZ⟩ : ∃ Z, (runA p q 30).2.2 = Z := ⟨_, rfl⟩
  rw [hX, hY, hZ]
  have HX : Hid ((runA p q 30).1 = X ∧ (runA p q 30).2.1 = Y ∧ (runA p q 30).2.2 = Z) := ⟨hX, hY, hZ⟩
  clear hX hY hZ
  have at0 : AtIs ((((w.alloc (.cells #[.int .i64 p, .int .i64 q, .int .i32 0] 41)).alloc (.cells #[.func (Fn.func 25) #[] #[]] 43)).alloc (.cells #[.int .i64 0, .int .i64 0, .int .i32 0] 41)).alloc (.cells TV 48)) w.heap.size 25 p q 0 := at_start w 25 _ _ _ _
  have bel0 : Below w.heap.size w ((((w.alloc (.cells #[.int .i64 p, .int .i64 q, .int .i32 0] 41)).alloc (.cells #[.func (Fn.func 25) #[] #[]] 43)).alloc (.cells #[.int .i64 0, .int .i64 0, .int .i32 0] 41)).alloc (.cells TV 48)) := bel_start w _ _ _ _
  have A0 : Hid (AtIs _ _ _ _ _ _ ∧ Below _ _ _) := ⟨at0, bel0⟩
  clear at0 bel0
  go_enter Try.func19, Try.ntmps19
  go_wp2_with (go_at_call 27; refine (turns_any _).mono ?_; rintro e w' ⟨rfl, rfl⟩)
  go_loopw [10] (fun i wr => ∃ j : Nat, j ≤ 30 ∧ i = .int .i64 (j : Int) ∧ AtIs wr w.heap.size 25 (runA p q j).1 (runA p q j).2.1 (runA p q j).2.2 ∧ Below w.heap.size w wr) (fun i _ => (30 - intOf i).toNat)
  case atStart => exact ⟨0, by omega, rfl, A0.out.1, A0.out.2⟩
  case round =>
    obtain ⟨j, hj, rfl, hat, hbel⟩ := hrel
    have HAT : Hid (AtIs wr w.heap.size 25 (runA p q j).1 (runA p q j).2.1 (runA p q j).2.2) := hat
    have HB : Hid (Below w.heap.size w wr) := hbel
    clear hat hbel A0
    by_cases lt : j < 30
    · have lt2 : (j : Int) < 30 := by omega
      have hidx := idx48 lt
      have BE : Hid _ := runA_top p0 p1 q0 q1 j (by omega)
      go_wp2_with (go_at_call 28; refine (step_atan j _ _ _ w.heap.size wr lt HAT.out (by have := BE.out; omega) (by have := BE.out; omega) (by have := BE.out; omega) (by have := BE.out; omega) (by have := BE.out; omega) (by have := BE.out; omega)).mono ?_; rintro e w2 ⟨rfl, hat2, hb2⟩)
      go_round
      case rel => exact ⟨j + 1, by omega, by go_num, hat2, HB.out.trans hb2⟩
      case measure => simp [intOf]; omega
    · obtain rfl : j = 30 := by omega
      have nlt : ¬ ((30 : Nat) : Int) < 30 := by omega
      have hh := HX.out
      have hat := HAT.out
      rw [hh.1, hh.2.1, hh.2.2] at hat
      obtain ⟨d0, d1, d2, f0, f1, f2, du, r0, r1, r2, g0, g1, g2, ds⟩ := hat
      clear hh HAT HX
      go_wp2
      refine bodyPost_ret (v := .agg #[.int .i64 X, .int .i64 Y, .int .i32 Z]) (by simp [results, Try.results19, go_sem, r0, r1, r2]) rfl ?_
      exact ⟨rfl, ((HB.out.setCell (p := ⟨w.heap.size + 1 + 1, 0, none⟩) (by show w.heap.size ≤ w.heap.size + 1 + 1; omega) _).setCell (p := ⟨w.heap.size + 1 + 1, 1, none⟩) (by show w.heap.size ≤ w.heap.size + 1 + 1; omega) _).setCell (p := ⟨w.heap.size + 1 + 1, 2, none⟩) (by show w.heap.size ≤ w.heap.size + 1 + 1; omega) _⟩
end Go.Proofs.Ytliebglildaneaa
