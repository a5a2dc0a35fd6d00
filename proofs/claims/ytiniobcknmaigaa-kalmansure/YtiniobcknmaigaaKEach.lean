/-
  The contracts of the code's steps over numbers: each, scaled; and of the closures over one number.
-/
import Derived.Test.YtiniobcknmaigaaKMake
import Derived.Test.YtiniobcknmaigaaDiv
namespace Go.Proofs.Ytiniobcknmaigaa
open Go.RowKit Go.Sort Qm

theorem enters_each : ∀ (args : Array Value) (a : World), Sem.run Try.prog (callFunc 79 args) a = Result.ok (Next.enter 79 args) a := by
  intro args a
  simp [callFunc, Try.func79, go_sem]
  rfl
theorem enters_scaled : ∀ (args : Array Value) (a : World), Sem.run Try.prog (callFunc 95 args) a = Result.ok (Next.enter 95 args) a := by
  intro args a
  simp [callFunc, Try.func95, go_sem]
  rfl
theorem enters_in1 : ∀ (args : Array Value) (a : World), Sem.run Try.prog (callFunc 49 args) a = Result.ok (Next.enter 49 args) a := by
  intro args a
  simp [callFunc, Try.func49, go_sem]
  rfl
theorem enters_in2 : ∀ (args : Array Value) (a : World), Sem.run Try.prog (callFunc 51 args) a = Result.ok (Next.enter 51 args) a := by
  intro args a
  simp [callFunc, Try.func51, go_sem]
  rfl
theorem enters_co1 : ∀ (args : Array Value) (a : World), Sem.run Try.prog (callFunc 74 args) a = Result.ok (Next.enter 74 args) a := by
  intro args a
  simp [callFunc, Try.func74, go_sem]
  rfl
theorem in1_any (z n : Int) (Z : Nat) (w : World) (hZ : w.cell? ⟨Z, 0, none⟩ = some (.int .i64 z)) : Calls Try.prog 49 #[.int .i64 n, .pointer (some ⟨Z, 0, none⟩)] w fun e b => e = .returned (.tuple #[.int .i64 (sub z n), .bool (subB z n)]) ∧ Below w.heap.size w b := by
  go_enter Try.func49, Try.ntmps49
  go_wp2_with (go_at_call 50; refine (sub_any z n _).mono ?_; rintro e wx ⟨rfl, rfl⟩)
  refine bodyPost_ret (v := .tuple #[.int .i64 (sub z n), .bool (subB z n)]) (by simp [results, Try.results49, go_sem]) rfl ?_
  exact ⟨rfl, Below.refl _ _⟩
theorem in2_any (z n : Int) (Z : Nat) (w : World) (hZ : w.cell? ⟨Z, 0, none⟩ = some (.int .i64 z)) : Calls Try.prog 51 #[.int .i64 n, .pointer (some ⟨Z, 0, none⟩)] w fun e b => e = .returned (.tuple #[.int .i64 (add n z), .bool (addB n z)]) ∧ Below w.heap.size w b := by
  go_enter Try.func51, Try.ntmps51
  go_wp2_with (go_at_call 52; refine (add_any n z _).mono ?_; rintro e wx ⟨rfl, rfl⟩)
  refine bodyPost_ret (v := .tuple #[.int .i64 (add n z), .bool (addB n z)]) (by simp [results, Try.results51, go_sem]) rfl ?_
  exact ⟨rfl, Below.refl _ _⟩
theorem co1_any (z n : Int) (Z : Nat) (w : World) (hZ : w.cell? ⟨Z, 0, none⟩ = some (.int .i64 z)) : Calls Try.prog 74 #[.int .i64 n, .pointer (some ⟨Z, 0, none⟩)] w fun e b => e = .returned (.tuple #[.int .i64 (div n z), .bool (divB n z)]) ∧ Below w.heap.size w b := by
  go_enter Try.func74, Try.ntmps74
  go_wp2_with (go_at_call 75; refine (div_any n z _).mono ?_; rintro e wx ⟨rfl, bx⟩)
  refine bodyPost_ret (v := .tuple #[.int .i64 (div n z), .bool (divB n z)]) (by simp [results, Try.results74, go_sem]) rfl ?_
  exact ⟨rfl, bx⟩
theorem each_any (G : Nat) (caps : Array Value) (w : World) :
    Calls Try.prog 48 #[.func (.func G) #[] caps] w fun e b => e = .returned (.func (.func 79) #[] #[.pointer (some ⟨w.heap.size, 0, none⟩)]) ∧ b = w.alloc (.cells #[.func (.func G) #[] caps] 88) := by
  go_enter Try.func48, Try.ntmps48
  go_wp2
  go_ret
  exact ⟨rfl, rfl⟩
theorem scaled_any (k : Int) (w : World) :
    Calls Try.prog 76 #[.int .i64 k] w fun e b => e = .returned (.func (.func 95) #[] #[.pointer (some ⟨w.heap.size, 0, none⟩)]) ∧ b = w.alloc (.cells #[.int .i64 k] 41) := by
  go_enter Try.func76, Try.ntmps76
  go_wp2
  go_ret
  exact ⟨rfl, rfl⟩
set_option maxRecDepth 20000 in
set_option maxHeartbeats 800000 in
theorem scaled1_any (R C : Nat) (h1 : 1 ≤ R) (hR : R ≤ 8) (h2 : 1 ≤ C) (hC : C ≤ 8) (k : Int) (A : Nat) (vm : Value) (ys : List Int) (hy : ys.length = R * C) (w : World) (hA : w.cell? ⟨A, 0, none⟩ = some (.int .i64 k)) (hAw : A < w.heap.size) (sm : Sees w vm ys) :
    Calls Try.prog 95 #[.agg #[.int .i64 R, .int .i64 C, vm], .pointer (some ⟨A, 0, none⟩)] w fun e b => ∃ s', e = .returned (.tuple #[.agg #[.int .i64 R, .int .i64 C, s'], .bool (sclB ys k), .int .i64 0]) ∧ Sees b s' (scl ys k) ∧ New w.heap.size s' ∧ Below w.heap.size w b := by
  obtain ⟨mo, mcap, rfl⟩ := sm.slice
  obtain ⟨W, hW⟩ : ∃ W, (w.alloc (.cells #[.int .i64 R, .int .i64 C, .slice mo ys.length mcap] 24)).alloc (.cells #[.int .i64 0, .int .i64 0, .slice none 0 0] 24) = W := ⟨_, rfl⟩
  obtain ⟨x1, x2⟩ := allocs2 w (.cells #[.int .i64 R, .int .i64 C, .slice mo ys.length mcap] 24) (.cells #[.int .i64 0, .int .i64 0, .slice none 0 0] 24)
  have bW := ball2 w (.cells #[.int .i64 R, .int .i64 C, .slice mo ys.length mcap] 24) (.cells #[.int .i64 0, .int .i64 0, .slice none 0 0] 24)
  rw [hW] at x1 x2 bW
  have cA : W.cell? ⟨A, 0, none⟩ = some (.int .i64 k) := (bW.cell (p := ⟨A, 0, none⟩) hAw).trans hA
  obtain ⟨d0, d1, d2, _⟩ := mat_cells x1
  have k1 := scale_any R C h1 hR h2 hC k _ ys hy W (sm.below bW)
  have HW : Hid (_ = W) := hW
  generalize scl ys k = zs at k1 ⊢
  generalize sclB ys k = fl at k1 ⊢
  clear hy
  go_enter Try.func95, Try.ntmps95
  go_wp2_with (go_at_call 96; refine k1.mono ?_; rintro e wx ⟨vx, rfl, sx, nx, bx⟩; obtain ⟨xo, xc, rfl⟩ := sx.slice; obtain ⟨e0, e1, e2, f0, f1, f2⟩ := mat_cells (heap_old (keep bx x2) (.cells #[.int .i64 R, .int .i64 C, .slice xo zs.length xc] 24)); obtain ⟨g0, g1, g2, _⟩ := mat_cells (heap_new wx (.cells #[.int .i64 R, .int .i64 C, .slice xo zs.length xc] 24)))
  refine bodyPost_ret (v := .tuple #[.agg #[.int .i64 R, .int .i64 C, .slice xo zs.length xc], .bool fl, .int .i64 0]) (by simp [results, Try.results95, go_sem, e0, e1, e2]) rfl ?_
  exact ⟨_, rfl, (sx.alloc _).put nx (lt_of_block x2) _ _ _, nx.mono bW.size, below_put (bt (bt bW bx) (box_below wx _)) (Nat.le_succ _) _ _ _⟩

end Go.Proofs.Ytiniobcknmaigaa
