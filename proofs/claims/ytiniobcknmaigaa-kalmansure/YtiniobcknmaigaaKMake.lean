/-
  The contracts of the code's steps (closures over a matrix, or a number), and of what makes them.
-/
import Derived.Test.YtiniobcknmaigaaKReck
namespace Go.Proofs.Ytiniobcknmaigaa
open Go.RowKit Go.Sort Qm

theorem enters_left : ∀ (args : Array Value) (a : World), Sem.run Try.prog (callFunc 68 args) a = Result.ok (Next.enter 68 args) a := by
  intro args a
  simp [callFunc, Try.func68, go_sem]
  rfl
set_option maxRecDepth 20000 in
set_option maxHeartbeats 800000 in
theorem left1_any (R N C : Nat) (r1 : 1 ≤ R) (hR : R ≤ 8) (n1 : 1 ≤ N) (hN : N ≤ 8) (c1 : 1 ≤ C) (hC : C ≤ 8) (A : Nat) (va vm : Value) (xs ys : List Int) (hx : xs.length = R * N) (hy : ys.length = N * C) (w : World) (hA : w.heap[A]? = some (.cells #[.int .i64 R, .int .i64 N, va] 24 (0, 0))) (sa : Sees w va xs) (sm : Sees w vm ys) :
    Calls Try.prog 68 #[.agg #[.int .i64 N, .int .i64 C, vm], .pointer (some ⟨A, 0, none⟩)] w fun e b => ∃ s', e = .returned (.tuple #[.agg #[.int .i64 R, .int .i64 C, s'], .bool (prdB R N C xs ys), .int .i64 0]) ∧ Sees b s' (prd R N C xs ys) ∧ New w.heap.size s' ∧ Below w.heap.size w b := by
  obtain ⟨ao, acap, rfl⟩ := sa.slice
  obtain ⟨mo, mcap, rfl⟩ := sm.slice
  obtain ⟨W, hW⟩ : ∃ W, (w.alloc (.cells #[.int .i64 N, .int .i64 C, .slice mo ys.length mcap] 24)).alloc (.cells #[.int .i64 0, .int .i64 0, .slice none 0 0] 24) = W := ⟨_, rfl⟩
  obtain ⟨x1, x2⟩ := allocs2 w (.cells #[.int .i64 N, .int .i64 C, .slice mo ys.length mcap] 24) (.cells #[.int .i64 0, .int .i64 0, .slice none 0 0] 24)
  have bW := ball2 w (.cells #[.int .i64 N, .int .i64 C, .slice mo ys.length mcap] 24) (.cells #[.int .i64 0, .int .i64 0, .slice none 0 0] 24)
  rw [hW] at x1 x2 bW
  obtain ⟨c0, c1', c2, _⟩ := mat_cells (keep bW hA)
  obtain ⟨d0, d1, d2, _⟩ := mat_cells x1
  have k1 := (mul_mat R N C r1 hR n1 hN c1 hC _ _ xs ys hx hy W (sa.below bW) (sm.below bW))
  have HW : Hid (_ = W) := hW
  have HWs : Hid (w.heap.size + 2 = W.heap.size) := by rw [← hW]; simp [Hid]
  generalize prd R N C xs ys = zs at k1 ⊢
  generalize prdB R N C xs ys = fl at k1 ⊢
  clear hx hy
  go_enter Try.func68, Try.ntmps68
  go_wp2_with (go_at_call 69; refine k1.mono ?_; rintro e wx ⟨vx, rfl, sx, nx, bx⟩; obtain ⟨xo, xc, rfl⟩ := sx.slice; obtain ⟨e0, e1, e2, f0, f1, f2⟩ := mat_cells (keep bx x2))
  refine bodyPost_ret (v := .tuple #[.agg #[.int .i64 R, .int .i64 C, .slice xo zs.length xc], .bool fl, .int .i64 0]) (by simp [results, Try.results68, go_sem, e0, e1, e2]) rfl ?_
  exact ⟨_, rfl, sx.put nx (lt_of_block x2) _ _ _, nx.mono bW.size, below_put (bt bW bx) (Nat.le_succ _) _ _ _⟩
theorem left_any (r c : Int) (ao : Option Addr) (n cap : Nat) (w : World) :
    Calls Try.prog 42 #[.agg #[.int .i64 r, .int .i64 c, .slice ao n cap]] w fun e b => e = .returned (.func (.func 68) #[] #[.pointer (some ⟨w.heap.size, 0, none⟩)]) ∧ b = w.alloc (.cells #[.int .i64 r, .int .i64 c, .slice ao n cap] 24) := by
  go_enter Try.func42, Try.ntmps42
  go_wp2
  go_ret
  exact ⟨rfl, rfl⟩
theorem enters_rght : ∀ (args : Array Value) (a : World), Sem.run Try.prog (callFunc 70 args) a = Result.ok (Next.enter 70 args) a := by
  intro args a
  simp [callFunc, Try.func70, go_sem]
  rfl
set_option maxRecDepth 20000 in
set_option maxHeartbeats 800000 in
theorem rght1_any (R N C : Nat) (r1 : 1 ≤ R) (hR : R ≤ 8) (n1 : 1 ≤ N) (hN : N ≤ 8) (c1 : 1 ≤ C) (hC : C ≤ 8) (A : Nat) (va vm : Value) (xs ys : List Int) (hx : xs.length = N * C) (hy : ys.length = R * N) (w : World) (hA : w.heap[A]? = some (.cells #[.int .i64 N, .int .i64 C, va] 24 (0, 0))) (sa : Sees w va xs) (sm : Sees w vm ys) :
    Calls Try.prog 70 #[.agg #[.int .i64 R, .int .i64 N, vm], .pointer (some ⟨A, 0, none⟩)] w fun e b => ∃ s', e = .returned (.tuple #[.agg #[.int .i64 R, .int .i64 C, s'], .bool (prdB R N C ys xs), .int .i64 0]) ∧ Sees b s' (prd R N C ys xs) ∧ New w.heap.size s' ∧ Below w.heap.size w b := by
  obtain ⟨ao, acap, rfl⟩ := sa.slice
  obtain ⟨mo, mcap, rfl⟩ := sm.slice
  obtain ⟨W, hW⟩ : ∃ W, (w.alloc (.cells #[.int .i64 R, .int .i64 N, .slice mo ys.length mcap] 24)).alloc (.cells #[.int .i64 0, .int .i64 0, .slice none 0 0] 24) = W := ⟨_, rfl⟩
  obtain ⟨x1, x2⟩ := allocs2 w (.cells #[.int .i64 R, .int .i64 N, .slice mo ys.length mcap] 24) (.cells #[.int .i64 0, .int .i64 0, .slice none 0 0] 24)
  have bW := ball2 w (.cells #[.int .i64 R, .int .i64 N, .slice mo ys.length mcap] 24) (.cells #[.int .i64 0, .int .i64 0, .slice none 0 0] 24)
  rw [hW] at x1 x2 bW
  obtain ⟨c0, c1', c2, _⟩ := mat_cells (keep bW hA)
  obtain ⟨d0, d1, d2, _⟩ := mat_cells x1
  have k1 := (mul_mat R N C r1 hR n1 hN c1 hC _ _ ys xs hy hx W (sm.below bW) (sa.below bW))
  have HW : Hid (_ = W) := hW
  have HWs : Hid (w.heap.size + 2 = W.heap.size) := by rw [← hW]; simp [Hid]
  generalize prd R N C ys xs = zs at k1 ⊢
  generalize prdB R N C ys xs = fl at k1 ⊢
  clear hx hy
  go_enter Try.func70, Try.ntmps70
  go_wp2_with (go_at_call 69; refine k1.mono ?_; rintro e wx ⟨vx, rfl, sx, nx, bx⟩; obtain ⟨xo, xc, rfl⟩ := sx.slice; obtain ⟨e0, e1, e2, f0, f1, f2⟩ := mat_cells (keep bx x2))
  refine bodyPost_ret (v := .tuple #[.agg #[.int .i64 R, .int .i64 C, .slice xo zs.length xc], .bool fl, .int .i64 0]) (by simp [results, Try.results70, go_sem, e0, e1, e2]) rfl ?_
  exact ⟨_, rfl, sx.put nx (lt_of_block x2) _ _ _, nx.mono bW.size, below_put (bt bW bx) (Nat.le_succ _) _ _ _⟩
theorem rght_any (r c : Int) (ao : Option Addr) (n cap : Nat) (w : World) :
    Calls Try.prog 43 #[.agg #[.int .i64 r, .int .i64 c, .slice ao n cap]] w fun e b => e = .returned (.func (.func 70) #[] #[.pointer (some ⟨w.heap.size, 0, none⟩)]) ∧ b = w.alloc (.cells #[.int .i64 r, .int .i64 c, .slice ao n cap] 24) := by
  go_enter Try.func43, Try.ntmps43
  go_wp2
  go_ret
  exact ⟨rfl, rfl⟩
theorem enters_plus : ∀ (args : Array Value) (a : World), Sem.run Try.prog (callFunc 71 args) a = Result.ok (Next.enter 71 args) a := by
  intro args a
  simp [callFunc, Try.func71, go_sem]
  rfl
set_option maxRecDepth 20000 in
set_option maxHeartbeats 800000 in
theorem plus1_any (R C : Nat) (r1 : 1 ≤ R) (hR : R ≤ 8) (c1 : 1 ≤ C) (hC : C ≤ 8) (A : Nat) (va vm : Value) (xs ys : List Int) (hx : xs.length = R * C) (hy : ys.length = R * C) (w : World) (hA : w.heap[A]? = some (.cells #[.int .i64 R, .int .i64 C, va] 24 (0, 0))) (sa : Sees w va xs) (sm : Sees w vm ys) :
    Calls Try.prog 71 #[.agg #[.int .i64 R, .int .i64 C, vm], .pointer (some ⟨A, 0, none⟩)] w fun e b => ∃ s', e = .returned (.tuple #[.agg #[.int .i64 R, .int .i64 C, s'], .bool (paiB addB xs ys), .int .i64 0]) ∧ Sees b s' (pai add xs ys) ∧ New w.heap.size s' ∧ Below w.heap.size w b := by
  obtain ⟨ao, acap, rfl⟩ := sa.slice
  obtain ⟨mo, mcap, rfl⟩ := sm.slice
  obtain ⟨W, hW⟩ : ∃ W, (w.alloc (.cells #[.int .i64 R, .int .i64 C, .slice mo ys.length mcap] 24)).alloc (.cells #[.int .i64 0, .int .i64 0, .slice none 0 0] 24) = W := ⟨_, rfl⟩
  obtain ⟨x1, x2⟩ := allocs2 w (.cells #[.int .i64 R, .int .i64 C, .slice mo ys.length mcap] 24) (.cells #[.int .i64 0, .int .i64 0, .slice none 0 0] 24)
  have bW := ball2 w (.cells #[.int .i64 R, .int .i64 C, .slice mo ys.length mcap] 24) (.cells #[.int .i64 0, .int .i64 0, .slice none 0 0] 24)
  rw [hW] at x1 x2 bW
  obtain ⟨c0, c1', c2, _⟩ := mat_cells (keep bW hA)
  obtain ⟨d0, d1, d2, _⟩ := mat_cells x1
  have k1 := (add_mat R C r1 hR c1 hC _ _ xs ys hx hy W (sa.below bW) (sm.below bW))
  have HW : Hid (_ = W) := hW
  have HWs : Hid (w.heap.size + 2 = W.heap.size) := by rw [← hW]; simp [Hid]
  generalize pai add xs ys = zs at k1 ⊢
  generalize paiB addB xs ys = fl at k1 ⊢
  clear hx hy
  go_enter Try.func71, Try.ntmps71
  go_wp2_with (go_at_call 72; refine k1.mono ?_; rintro e wx ⟨vx, rfl, sx, nx, bx⟩; obtain ⟨xo, xc, rfl⟩ := sx.slice; obtain ⟨e0, e1, e2, f0, f1, f2⟩ := mat_cells (keep bx x2))
  refine bodyPost_ret (v := .tuple #[.agg #[.int .i64 R, .int .i64 C, .slice xo zs.length xc], .bool fl, .int .i64 0]) (by simp [results, Try.results71, go_sem, e0, e1, e2]) rfl ?_
  exact ⟨_, rfl, sx.put nx (lt_of_block x2) _ _ _, nx.mono bW.size, below_put (bt bW bx) (Nat.le_succ _) _ _ _⟩
theorem plus_any (r c : Int) (ao : Option Addr) (n cap : Nat) (w : World) :
    Calls Try.prog 44 #[.agg #[.int .i64 r, .int .i64 c, .slice ao n cap]] w fun e b => e = .returned (.func (.func 71) #[] #[.pointer (some ⟨w.heap.size, 0, none⟩)]) ∧ b = w.alloc (.cells #[.int .i64 r, .int .i64 c, .slice ao n cap] 24) := by
  go_enter Try.func44, Try.ntmps44
  go_wp2
  go_ret
  exact ⟨rfl, rfl⟩
theorem enters_less : ∀ (args : Array Value) (a : World), Sem.run Try.prog (callFunc 98 args) a = Result.ok (Next.enter 98 args) a := by
  intro args a
  simp [callFunc, Try.func98, go_sem]
  rfl
set_option maxRecDepth 20000 in
set_option maxHeartbeats 800000 in
theorem less1_any (R C : Nat) (r1 : 1 ≤ R) (hR : R ≤ 8) (c1 : 1 ≤ C) (hC : C ≤ 8) (A : Nat) (va vm : Value) (xs ys : List Int) (hx : xs.length = R * C) (hy : ys.length = R * C) (w : World) (hA : w.heap[A]? = some (.cells #[.int .i64 R, .int .i64 C, va] 24 (0, 0))) (sa : Sees w va xs) (sm : Sees w vm ys) :
    Calls Try.prog 98 #[.agg #[.int .i64 R, .int .i64 C, vm], .pointer (some ⟨A, 0, none⟩)] w fun e b => ∃ s', e = .returned (.tuple #[.agg #[.int .i64 R, .int .i64 C, s'], .bool (paiB subB xs ys), .int .i64 0]) ∧ Sees b s' (pai sub xs ys) ∧ New w.heap.size s' ∧ Below w.heap.size w b := by
  obtain ⟨ao, acap, rfl⟩ := sa.slice
  obtain ⟨mo, mcap, rfl⟩ := sm.slice
  obtain ⟨W, hW⟩ : ∃ W, (w.alloc (.cells #[.int .i64 R, .int .i64 C, .slice mo ys.length mcap] 24)).alloc (.cells #[.int .i64 0, .int .i64 0, .slice none 0 0] 24) = W := ⟨_, rfl⟩
  obtain ⟨x1, x2⟩ := allocs2 w (.cells #[.int .i64 R, .int .i64 C, .slice mo ys.length mcap] 24) (.cells #[.int .i64 0, .int .i64 0, .slice none 0 0] 24)
  have bW := ball2 w (.cells #[.int .i64 R, .int .i64 C, .slice mo ys.length mcap] 24) (.cells #[.int .i64 0, .int .i64 0, .slice none 0 0] 24)
  rw [hW] at x1 x2 bW
  obtain ⟨c0, c1', c2, _⟩ := mat_cells (keep bW hA)
  obtain ⟨d0, d1, d2, _⟩ := mat_cells x1
  have k1 := (sub_mat R C r1 hR c1 hC _ _ xs ys hx hy W (sa.below bW) (sm.below bW))
  have HW : Hid (_ = W) := hW
  have HWs : Hid (w.heap.size + 2 = W.heap.size) := by rw [← hW]; simp [Hid]
  generalize pai sub xs ys = zs at k1 ⊢
  generalize paiB subB xs ys = fl at k1 ⊢
  clear hx hy
  go_enter Try.func98, Try.ntmps98
  go_wp2_with (go_at_call 99; refine k1.mono ?_; rintro e wx ⟨vx, rfl, sx, nx, bx⟩; obtain ⟨xo, xc, rfl⟩ := sx.slice; obtain ⟨e0, e1, e2, f0, f1, f2⟩ := mat_cells (keep bx x2))
  refine bodyPost_ret (v := .tuple #[.agg #[.int .i64 R, .int .i64 C, .slice xo zs.length xc], .bool fl, .int .i64 0]) (by simp [results, Try.results98, go_sem, e0, e1, e2]) rfl ?_
  exact ⟨_, rfl, sx.put nx (lt_of_block x2) _ _ _, nx.mono bW.size, below_put (bt bW bx) (Nat.le_succ _) _ _ _⟩
theorem less_any (r c : Int) (ao : Option Addr) (n cap : Nat) (w : World) :
    Calls Try.prog 78 #[.agg #[.int .i64 r, .int .i64 c, .slice ao n cap]] w fun e b => e = .returned (.func (.func 98) #[] #[.pointer (some ⟨w.heap.size, 0, none⟩)]) ∧ b = w.alloc (.cells #[.int .i64 r, .int .i64 c, .slice ao n cap] 24) := by
  go_enter Try.func78, Try.ntmps78
  go_wp2
  go_ret
  exact ⟨rfl, rfl⟩
end Go.Proofs.Ytiniobcknmaigaa
