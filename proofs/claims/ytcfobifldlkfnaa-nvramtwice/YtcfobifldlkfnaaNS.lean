/-
  Are two stores the same: the code's and the document's; how many words are written; are slots and words short.
-/
import Derived.Test.YtcfobifldlkfnaaNO
namespace Go.Proofs.Ytcfobifldlkfnaa.Gr
open Go.RowKit Go.Sort Qm Nm
set_option linter.unusedVariables false
namespace Nm
def sameA (s t : Nv) : Bool := decide (s.c = t.c) && decide (s.a = t.a)
def sameB (s t : Nv) : Bool := decide (s.d = t.d) && decide (s.b = t.b)
def sameN (s t : Nv) : Bool := sameA s t && sameB s t
theorem sameN_refl (s : Nv) : sameN s s = true := by simp [sameN, sameA, sameB]
end Nm
theorem one_slot {w : World} {b : Nat} {x y : Value} {t : TypeId} (h : w.heap[b]? = some (.cells #[x, y] t (0, 0))) : w.cell? ⟨b, 0, none⟩ = some x ∧ w.cell? ⟨b, 1, none⟩ = some y := two_cells h
set_option maxRecDepth 20000 in
set_option maxHeartbeats 1000000 in
theorem slots_any (x y : Value) (xs ys : List Int) (c d : Int) (w : World) (hx : xs.length ≤ 1000) (hy : ys.length ≤ 1000) (sx : SeesI w x xs) (sy : SeesI w y ys) :
    Calls Try.prog 34 #[.agg #[x, .int .i64 c], .agg #[y, .int .i64 d]] w fun e w' => e = .returned (.bool (decide (c = d) && decide (xs = ys))) ∧ Below w.heap.size w w' := by
  obtain ⟨xo, xcap, rfl⟩ := sx.slice
  obtain ⟨yo, ycap, rfl⟩ := sy.slice
  obtain ⟨W, hW⟩ : ∃ W, (w.alloc (.cells #[.slice xo xs.length xcap, .int .i64 c] 24)).alloc (.cells #[.slice yo ys.length ycap, .int .i64 d] 24) = W := ⟨_, rfl⟩
  have bW : Below w.heap.size w W := by rw [← hW]; exact bt (box_below _ _) (box_below _ _)
  obtain ⟨h1, h2⟩ := heaps2 w (.cells #[.slice xo xs.length xcap, .int .i64 c] 24) (.cells #[.slice yo ys.length ycap, .int .i64 d] 24)
  rw [hW] at h1 h2
  obtain ⟨q1, q2⟩ := two_cells h1
  obtain ⟨q3, q4⟩ := two_cells h2
  have cE := fun (u : World) (h : Below W.heap.size W u) => equal_any _ _ xs ys u (by omega) (by omega) ((sx.below bW).below h) ((sy.below bW).below h)
  have r0 := Below.refl W.heap.size W
  generalize decide (xs = ys) = E at *
  clear sx sy h1 h2
  generalize xs.length = n at *
  generalize ys.length = m at *
  by_cases hc : c = d
  · subst hc
    have d0 : decide (c = c) = true := decide_eq_true rfl
    have d1 : (c == c) = true := by simp
    rw [d0, Bool.true_and]
    --[a
    go_enter Try.func34, Try.ntmps34
    go_wp2_with (go_at_call 35; go_must (refine (cE _ r0).mono ?_); rintro e w2 ⟨rfl, b2⟩)
    go_ret
    exact ⟨by cases E <;> rfl, bt bW b2⟩
    --]a
  · have d0 : decide (c = d) = false := decide_eq_false hc
    have d1 : (c == d) = false := by simpa using hc
    rw [d0, Bool.false_and]
    --[b
    go_enter Try.func34, Try.ntmps34
    go_wp2
    go_ret
    exact ⟨rfl, bW⟩
    --]b
theorem enters_slots : ∀ (args : Array Value) (a : World), Sem.run Try.prog (callFunc 34 args) a = Result.ok (Next.enter 34 args) a := by
  intro args a
  simp [callFunc, Try.func34, go_sem]
  rfl
set_option maxRecDepth 20000 in
set_option maxHeartbeats 2000000 in
theorem eqfunc_any (B1 B2 : Nat) (t1 t2 : TypeId) (x1 x2 y1 y2 : Value) (s t : Nv) (w : World) (h1 : s.a.length ≤ 1000) (h2 : s.b.length ≤ 1000) (h3 : t.a.length ≤ 1000) (h4 : t.b.length ≤ 1000)
    (hx : w.heap[B1]? = some (.cells #[x1, .int .i64 s.c, x2, .int .i64 s.d] t1 (0, 0))) (hy : w.heap[B2]? = some (.cells #[y1, .int .i64 t.c, y2, .int .i64 t.d] t2 (0, 0)))
    (sx1 : SeesI w x1 s.a) (sx2 : SeesI w x2 s.b) (sy1 : SeesI w y1 t.a) (sy2 : SeesI w y2 t.b) :
    Calls Try.prog 33 #[.slice (some ⟨B1, 0, none⟩) 2 2, .slice (some ⟨B2, 0, none⟩) 2 2, .func (.func 34) #[] #[]] w fun e w' => e = .returned (.bool (sameN s t)) ∧ Below w.heap.size w w' := by
  obtain ⟨xo1, xc1, rfl⟩ := sx1.slice
  obtain ⟨xo2, xc2, rfl⟩ := sx2.slice
  obtain ⟨yo1, yc1, rfl⟩ := sy1.slice
  obtain ⟨yo2, yc2, rfl⟩ := sy2.slice
  have c1 := fun (u : World) (h : Below w.heap.size w u) => slots_any _ _ s.a t.a s.c t.c u h1 h3 (sx1.below h) (sy1.below h)
  have c2 := fun (u : World) (h : Below w.heap.size w u) => slots_any _ _ s.b t.b s.d t.d u h2 h4 (sx2.below h) (sy2.below h)
  have HE : Hid (sameN s t = (sameA s t && sameB s t)) := rfl
  have eA : (decide (s.c = t.c) && decide (s.a = t.a)) = sameA s t := rfl
  have eB : (decide (s.d = t.d) && decide (s.b = t.b)) = sameB s t := rfl
  rw [eA] at c1
  rw [eB] at c2
  have hB1 := fun (u : World) (h : Below w.heap.size w u) => four_cells (keep h hx)
  have hB2 := fun (u : World) (h : Below w.heap.size w u) => four_cells (keep h hy)
  have l1 := lt_of_block hx
  have l2 := lt_of_block hy
  have hent := enters_slots
  generalize sameN s t = EE at *
  generalize sameA s t = E0 at *
  generalize sameB s t = E1 at *
  clear eA eB sx1 sx2 sy1 sy2 hx hy
  go_enter Try.func33, Try.ntmps33
  go_wp2
  go_loopw [17] (fun i wr => ∃ k : Nat, k ≤ 2 ∧ i = .int .i64 k ∧ (0 < k → E0 = true) ∧ (1 < k → E1 = true) ∧ Below w.heap.size w wr) (fun i _ => 2 - (intOf i).toNat)
  case atStart => exact ⟨0, by omega, rfl, fun h => absurd h (by omega), fun h => absurd h (by omega), Below.refl _ _⟩
  case round =>
    obtain ⟨k, hk, rfl, hE0, hE1, hbl⟩ := hrel
    obtain ⟨p1, p2, p3, p4⟩ := hB1 wr hbl
    obtain ⟨r1, r2, r3, r4⟩ := hB2 wr hbl
    have z0 := hbl.size
    have lw1 : B1 < wr.heap.size := by omega
    have lw2 : B2 < wr.heap.size := by omega
    rcases (by omega : k = 0 ∨ k = 1 ∨ k = 2) with rfl | rfl | rfl
    · clear hE0 hE1
      have ba := bt hbl (bt (box_below wr (.cells #[.slice xo1 s.a.length xc1, .int .i64 s.c] 24)) (box_below _ (.cells #[.slice yo1 t.a.length yc1, .int .i64 t.c] 24)))
      have cw := c1 _ ba
      clear c1 c2 hB1 hB2
      cases E0
      --[a2
      · go_wp2_with (go_at_call 34; go_must (refine cw.mono ?_); rintro e w2 ⟨rfl, b2⟩)
        go_ret
        exact ⟨by rw [HE.out]; rfl, bt ba b2⟩
      --]a2
      --[b2
      · go_wp2_with (go_at_call 34; go_must (refine cw.mono ?_); rintro e w2 ⟨rfl, b2⟩)
        go_roundw
        case rel => exact ⟨1, by omega, rfl, by simp, by simp, bt ba b2⟩
        case measure => simp [intOf]
      --]b2
    · obtain rfl := hE0 (by omega)
      clear hE0 hE1
      have ba := bt hbl (bt (box_below wr (.cells #[.slice xo2 s.b.length xc2, .int .i64 s.d] 24)) (box_below _ (.cells #[.slice yo2 t.b.length yc2, .int .i64 t.d] 24)))
      have cw := c2 _ ba
      clear c1 c2 hB1 hB2
      cases E1
      --[c2
      · go_wp2_with (go_at_call 34; go_must (refine cw.mono ?_); rintro e w2 ⟨rfl, b2⟩)
        go_ret
        exact ⟨by rw [HE.out]; rfl, bt ba b2⟩
      --]c2
      --[d2
      · go_wp2_with (go_at_call 34; go_must (refine cw.mono ?_); rintro e w2 ⟨rfl, b2⟩)
        go_roundw
        case rel => exact ⟨2, by omega, rfl, by simp, by simp, bt ba b2⟩
        case measure => simp [intOf]
      --]d2
    · obtain rfl := hE0 (by omega)
      obtain rfl := hE1 (by omega)
      clear hE0 hE1 c1 c2 hB1 hB2
      --[e2
      go_wp2
      go_ret
      exact ⟨by rw [HE.out]; rfl, hbl⟩
      --]e2
end Go.Proofs.Ytcfobifldlkfnaa.Gr
