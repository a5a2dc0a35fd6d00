/-
  Ends: the code's Same, New.
-/
import Derived.Test.YtbhgffbmeaomkaaLD
import Derived.Test.YtbhgffbmeaomkaaLR
namespace Go.Proofs.Ytbhgffbmeaomkaa.Gr
open Go.RowKit Go.Sort Lm
set_option linter.unusedVariables false

set_option maxRecDepth 20000 in
set_option maxHeartbeats 2000000 in
theorem same_any (v v' : Value) (a b : Lk) (w : World) (ha : a.sent.length ≤ 1000) (hb : b.sent.length ≤ 1000) (sa : SeesL w v a) (sb : SeesL w v' b) :
    Calls Try.prog 16 #[v, v'] w fun e w' => e = .returned (.bool (sameK a b)) ∧ Below w.heap.size w w' := by
  obtain ⟨x, rfl, sx⟩ := sa
  obtain ⟨y, rfl, sy⟩ := sb
  obtain ⟨xo, xc, rfl⟩ := sx.slice
  obtain ⟨yo, yc, rfl⟩ := sy.slice
  obtain ⟨W, hW⟩ : ∃ W, (w.alloc (.cells #[.int .i64 a.own, .int .i64 a.other, .int .i64 a.first, .slice xo a.sent.length xc, .int .i64 a.next] 24)).alloc (.cells #[.int .i64 b.own, .int .i64 b.other, .int .i64 b.first, .slice yo b.sent.length yc, .int .i64 b.next] 24) = W := ⟨_, rfl⟩
  have bW : Below w.heap.size w W := by rw [← hW]; exact bt (box_below _ _) (box_below _ _)
  obtain ⟨h1, h2⟩ := heaps2' w (.cells #[.int .i64 a.own, .int .i64 a.other, .int .i64 a.first, .slice xo a.sent.length xc, .int .i64 a.next] 24) (.cells #[.int .i64 b.own, .int .i64 b.other, .int .i64 b.first, .slice yo b.sent.length yc, .int .i64 b.next] 24)
  rw [hW] at h1 h2
  obtain ⟨p1, p2, p3, p4, p5⟩ := five_cells h1
  obtain ⟨q1, q2, q3, q4, q5⟩ := five_cells h2
  have cI := equal_any _ _ a.sent b.sent W (by omega) (by omega) (sx.below bW) (sy.below bW)
  have HE : Hid (sameK a b = (decide (a.sent = b.sent) && decide (a.own = b.own) && decide (a.other = b.other) && decide (a.first = b.first) && decide (a.next = b.next))) := rfl
  generalize sameK a b = E at *
  generalize decide (a.sent = b.sent) = E0 at *
  clear sx sy h1 h2
  generalize a.sent.length = n at *
  generalize b.sent.length = m at *
  by_cases n0 : ¬ a.own = b.own
  · have d0 : decide (a.own = b.own) = false := decide_eq_false n0
    have d0' : (a.own == b.own) = false := by simpa using n0
    --[s0
    go_enter Try.func16, Try.ntmps16
    go_wp2
    go_ret
    exact ⟨by rw [HE.out]; simp [n0], bW⟩
    --]s0
  have c0 : Hid (a.own = b.own) := Classical.byContradiction n0
  have d0 : decide (a.own = b.own) = true := decide_eq_true c0.out
  have d0' : (a.own == b.own) = true := by simpa using c0.out
  clear n0
  by_cases n1 : ¬ a.other = b.other
  · have d1 : decide (a.other = b.other) = false := decide_eq_false n1
    have d1' : (a.other == b.other) = false := by simpa using n1
    --[s1
    go_enter Try.func16, Try.ntmps16
    go_wp2
    go_ret
    exact ⟨by rw [HE.out]; simp [n1], bW⟩
    --]s1
  have c1 : Hid (a.other = b.other) := Classical.byContradiction n1
  have d1 : decide (a.other = b.other) = true := decide_eq_true c1.out
  have d1' : (a.other == b.other) = true := by simpa using c1.out
  clear n1
  by_cases n2 : ¬ a.first = b.first
  · have d2 : decide (a.first = b.first) = false := decide_eq_false n2
    have d2' : (a.first == b.first) = false := by simpa using n2
    --[s2
    go_enter Try.func16, Try.ntmps16
    go_wp2
    go_ret
    exact ⟨by rw [HE.out]; simp [n2], bW⟩
    --]s2
  have c2 : Hid (a.first = b.first) := Classical.byContradiction n2
  have d2 : decide (a.first = b.first) = true := decide_eq_true c2.out
  have d2' : (a.first == b.first) = true := by simpa using c2.out
  clear n2
  by_cases n3 : ¬ a.next = b.next
  · have d3 : decide (a.next = b.next) = false := decide_eq_false n3
    have d3' : (a.next == b.next) = false := by simpa using n3
    --[s3
    go_enter Try.func16, Try.ntmps16
    go_wp2
    go_ret
    exact ⟨by rw [HE.out]; simp [n3], bW⟩
    --]s3
  have c3 : Hid (a.next = b.next) := Classical.byContradiction n3
  have d3 : decide (a.next = b.next) = true := decide_eq_true c3.out
  have d3' : (a.next == b.next) = true := by simpa using c3.out
  clear n3
  --[s4
  go_enter Try.func16, Try.ntmps16
  go_wp2_with (go_at_call 26; go_must (refine cI.mono ?_); rintro e w2 ⟨rfl, b2⟩)
  go_ret
  exact ⟨by rw [HE.out]; simp [c0.out, c1.out, c2.out, c3.out], bt bW b2⟩
  --]s4
set_option maxRecDepth 20000 in
set_option maxHeartbeats 2000000 in
theorem new_any (o : Int) (w : World) :
    Calls Try.prog 11 #[.int .i64 o] w fun e w' => ∃ v', e = .returned (.tuple #[v', .int .i64 (newE o)]) ∧ OwnL w.heap.size w' v' (newL o) ∧ Below w.heap.size w w' := by
  obtain ⟨V, hV⟩ : ∃ V, (w.alloc (.cells #[.int .i64 0, .int .i64 0, .int .i64 0, .slice none 0 0, .int .i64 0] 24)).alloc (.cells #[.int .i64 o, .int .i64 0, .int .i64 0, .slice none 0 0, .int .i64 0] 24) = V := ⟨_, rfl⟩
  obtain ⟨hB, hC⟩ := heaps2' w (.cells #[.int .i64 0, .int .i64 0, .int .i64 0, .slice none 0 0, .int .i64 0] 24) (.cells #[.int .i64 o, .int .i64 0, .int .i64 0, .slice none 0 0, .int .i64 0] 24)
  have bV : Below w.heap.size w V := by rw [← hV]; exact bt (box_below _ _) (box_below _ _)
  rw [hV] at hB hC
  have cR := right_any (.agg #[.int .i64 o, .int .i64 0, .int .i64 0, .slice none 0 0, .int .i64 0]) ⟨o, 0, 0, [], 0⟩ V (by simp) ⟨_, rfl, Row.nil _⟩
  obtain ⟨B, hBe⟩ : ∃ B, w.heap.size = B := ⟨_, rfl⟩
  rw [hBe] at hB hC bV ⊢
  have HBe : Hid (w.heap.size = B) := hBe
  have zC : B + 1 < V.heap.size := lt_of_block hC
  have HB : Hid (V.heap[B]? = _) := hB
  have HC : Hid (V.heap[B + 1]? = _) := hC
  clear hB hC
  by_cases h : o < 1 ∨ 4611686018427387904 < o
  · have e0 : rightL ⟨o, 0, 0, [], 0⟩ = false := by
      cases e : rightL ⟨o, 0, 0, [], 0⟩ with
      | false => rfl
      | true => rw [rightL_iff] at e; have e1 : (1 : Int) ≤ o := e.1; have e2 : o ≤ 4611686018427387904 := e.2.1; omega
    rw [e0] at cR
    have e1 : newE o = 1 := by unfold newE; rw [if_pos h]
    have e2 : newL o = ⟨0, 0, 0, [], 0⟩ := by unfold newL; rw [if_pos h]
    rw [e1, e2]
    clear e0 e1 e2 h
    --[a
    subst hV
    go_enter Try.func11, Try.ntmps11
    go_wp2_with (go_at_call 15; go_must (refine cR.mono ?_); rintro e w2 ⟨rfl, b2⟩; obtain ⟨r1, r2, r3, r4, r5⟩ := five_cells (keep b2 HB.out); have f0 := not_frozen5 (keep b2 HB.out) 0; have f1 := not_frozen5 (keep b2 HB.out) 1; have f2 := not_frozen5 (keep b2 HB.out) 2; have f3 := not_frozen5 (keep b2 HB.out) 3; have f4 := not_frozen5 (keep b2 HB.out) 4)
    refine bodyPost_ret (results_lk2 Try.results11 _ _ B _ _ _ _ _ _ _ rfl rfl (set_all5 (keep b2 HB.out) _ _ _ _ _)) rfl ?_
    exact ⟨_, rfl, ⟨_, rfl, Row.nil _, fun k e => by cases e⟩, (bV.trans (b2.mono (by omega))).grown (gb_all5 w2 B _ _ _ _ _) (by have := b2.size; omega) (fun k e => by cases e; omega)⟩
    --]a
  · have e0 : rightL ⟨o, 0, 0, [], 0⟩ = true := by
      rw [rightL_iff]
      refine ⟨by show 1 ≤ o; omega, by show o ≤ _; omega, ?_⟩
      simp
    rw [e0] at cR
    have e1 : newE o = 0 := by unfold newE; rw [if_neg h]
    have e2 : newL o = ⟨o, 0, 0, [], 0⟩ := by unfold newL; rw [if_neg h]
    rw [e1, e2]
    clear e0 e1 e2 h
    --[b
    subst hV
    go_enter Try.func11, Try.ntmps11
    go_wp2_with (go_at_call 15; go_must (refine cR.mono ?_); rintro e w2 ⟨rfl, b2⟩; obtain ⟨r1, r2, r3, r4, r5⟩ := five_cells (keep b2 HB.out); have f0 := not_frozen5 (keep b2 HB.out) 0; have f1 := not_frozen5 (keep b2 HB.out) 1; have f2 := not_frozen5 (keep b2 HB.out) 2; have f3 := not_frozen5 (keep b2 HB.out) 3; have f4 := not_frozen5 (keep b2 HB.out) 4; obtain ⟨q1, q2, q3, q4, q5⟩ := five_cells (keep b2 HC.out))
    refine bodyPost_ret (results_lk2 Try.results11 _ _ B _ _ _ _ _ _ _ rfl rfl (set_all5 (keep b2 HB.out) _ _ _ _ _)) rfl ?_
    exact ⟨_, rfl, ⟨_, rfl, Row.nil _, fun k e => by cases e⟩, (bV.trans (b2.mono (by omega))).grown (gb_all5 w2 B _ _ _ _ _) (by have := b2.size; omega) (fun k e => by cases e; omega)⟩
    --]b
end Go.Proofs.Ytbhgffbmeaomkaa.Gr
