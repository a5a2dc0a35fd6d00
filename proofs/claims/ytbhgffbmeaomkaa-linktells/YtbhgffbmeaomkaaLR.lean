/-
  Ends: the document's New, Right, Same; packets: the document's SamePacket.
-/
import Derived.Test.YtbhgffbmeaomkaaLW
namespace Go.Proofs.Ytbhgffbmeaomkaa.Gr
open Go.RowKit Go.Sort Lm
set_option linter.unusedVariables false
set_option linter.unusedSimpArgs false

def Lm.sameK (a b : Lk) : Bool := decide (a.sent = b.sent) && decide (a.own = b.own) && decide (a.other = b.other) && decide (a.first = b.first) && decide (a.next = b.next)
def Lm.samePk (a b : Pk) : Bool := decide (a.words = b.words) && decide (a.frm = b.frm) && decide (a.to = b.to) && decide (a.place = b.place) && decide (a.wait = b.wait)
theorem Lm.sameK_refl (a : Lk) : sameK a a = true := by simp [sameK]
theorem Lm.samePk_refl (a : Pk) : samePk a a = true := by simp [samePk]
set_option maxRecDepth 20000 in
set_option maxHeartbeats 2000000 in
theorem rrightL_any (v : Value) (l : Lk) (w : World) (hn : l.sent.length ≤ 1000) (sv : SeesL w v l) :
    Calls Try.prog 13 #[v] w fun e w' => e = .returned (.bool (rightL l)) ∧ Below w.heap.size w w' := by
  obtain ⟨vs, rfl, sl⟩ := sv
  obtain ⟨so, sc, rfl⟩ := sl.slice
  have bW := box_below w (.cells #[.int .i64 l.own, .int .i64 l.other, .int .i64 l.first, .slice so l.sent.length sc, .int .i64 l.next] 24)
  have HR := @rightL_iff l
  clear sl
  by_cases c0 : l.own < 1
  · have d0 : decide (l.own < 1) = true := decide_eq_true c0
    have hr : rightL l = false := by cases h : rightL l with | false => rfl | true => (have := HR.1 h; omega)
    rw [hr]
    clear hr HR
    generalize l.sent.length = n at *
    --[r0
    go_enter Try.func13, Try.ntmps13
    go_wp2
    go_ret
    exact ⟨rfl, bW⟩
    --]r0
  have d0 : decide (l.own < 1) = false := decide_eq_false c0
  by_cases c1 : 4611686018427387904 < l.own
  · have d1 : decide (4611686018427387904 < l.own) = true := decide_eq_true c1
    have hr : rightL l = false := by cases h : rightL l with | false => rfl | true => (have := HR.1 h; omega)
    rw [hr]
    clear hr HR
    generalize l.sent.length = n at *
    --[r1
    go_enter Try.func13, Try.ntmps13
    go_wp2
    go_ret
    exact ⟨rfl, bW⟩
    --]r1
  have d1 : decide (4611686018427387904 < l.own) = false := decide_eq_false c1
  by_cases c2 : l.other < 0
  · have d2 : decide (l.other < 0) = true := decide_eq_true c2
    have hr : rightL l = false := by cases h : rightL l with | false => rfl | true => (have := HR.1 h; omega)
    rw [hr]
    clear hr HR
    generalize l.sent.length = n at *
    --[r2
    go_enter Try.func13, Try.ntmps13
    go_wp2
    go_ret
    exact ⟨rfl, bW⟩
    --]r2
  have d2 : decide (l.other < 0) = false := decide_eq_false c2
  by_cases c3 : 4611686018427387904 < l.other
  · have d3 : decide (4611686018427387904 < l.other) = true := decide_eq_true c3
    have hr : rightL l = false := by cases h : rightL l with | false => rfl | true => (have := HR.1 h; omega)
    rw [hr]
    clear hr HR
    generalize l.sent.length = n at *
    --[r3
    go_enter Try.func13, Try.ntmps13
    go_wp2
    go_ret
    exact ⟨rfl, bW⟩
    --]r3
  have d3 : decide (4611686018427387904 < l.other) = false := decide_eq_false c3
  by_cases c4 : l.first < 0
  · have d4 : decide (l.first < 0) = true := decide_eq_true c4
    have hr : rightL l = false := by cases h : rightL l with | false => rfl | true => (have := HR.1 h; omega)
    rw [hr]
    clear hr HR
    generalize l.sent.length = n at *
    --[r4
    go_enter Try.func13, Try.ntmps13
    go_wp2
    go_ret
    exact ⟨rfl, bW⟩
    --]r4
  have d4 : decide (l.first < 0) = false := decide_eq_false c4
  by_cases c5 : 4611686018427387904 < l.first
  · have d5 : decide (4611686018427387904 < l.first) = true := decide_eq_true c5
    have hr : rightL l = false := by cases h : rightL l with | false => rfl | true => (have := HR.1 h; omega)
    rw [hr]
    clear hr HR
    generalize l.sent.length = n at *
    --[r5
    go_enter Try.func13, Try.ntmps13
    go_wp2
    go_ret
    exact ⟨rfl, bW⟩
    --]r5
  have d5 : decide (4611686018427387904 < l.first) = false := decide_eq_false c5
  by_cases c6 : l.next < 0
  · have d6 : decide (l.next < 0) = true := decide_eq_true c6
    have hr : rightL l = false := by cases h : rightL l with | false => rfl | true => (have := HR.1 h; omega)
    rw [hr]
    clear hr HR
    generalize l.sent.length = n at *
    --[r6
    go_enter Try.func13, Try.ntmps13
    go_wp2
    go_ret
    exact ⟨rfl, bW⟩
    --]r6
  have d6 : decide (l.next < 0) = false := decide_eq_false c6
  by_cases c7 : 4611686018427387904 < l.next
  · have d7 : decide (4611686018427387904 < l.next) = true := decide_eq_true c7
    have hr : rightL l = false := by cases h : rightL l with | false => rfl | true => (have := HR.1 h; omega)
    rw [hr]
    clear hr HR
    generalize l.sent.length = n at *
    --[r7
    go_enter Try.func13, Try.ntmps13
    go_wp2
    go_ret
    exact ⟨rfl, bW⟩
    --]r7
  have d7 : decide (4611686018427387904 < l.next) = false := decide_eq_false c7
  by_cases c8 : l.sent.length ≤ 8
  · have d8 : decide ((l.sent.length : Int) ≤ 8) = true := decide_eq_true (by omega)
    have hr : rightL l = true := HR.2 ⟨by omega, by omega, by omega, by omega, by omega, by omega, by omega, by omega, c8⟩
    rw [hr]
    clear hr HR
    generalize l.sent.length = n at *
    --[r8
    go_enter Try.func13, Try.ntmps13
    go_wp2
    go_ret
    exact ⟨rfl, bW⟩
    --]r8
  · have d8 : decide ((l.sent.length : Int) ≤ 8) = false := decide_eq_false (by omega)
    have hr : rightL l = false := by cases h : rightL l with | false => rfl | true => (have := HR.1 h; omega)
    rw [hr]
    clear hr HR
    generalize l.sent.length = n at *
    --[r9
    go_enter Try.func13, Try.ntmps13
    go_wp2
    go_ret
    exact ⟨rfl, bW⟩
    --]r9
set_option maxRecDepth 20000 in
set_option maxHeartbeats 2000000 in
theorem rsameK_any (v v' : Value) (a b : Lk) (w : World) (ha : a.sent.length ≤ 1000) (hb : b.sent.length ≤ 1000) (sa : SeesL w v a) (sb : SeesL w v' b) :
    Calls Try.prog 14 #[v, v'] w fun e w' => e = .returned (.bool (sameK a b)) ∧ Below w.heap.size w w' := by
  obtain ⟨x, rfl, sx⟩ := sa
  obtain ⟨y, rfl, sy⟩ := sb
  obtain ⟨xo, xc, rfl⟩ := sx.slice
  obtain ⟨yo, yc, rfl⟩ := sy.slice
  obtain ⟨W, hW⟩ : ∃ W, (w.alloc (.cells #[.int .i64 a.own, .int .i64 a.other, .int .i64 a.first, .slice xo a.sent.length xc, .int .i64 a.next] 24)).alloc (.cells #[.int .i64 b.own, .int .i64 b.other, .int .i64 b.first, .slice yo b.sent.length yc, .int .i64 b.next] 24) = W := ⟨_, rfl⟩
  have bW : Below w.heap.size w W := by rw [← hW]; exact bt (box_below _ _) (box_below _ _)
  obtain ⟨h1, h2⟩ := heaps2' w (.cells #[.int .i64 a.own, .int .i64 a.other, .int .i64 a.first, .slice xo a.sent.length xc, .int .i64 a.next] 24) (.cells #[.int .i64 b.own, .int .i64 b.other, .int .i64 b.first, .slice yo b.sent.length yc, .int .i64 b.next] 24)
  rw [hW] at h1 h2
  obtain ⟨p1, p2, p3, p4, p5⟩ := five_cells h1
  obtain ⟨q1, q2, q3, q4, q5⟩ := five_cells h2
  have H1 : Hid (W.heap[w.heap.size]? = _) := h1
  have H2 : Hid (W.heap[w.heap.size + 1]? = _) := h2
  have cI := ints_any _ _ a.sent b.sent W (by omega) (by omega) (sx.below bW) (sy.below bW)
  have HE : Hid (sameK a b = (decide (a.sent = b.sent) && decide (a.own = b.own) && decide (a.other = b.other) && decide (a.first = b.first) && decide (a.next = b.next))) := rfl
  generalize sameK a b = E at *
  generalize decide (a.sent = b.sent) = E0 at *
  clear sx sy h1 h2
  generalize a.sent.length = n at *
  generalize b.sent.length = m at *
  cases E0
  · skip
    --[rsameK0
    go_enter Try.func14, Try.ntmps14
    go_wp2_with (go_at_call 21; go_must (refine cI.mono ?_); rintro e w2 ⟨rfl, b2⟩; obtain ⟨s1, s2, s3, s4, s5⟩ := five_cells (keep b2 H1.out); obtain ⟨u1, u2, u3, u4, u5⟩ := five_cells (keep b2 H2.out))
    go_ret
    exact ⟨by rw [HE.out]; simp, bt bW b2⟩
    --]rsameK0
  · skip
    by_cases n0 : ¬ a.own = b.own
    · have d0 : decide (a.own = b.own) = false := decide_eq_false n0
      have d0' : (a.own == b.own) = false := by simpa using n0
      --[rsameK1
      go_enter Try.func14, Try.ntmps14
      go_wp2_with (go_at_call 21; go_must (refine cI.mono ?_); rintro e w2 ⟨rfl, b2⟩; obtain ⟨s1, s2, s3, s4, s5⟩ := five_cells (keep b2 H1.out); obtain ⟨u1, u2, u3, u4, u5⟩ := five_cells (keep b2 H2.out))
      go_ret
      exact ⟨by rw [HE.out]; simp [n0], bt bW b2⟩
      --]rsameK1
    have c0 : Hid (a.own = b.own) := Classical.byContradiction n0
    have d0 : decide (a.own = b.own) = true := decide_eq_true c0.out
    have d0' : (a.own == b.own) = true := by simpa using c0.out
    clear n0
    by_cases n1 : ¬ a.other = b.other
    · have d1 : decide (a.other = b.other) = false := decide_eq_false n1
      have d1' : (a.other == b.other) = false := by simpa using n1
      --[rsameK2
      go_enter Try.func14, Try.ntmps14
      go_wp2_with (go_at_call 21; go_must (refine cI.mono ?_); rintro e w2 ⟨rfl, b2⟩; obtain ⟨s1, s2, s3, s4, s5⟩ := five_cells (keep b2 H1.out); obtain ⟨u1, u2, u3, u4, u5⟩ := five_cells (keep b2 H2.out))
      go_ret
      exact ⟨by rw [HE.out]; simp [n1], bt bW b2⟩
      --]rsameK2
    have c1 : Hid (a.other = b.other) := Classical.byContradiction n1
    have d1 : decide (a.other = b.other) = true := decide_eq_true c1.out
    have d1' : (a.other == b.other) = true := by simpa using c1.out
    clear n1
    by_cases n2 : ¬ a.first = b.first
    · have d2 : decide (a.first = b.first) = false := decide_eq_false n2
      have d2' : (a.first == b.first) = false := by simpa using n2
      --[rsameK3
      go_enter Try.func14, Try.ntmps14
      go_wp2_with (go_at_call 21; go_must (refine cI.mono ?_); rintro e w2 ⟨rfl, b2⟩; obtain ⟨s1, s2, s3, s4, s5⟩ := five_cells (keep b2 H1.out); obtain ⟨u1, u2, u3, u4, u5⟩ := five_cells (keep b2 H2.out))
      go_ret
      exact ⟨by rw [HE.out]; simp [n2], bt bW b2⟩
      --]rsameK3
    have c2 : Hid (a.first = b.first) := Classical.byContradiction n2
    have d2 : decide (a.first = b.first) = true := decide_eq_true c2.out
    have d2' : (a.first == b.first) = true := by simpa using c2.out
    clear n2
    by_cases n3 : ¬ a.next = b.next
    · have d3 : decide (a.next = b.next) = false := decide_eq_false n3
      have d3' : (a.next == b.next) = false := by simpa using n3
      --[rsameK4
      go_enter Try.func14, Try.ntmps14
      go_wp2_with (go_at_call 21; go_must (refine cI.mono ?_); rintro e w2 ⟨rfl, b2⟩; obtain ⟨s1, s2, s3, s4, s5⟩ := five_cells (keep b2 H1.out); obtain ⟨u1, u2, u3, u4, u5⟩ := five_cells (keep b2 H2.out))
      go_ret
      exact ⟨by rw [HE.out]; simp [n3], bt bW b2⟩
      --]rsameK4
    have c3 : Hid (a.next = b.next) := Classical.byContradiction n3
    have d3 : decide (a.next = b.next) = true := decide_eq_true c3.out
    have d3' : (a.next == b.next) = true := by simpa using c3.out
    clear n3
    --[rsameK9
    go_enter Try.func14, Try.ntmps14
    go_wp2_with (go_at_call 21; go_must (refine cI.mono ?_); rintro e w2 ⟨rfl, b2⟩; obtain ⟨s1, s2, s3, s4, s5⟩ := five_cells (keep b2 H1.out); obtain ⟨u1, u2, u3, u4, u5⟩ := five_cells (keep b2 H2.out))
    go_ret
    exact ⟨by rw [HE.out]; simp [c0.out, c1.out, c2.out, c3.out], bt bW b2⟩
    --]rsameK9
set_option maxRecDepth 20000 in
set_option maxHeartbeats 2000000 in
theorem psamep_any (v v' : Value) (a b : Pk) (w : World) (ha : a.words.length ≤ 1000) (hb : b.words.length ≤ 1000) (sa : SeesP w v a) (sb : SeesP w v' b) :
    Calls Try.prog 22 #[v, v'] w fun e w' => e = .returned (.bool (samePk a b)) ∧ Below w.heap.size w w' := by
  obtain ⟨x, rfl, sx⟩ := sa
  obtain ⟨y, rfl, sy⟩ := sb
  obtain ⟨xo, xc, rfl⟩ := sx.slice
  obtain ⟨yo, yc, rfl⟩ := sy.slice
  obtain ⟨W, hW⟩ : ∃ W, (w.alloc (.cells #[.int .i64 a.frm, .int .i64 a.to, .int .i64 a.place, .slice xo a.words.length xc, .int .i64 a.wait] 26)).alloc (.cells #[.int .i64 b.frm, .int .i64 b.to, .int .i64 b.place, .slice yo b.words.length yc, .int .i64 b.wait] 26) = W := ⟨_, rfl⟩
  have bW : Below w.heap.size w W := by rw [← hW]; exact bt (box_below _ _) (box_below _ _)
  obtain ⟨h1, h2⟩ := heaps2' w (.cells #[.int .i64 a.frm, .int .i64 a.to, .int .i64 a.place, .slice xo a.words.length xc, .int .i64 a.wait] 26) (.cells #[.int .i64 b.frm, .int .i64 b.to, .int .i64 b.place, .slice yo b.words.length yc, .int .i64 b.wait] 26)
  rw [hW] at h1 h2
  obtain ⟨p1, p2, p3, p4, p5⟩ := five_cells h1
  obtain ⟨q1, q2, q3, q4, q5⟩ := five_cells h2
  have H1 : Hid (W.heap[w.heap.size]? = _) := h1
  have H2 : Hid (W.heap[w.heap.size + 1]? = _) := h2
  have cI := ints_any _ _ a.words b.words W (by omega) (by omega) (sx.below bW) (sy.below bW)
  have HE : Hid (samePk a b = (decide (a.words = b.words) && decide (a.frm = b.frm) && decide (a.to = b.to) && decide (a.place = b.place) && decide (a.wait = b.wait))) := rfl
  generalize samePk a b = E at *
  generalize decide (a.words = b.words) = E0 at *
  clear sx sy h1 h2
  generalize a.words.length = n at *
  generalize b.words.length = m at *
  cases E0
  · skip
    --[psamep0
    go_enter Try.func22, Try.ntmps22
    go_wp2_with (go_at_call 21; go_must (refine cI.mono ?_); rintro e w2 ⟨rfl, b2⟩; obtain ⟨s1, s2, s3, s4, s5⟩ := five_cells (keep b2 H1.out); obtain ⟨u1, u2, u3, u4, u5⟩ := five_cells (keep b2 H2.out))
    go_ret
    exact ⟨by rw [HE.out]; simp, bt bW b2⟩
    --]psamep0
  · skip
    by_cases n0 : ¬ a.frm = b.frm
    · have d0 : decide (a.frm = b.frm) = false := decide_eq_false n0
      have d0' : (a.frm == b.frm) = false := by simpa using n0
      --[psamep1
      go_enter Try.func22, Try.ntmps22
      go_wp2_with (go_at_call 21; go_must (refine cI.mono ?_); rintro e w2 ⟨rfl, b2⟩; obtain ⟨s1, s2, s3, s4, s5⟩ := five_cells (keep b2 H1.out); obtain ⟨u1, u2, u3, u4, u5⟩ := five_cells (keep b2 H2.out))
      go_ret
      exact ⟨by rw [HE.out]; simp [n0], bt bW b2⟩
      --]psamep1
    have c0 : Hid (a.frm = b.frm) := Classical.byContradiction n0
    have d0 : decide (a.frm = b.frm) = true := decide_eq_true c0.out
    have d0' : (a.frm == b.frm) = true := by simpa using c0.out
    clear n0
    by_cases n1 : ¬ a.to = b.to
    · have d1 : decide (a.to = b.to) = false := decide_eq_false n1
      have d1' : (a.to == b.to) = false := by simpa using n1
      --[psamep2
      go_enter Try.func22, Try.ntmps22
      go_wp2_with (go_at_call 21; go_must (refine cI.mono ?_); rintro e w2 ⟨rfl, b2⟩; obtain ⟨s1, s2, s3, s4, s5⟩ := five_cells (keep b2 H1.out); obtain ⟨u1, u2, u3, u4, u5⟩ := five_cells (keep b2 H2.out))
      go_ret
      exact ⟨by rw [HE.out]; simp [n1], bt bW b2⟩
      --]psamep2
    have c1 : Hid (a.to = b.to) := Classical.byContradiction n1
    have d1 : decide (a.to = b.to) = true := decide_eq_true c1.out
    have d1' : (a.to == b.to) = true := by simpa using c1.out
    clear n1
    by_cases n2 : ¬ a.place = b.place
    · have d2 : decide (a.place = b.place) = false := decide_eq_false n2
      have d2' : (a.place == b.place) = false := by simpa using n2
      --[psamep3
      go_enter Try.func22, Try.ntmps22
      go_wp2_with (go_at_call 21; go_must (refine cI.mono ?_); rintro e w2 ⟨rfl, b2⟩; obtain ⟨s1, s2, s3, s4, s5⟩ := five_cells (keep b2 H1.out); obtain ⟨u1, u2, u3, u4, u5⟩ := five_cells (keep b2 H2.out))
      go_ret
      exact ⟨by rw [HE.out]; simp [n2], bt bW b2⟩
      --]psamep3
    have c2 : Hid (a.place = b.place) := Classical.byContradiction n2
    have d2 : decide (a.place = b.place) = true := decide_eq_true c2.out
    have d2' : (a.place == b.place) = true := by simpa using c2.out
    clear n2
    by_cases n3 : ¬ a.wait = b.wait
    · have d3 : decide (a.wait = b.wait) = false := decide_eq_false n3
      have d3' : (a.wait == b.wait) = false := by simpa using n3
      --[psamep4
      go_enter Try.func22, Try.ntmps22
      go_wp2_with (go_at_call 21; go_must (refine cI.mono ?_); rintro e w2 ⟨rfl, b2⟩; obtain ⟨s1, s2, s3, s4, s5⟩ := five_cells (keep b2 H1.out); obtain ⟨u1, u2, u3, u4, u5⟩ := five_cells (keep b2 H2.out))
      go_ret
      exact ⟨by rw [HE.out]; simp [n3], bt bW b2⟩
      --]psamep4
    have c3 : Hid (a.wait = b.wait) := Classical.byContradiction n3
    have d3 : decide (a.wait = b.wait) = true := decide_eq_true c3.out
    have d3' : (a.wait == b.wait) = true := by simpa using c3.out
    clear n3
    --[psamep9
    go_enter Try.func22, Try.ntmps22
    go_wp2_with (go_at_call 21; go_must (refine cI.mono ?_); rintro e w2 ⟨rfl, b2⟩; obtain ⟨s1, s2, s3, s4, s5⟩ := five_cells (keep b2 H1.out); obtain ⟨u1, u2, u3, u4, u5⟩ := five_cells (keep b2 H2.out))
    go_ret
    exact ⟨by rw [HE.out]; simp [c0.out, c1.out, c2.out, c3.out], bt bW b2⟩
    --]psamep9
end Go.Proofs.Ytbhgffbmeaomkaa.Gr
