/-
  Ends: the document's In, where nothing is let in.
-/
import Derived.Test.YtbhgffbmeaomkaaLU
namespace Go.Proofs.Ytbhgffbmeaomkaa.Gr
open Go.RowKit Go.Sort Lm
set_option linter.unusedVariables false

set_option maxRecDepth 20000 in
set_option maxHeartbeats 4000000 in
theorem rin_x (v vp : Value) (l : Lk) (p : Pk) (w : World) (hn : l.sent.length ≤ 8) (hp : p.words.length ≤ 1000) (hf0 : 0 ≤ l.first) (hf1 : l.first ≤ 4611686018427387904) (hx0 : 0 ≤ l.next) (hx1 : l.next ≤ 4611686018427387904) (sv : SeesL w v l) (sp : SeesP w vp p)
    (hl : ¬ letP l p) :
    Calls Try.prog 20 #[v, vp] w fun e w' => ∃ v' vt, e = .returned (.tuple #[v', vt]) ∧ SeesL w' v' l ∧ SeesI w' vt [] ∧ Below w.heap.size w w' := by
  obtain ⟨vs, rfl, sl⟩ := sv
  obtain ⟨so, sc, rfl⟩ := sl.slice
  obtain ⟨ws, rfl, sp⟩ := sp
  obtain ⟨po, pc, rfl⟩ := sp.slice
  obtain ⟨V, hV⟩ : ∃ V, ((w.alloc (.cells #[.int .i64 l.own, .int .i64 l.other, .int .i64 l.first, .slice so l.sent.length sc, .int .i64 l.next] 24)).alloc (.cells #[.int .i64 p.frm, .int .i64 p.to, .int .i64 p.place, .slice po p.words.length pc, .int .i64 p.wait] 26)).alloc (.cells #[.int .i64 0, .int .i64 0, .int .i64 0, .slice none 0 0, .int .i64 0] 24) = V := ⟨_, rfl⟩
  obtain ⟨hB, hC, hD⟩ := heaps3' w (.cells #[.int .i64 l.own, .int .i64 l.other, .int .i64 l.first, .slice so l.sent.length sc, .int .i64 l.next] 24) (.cells #[.int .i64 p.frm, .int .i64 p.to, .int .i64 p.place, .slice po p.words.length pc, .int .i64 p.wait] 26) (.cells #[.int .i64 0, .int .i64 0, .int .i64 0, .slice none 0 0, .int .i64 0] 24)
  have bV : Below w.heap.size w V := by rw [← hV]; exact bt (bt (box_below _ _) (box_below _ _)) (box_below _ _)
  rw [hV] at hB hC hD
  have sL : SeesI V (.slice so l.sent.length sc) l.sent := sl.below bV
  have zD : Hid (w.heap.size + 1 + 1 < V.heap.size) := lt_of_block hD
  obtain ⟨p1, p2, p3, p4, p5⟩ := five_cells hB
  have HB : Hid (V.heap[w.heap.size]? = _) := hB
  have HC : Hid (V.heap[w.heap.size + 1]? = _) := hC
  have HD : Hid (V.heap[w.heap.size + 1 + 1]? = _) := hD
  obtain ⟨q1, q2, q3, q4, q5⟩ := five_cells hC
  obtain ⟨r1, r2, r3, r4, r5⟩ := five_cells hD
  have f0 := not_frozen5 hD 0
  have f1 := not_frozen5 hD 1
  have f2 := not_frozen5 hD 2
  have f3 := not_frozen5 hD 3
  have f4 := not_frozen5 hD 4
  have OL : Hid (∀ u, Below w.heap.size w u → SeesI u (.slice so l.sent.length sc) l.sent) := fun u h => sl.below h
  have OP : Hid (∀ u, Below w.heap.size w u → SeesI u (.slice po p.words.length pc) p.words) := fun u h => sp.below h
  clear hB hC hD sl
  obtain ⟨n, hn'⟩ : ∃ n, l.sent.length = n := ⟨_, rfl⟩
  obtain ⟨m, hm'⟩ : ∃ m, p.words.length = m := ⟨_, rfl⟩
  have HN : Hid (l.sent.length = n) := hn'
  have HM : Hid (p.words.length = m) := hm'
  rw [hn'] at hV sL p4 HB hn OL ⊢
  rw [hm'] at hp hV HC sp q4 OP ⊢
  clear hn' hm'
  have SP : Hid (SeesI w (.slice po m pc) p.words) := sp
  clear sp
  obtain ⟨Z, hZ⟩ : ∃ Z, V.heap.size = Z := ⟨_, rfl⟩
  have HZ : Hid (V.heap.size = Z) := hZ
  rw [hZ] at zD
  clear hZ
  have HLT : Hid (¬ letP l p) := hl
  clear hl
  by_cases c0 : p.frm < 1
  · have d0 : decide (p.frm < 1) = true := decide_eq_true c0
    go_enter Try.func20, Try.ntmps20
    go_wp2
    have G := gb_all5 V (w.heap.size + 1 + 1) (.int .i64 l.own) (.int .i64 l.other) (.int .i64 l.first) (.slice so n sc) (.int .i64 l.next)
    have bb := bV.grown G bV.size (fun k e => by cases e; omega)
    refine bodyPost_ret (results_lk2 Try.results20 _ _ (w.heap.size + 1 + 1) _ _ _ _ _ _ _ rfl rfl (set_all5 HD.out _ _ _ _ _)) rfl ?_
    exact ⟨_, _, rfl, ⟨_, rfl, OL.out _ bb⟩, Row.nil _, bb⟩
  have d0 : decide (p.frm < 1) = false := decide_eq_false c0
  by_cases c1 : 4611686018427387904 < p.frm
  · have d1 : decide (4611686018427387904 < p.frm) = true := decide_eq_true c1
    go_enter Try.func20, Try.ntmps20
    go_wp2
    have G := gb_all5 V (w.heap.size + 1 + 1) (.int .i64 l.own) (.int .i64 l.other) (.int .i64 l.first) (.slice so n sc) (.int .i64 l.next)
    have bb := bV.grown G bV.size (fun k e => by cases e; omega)
    refine bodyPost_ret (results_lk2 Try.results20 _ _ (w.heap.size + 1 + 1) _ _ _ _ _ _ _ rfl rfl (set_all5 HD.out _ _ _ _ _)) rfl ?_
    exact ⟨_, _, rfl, ⟨_, rfl, OL.out _ bb⟩, Row.nil _, bb⟩
  have d1 : decide (4611686018427387904 < p.frm) = false := decide_eq_false c1
  by_cases c2 : p.frm < l.other
  · have d2 : decide (p.frm < l.other) = true := decide_eq_true c2
    go_enter Try.func20, Try.ntmps20
    go_wp2
    have G := gb_all5 V (w.heap.size + 1 + 1) (.int .i64 l.own) (.int .i64 l.other) (.int .i64 l.first) (.slice so n sc) (.int .i64 l.next)
    have bb := bV.grown G bV.size (fun k e => by cases e; omega)
    refine bodyPost_ret (results_lk2 Try.results20 _ _ (w.heap.size + 1 + 1) _ _ _ _ _ _ _ rfl rfl (set_all5 HD.out _ _ _ _ _)) rfl ?_
    exact ⟨_, _, rfl, ⟨_, rfl, OL.out _ bb⟩, Row.nil _, bb⟩
  have d2 : decide (p.frm < l.other) = false := decide_eq_false c2
  by_cases c3 : p.to = 0
  · have HT0 : Hid (p.to = 0) := c3
    have d3 : (p.to != 0) = false := by rw [c3]; rfl
    clear c3
    have c3 : p.to ≤ 0 ∧ 0 ≤ p.to := by have := HT0.out; omega
    by_cases c4 : p.place < 0
    · have d4 : decide (p.place < 0) = true := decide_eq_true c4
      go_enter Try.func20, Try.ntmps20
      go_wp2
      have G := gb_all5 V (w.heap.size + 1 + 1) (.int .i64 l.own) (.int .i64 l.other) (.int .i64 l.first) (.slice so n sc) (.int .i64 l.next)
      have bb := bV.grown G bV.size (fun k e => by cases e; omega)
      refine bodyPost_ret (results_lk2 Try.results20 _ _ (w.heap.size + 1 + 1) _ _ _ _ _ _ _ rfl rfl (set_all5 HD.out _ _ _ _ _)) rfl ?_
      exact ⟨_, _, rfl, ⟨_, rfl, OL.out _ bb⟩, Row.nil _, bb⟩
    have d4 : decide (p.place < 0) = false := decide_eq_false c4
    by_cases c5 : 4611686018427387896 < p.place
    · have d5 : decide (4611686018427387896 < p.place) = true := decide_eq_true c5
      go_enter Try.func20, Try.ntmps20
      go_wp2
      have G := gb_all5 V (w.heap.size + 1 + 1) (.int .i64 l.own) (.int .i64 l.other) (.int .i64 l.first) (.slice so n sc) (.int .i64 l.next)
      have bb := bV.grown G bV.size (fun k e => by cases e; omega)
      refine bodyPost_ret (results_lk2 Try.results20 _ _ (w.heap.size + 1 + 1) _ _ _ _ _ _ _ rfl rfl (set_all5 HD.out _ _ _ _ _)) rfl ?_
      exact ⟨_, _, rfl, ⟨_, rfl, OL.out _ bb⟩, Row.nil _, bb⟩
    have d5 : decide (4611686018427387896 < p.place) = false := decide_eq_false c5
    by_cases c6 : p.wait < 0
    · have d6 : decide (p.wait < 0) = true := decide_eq_true c6
      go_enter Try.func20, Try.ntmps20
      go_wp2
      have G := gb_all5 V (w.heap.size + 1 + 1) (.int .i64 l.own) (.int .i64 l.other) (.int .i64 l.first) (.slice so n sc) (.int .i64 l.next)
      have bb := bV.grown G bV.size (fun k e => by cases e; omega)
      refine bodyPost_ret (results_lk2 Try.results20 _ _ (w.heap.size + 1 + 1) _ _ _ _ _ _ _ rfl rfl (set_all5 HD.out _ _ _ _ _)) rfl ?_
      exact ⟨_, _, rfl, ⟨_, rfl, OL.out _ bb⟩, Row.nil _, bb⟩
    have d6 : decide (p.wait < 0) = false := decide_eq_false c6
    by_cases c7 : 4611686018427387904 < p.wait
    · have d7 : decide (4611686018427387904 < p.wait) = true := decide_eq_true c7
      go_enter Try.func20, Try.ntmps20
      go_wp2
      have G := gb_all5 V (w.heap.size + 1 + 1) (.int .i64 l.own) (.int .i64 l.other) (.int .i64 l.first) (.slice so n sc) (.int .i64 l.next)
      have bb := bV.grown G bV.size (fun k e => by cases e; omega)
      refine bodyPost_ret (results_lk2 Try.results20 _ _ (w.heap.size + 1 + 1) _ _ _ _ _ _ _ rfl rfl (set_all5 HD.out _ _ _ _ _)) rfl ?_
      exact ⟨_, _, rfl, ⟨_, rfl, OL.out _ bb⟩, Row.nil _, bb⟩
    have d7 : decide (4611686018427387904 < p.wait) = false := decide_eq_false c7
    by_cases c8 : (8 : Int) < (m : Int)
    · have d8 : decide ((8 : Int) < (m : Int)) = true := decide_eq_true c8
      go_enter Try.func20, Try.ntmps20
      go_wp2
      have G := gb_all5 V (w.heap.size + 1 + 1) (.int .i64 l.own) (.int .i64 l.other) (.int .i64 l.first) (.slice so n sc) (.int .i64 l.next)
      have bb := bV.grown G bV.size (fun k e => by cases e; omega)
      refine bodyPost_ret (results_lk2 Try.results20 _ _ (w.heap.size + 1 + 1) _ _ _ _ _ _ _ rfl rfl (set_all5 HD.out _ _ _ _ _)) rfl ?_
      exact ⟨_, _, rfl, ⟨_, rfl, OL.out _ bb⟩, Row.nil _, bb⟩
    have d8 : decide ((8 : Int) < (m : Int)) = false := decide_eq_false c8
    exact absurd (by unfold letP; rw [HM.out]; omega) HLT.out
  have d3 : (p.to != 0) = true := by simpa using c3
  by_cases c9 : p.to = l.own
  · have d3' : (p.to != l.own) = false := by rw [c9]; simp
    have HT1 : Hid (p.to = l.own) := c9
    clear c9
    have c9 : p.to ≤ l.own ∧ l.own ≤ p.to := by have := HT1.out; omega
    by_cases c4 : p.place < 0
    · have d4 : decide (p.place < 0) = true := decide_eq_true c4
      go_enter Try.func20, Try.ntmps20
      go_wp2
      have G := gb_all5 V (w.heap.size + 1 + 1) (.int .i64 l.own) (.int .i64 l.other) (.int .i64 l.first) (.slice so n sc) (.int .i64 l.next)
      have bb := bV.grown G bV.size (fun k e => by cases e; omega)
      refine bodyPost_ret (results_lk2 Try.results20 _ _ (w.heap.size + 1 + 1) _ _ _ _ _ _ _ rfl rfl (set_all5 HD.out _ _ _ _ _)) rfl ?_
      exact ⟨_, _, rfl, ⟨_, rfl, OL.out _ bb⟩, Row.nil _, bb⟩
    have d4 : decide (p.place < 0) = false := decide_eq_false c4
    by_cases c5 : 4611686018427387896 < p.place
    · have d5 : decide (4611686018427387896 < p.place) = true := decide_eq_true c5
      go_enter Try.func20, Try.ntmps20
      go_wp2
      have G := gb_all5 V (w.heap.size + 1 + 1) (.int .i64 l.own) (.int .i64 l.other) (.int .i64 l.first) (.slice so n sc) (.int .i64 l.next)
      have bb := bV.grown G bV.size (fun k e => by cases e; omega)
      refine bodyPost_ret (results_lk2 Try.results20 _ _ (w.heap.size + 1 + 1) _ _ _ _ _ _ _ rfl rfl (set_all5 HD.out _ _ _ _ _)) rfl ?_
      exact ⟨_, _, rfl, ⟨_, rfl, OL.out _ bb⟩, Row.nil _, bb⟩
    have d5 : decide (4611686018427387896 < p.place) = false := decide_eq_false c5
    by_cases c6 : p.wait < 0
    · have d6 : decide (p.wait < 0) = true := decide_eq_true c6
      go_enter Try.func20, Try.ntmps20
      go_wp2
      have G := gb_all5 V (w.heap.size + 1 + 1) (.int .i64 l.own) (.int .i64 l.other) (.int .i64 l.first) (.slice so n sc) (.int .i64 l.next)
      have bb := bV.grown G bV.size (fun k e => by cases e; omega)
      refine bodyPost_ret (results_lk2 Try.results20 _ _ (w.heap.size + 1 + 1) _ _ _ _ _ _ _ rfl rfl (set_all5 HD.out _ _ _ _ _)) rfl ?_
      exact ⟨_, _, rfl, ⟨_, rfl, OL.out _ bb⟩, Row.nil _, bb⟩
    have d6 : decide (p.wait < 0) = false := decide_eq_false c6
    by_cases c7 : 4611686018427387904 < p.wait
    · have d7 : decide (4611686018427387904 < p.wait) = true := decide_eq_true c7
      go_enter Try.func20, Try.ntmps20
      go_wp2
      have G := gb_all5 V (w.heap.size + 1 + 1) (.int .i64 l.own) (.int .i64 l.other) (.int .i64 l.first) (.slice so n sc) (.int .i64 l.next)
      have bb := bV.grown G bV.size (fun k e => by cases e; omega)
      refine bodyPost_ret (results_lk2 Try.results20 _ _ (w.heap.size + 1 + 1) _ _ _ _ _ _ _ rfl rfl (set_all5 HD.out _ _ _ _ _)) rfl ?_
      exact ⟨_, _, rfl, ⟨_, rfl, OL.out _ bb⟩, Row.nil _, bb⟩
    have d7 : decide (4611686018427387904 < p.wait) = false := decide_eq_false c7
    by_cases c8 : (8 : Int) < (m : Int)
    · have d8 : decide ((8 : Int) < (m : Int)) = true := decide_eq_true c8
      go_enter Try.func20, Try.ntmps20
      go_wp2
      have G := gb_all5 V (w.heap.size + 1 + 1) (.int .i64 l.own) (.int .i64 l.other) (.int .i64 l.first) (.slice so n sc) (.int .i64 l.next)
      have bb := bV.grown G bV.size (fun k e => by cases e; omega)
      refine bodyPost_ret (results_lk2 Try.results20 _ _ (w.heap.size + 1 + 1) _ _ _ _ _ _ _ rfl rfl (set_all5 HD.out _ _ _ _ _)) rfl ?_
      exact ⟨_, _, rfl, ⟨_, rfl, OL.out _ bb⟩, Row.nil _, bb⟩
    have d8 : decide ((8 : Int) < (m : Int)) = false := decide_eq_false c8
    exact absurd (by unfold letP; rw [HM.out]; omega) HLT.out
  have d3' : (p.to != l.own) = true := by simpa using c9
  go_enter Try.func20, Try.ntmps20
  go_wp2
  have G := gb_all5 V (w.heap.size + 1 + 1) (.int .i64 l.own) (.int .i64 l.other) (.int .i64 l.first) (.slice so n sc) (.int .i64 l.next)
  have bb := bV.grown G bV.size (fun k e => by cases e; omega)
  refine bodyPost_ret (results_lk2 Try.results20 _ _ (w.heap.size + 1 + 1) _ _ _ _ _ _ _ rfl rfl (set_all5 HD.out _ _ _ _ _)) rfl ?_
  exact ⟨_, _, rfl, ⟨_, rfl, OL.out _ bb⟩, Row.nil _, bb⟩
end Go.Proofs.Ytbhgffbmeaomkaa.Gr
