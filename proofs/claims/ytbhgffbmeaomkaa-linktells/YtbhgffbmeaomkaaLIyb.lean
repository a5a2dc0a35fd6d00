/-
  Ends: the code's In, one way of it.
-/
import Derived.Test.YtbhgffbmeaomkaaLIo
import Derived.Test.YtbhgffbmeaomkaaLH
import Derived.Test.YtbhgffbmeaomkaaRG7
namespace Go.Proofs.Ytbhgffbmeaomkaa.Gr
open Go.RowKit Go.Sort Lm
set_option linter.unusedVariables false

set_option maxRecDepth 20000 in
set_option maxHeartbeats 4000000 in
theorem in_yb (v vp : Value) (l : Lk) (p : Pk) (w : World) (hn : l.sent.length ≤ 8) (hp : p.words.length ≤ 1000) (hf0 : 0 ≤ l.first) (hf1 : l.first ≤ 4611686018427387904) (hx0 : 0 ≤ l.next) (hx1 : l.next ≤ 4611686018427388904) (sv : SeesL w v l) (sp : SeesP w vp p)
    (hl : letP l p) (hnew : l.other < p.frm) (ha : p.to = l.own) (hb : ¬ 0 < p.wait) :
    Calls Try.prog 19 #[v, vp] w fun e w' => ∃ v' vt, e = .returned (.tuple #[v', vt]) ∧ OwnL w.heap.size w' v' ⟨l.own, p.frm, 0, l.sent, 0 + ((if p.place ≤ 0 then p.words.drop (-p.place).toNat else []).length : Int)⟩ ∧ SeesI w' vt (if p.place ≤ 0 then p.words.drop (-p.place).toNat else []) ∧ New w.heap.size vt ∧ Below w.heap.size w w' := by
  obtain ⟨vs, rfl, sl⟩ := sv
  obtain ⟨so, sc, rfl⟩ := sl.slice
  obtain ⟨ws, rfl, sp⟩ := sp
  obtain ⟨po, pc, rfl⟩ := sp.slice
  obtain ⟨V, hV⟩ : ∃ V, ((w.alloc (.cells #[.int .i64 l.own, .int .i64 l.other, .int .i64 l.first, .slice so l.sent.length sc, .int .i64 l.next] 24)).alloc (.cells #[.int .i64 p.frm, .int .i64 p.to, .int .i64 p.place, .slice po p.words.length pc, .int .i64 p.wait] 26)).alloc (.cells #[.int .i64 0, .int .i64 0, .int .i64 0, .slice none 0 0, .int .i64 0] 24) = V := ⟨_, rfl⟩
  obtain ⟨hB, hC, hD⟩ := heaps3' w (.cells #[.int .i64 l.own, .int .i64 l.other, .int .i64 l.first, .slice so l.sent.length sc, .int .i64 l.next] 24) (.cells #[.int .i64 p.frm, .int .i64 p.to, .int .i64 p.place, .slice po p.words.length pc, .int .i64 p.wait] 26) (.cells #[.int .i64 0, .int .i64 0, .int .i64 0, .slice none 0 0, .int .i64 0] 24)
  have bV : Below w.heap.size w V := by rw [← hV]; exact bt (bt (box_below _ _) (box_below _ _)) (box_below _ _)
  rw [hV] at hB hC hD
  have cA := alone_any (.agg #[.int .i64 l.own, .int .i64 l.other, .int .i64 l.first, .slice so l.sent.length sc, .int .i64 l.next]) l V (by omega) ⟨_, rfl, sl.below bV⟩
  have zD : Hid (w.heap.size + 1 + 1 < V.heap.size) := lt_of_block hD
  obtain ⟨p1, p2, p3, p4, p5⟩ := five_cells hB
  have HB : Hid (V.heap[w.heap.size]? = _) := hB
  have HC : Hid (V.heap[w.heap.size + 1]? = _) := hC
  have HD : Hid (V.heap[w.heap.size + 1 + 1]? = _) := hD
  clear hB hC hD sl
  obtain ⟨n, hn'⟩ : ∃ n, l.sent.length = n := ⟨_, rfl⟩
  obtain ⟨m, hm'⟩ : ∃ m, p.words.length = m := ⟨_, rfl⟩
  have HN : Hid (l.sent.length = n) := hn'
  have HM : Hid (p.words.length = m) := hm'
  rw [hn'] at hV cA p4 HB hn ⊢
  rw [hm'] at hp hV HC sp ⊢
  clear hn' hm'
  have SP : Hid (SeesI w (.slice po m pc) p.words) := sp
  clear sp
  obtain ⟨Z, hZ⟩ : ∃ Z, V.heap.size = Z := ⟨_, rfl⟩
  have HZ : Hid (V.heap.size = Z) := hZ
  rw [hZ] at zD
  clear hZ
  obtain ⟨T, hT⟩ : ∃ T, (if p.place ≤ 0 then p.words.drop (-p.place).toNat else []) = T := ⟨_, rfl⟩
  rw [hT]
  have HT : Hid ((if p.place ≤ 0 then p.words.drop (-p.place).toNat else []) = T) := hT
  clear hT
  have HA : Hid (p.to = l.own) := ha
  clear ha
  have HLT : Hid (letP l p) := hl
  go_enter Try.func19, Try.ntmps19
  go_upto_region 2 with (go_at_call 27; go_must (refine cA.mono ?_); rintro e w1 ⟨v1, rfl, ⟨vs1, rfl, s1, n1⟩, b1⟩; obtain ⟨g1, c1, rfl⟩ := s1.slice; rw [HN.out] at s1 n1 ⊢; obtain ⟨r1, r2, r3, r4, r5⟩ := five_cells (keep b1 HB.out); have f0 := not_frozen5 (keep b1 HB.out) 0; have f1 := not_frozen5 (keep b1 HB.out) 1; have f2 := not_frozen5 (keep b1 HB.out) 2; have f3 := not_frozen5 (keep b1 HB.out) 3; have f4 := not_frozen5 (keep b1 HB.out) 4)
  have I1 : InS w w.heap.size Z l.own l.other l.first l.next (.slice g1 n c1) l.sent #[.int .i64 p.frm, .int .i64 p.to, .int .i64 p.place, .slice po m pc, .int .i64 p.wait] ((((((w1).setCell ⟨w.heap.size, 0, none⟩ (.int .i64 l.own)).setCell ⟨w.heap.size, 1, none⟩ (.int .i64 l.other)).setCell ⟨w.heap.size, 2, none⟩ (.int .i64 l.first)).setCell ⟨w.heap.size, 3, none⟩ (.slice g1 n c1)).setCell ⟨w.heap.size, 4, none⟩ (.int .i64 l.next)) := by
    have G := gb_all5 w1 w.heap.size (.int .i64 l.own) (.int .i64 l.other) (.int .i64 l.first) (.slice g1 n c1) (.int .i64 l.next)
    have h1 := zD.out
    have h2 := b1.size
    have h3 := HZ.out
    rw [h3] at n1
    exact ⟨(bV.trans (b1.mono bV.size)).grown G (by omega) (fun k e => by cases e; exact Nat.le_refl _), set_all5 (keep b1 HB.out) _ _ _ _ _, (G.block _ (by omega) (by simp)).trans (keep b1 HC.out), (G.block _ (by omega) (by simp; omega)).trans (keep b1 HD.out), s1.grown n1 G (fun k e => by cases e; omega), n1, Nat.le_trans (by omega) G.size, h1, rfl⟩
  obtain ⟨u1, hu1⟩ : ∃ u, (((((w1).setCell ⟨w.heap.size, 0, none⟩ (.int .i64 l.own)).setCell ⟨w.heap.size, 1, none⟩ (.int .i64 l.other)).setCell ⟨w.heap.size, 2, none⟩ (.int .i64 l.first)).setCell ⟨w.heap.size, 3, none⟩ (.slice g1 n c1)).setCell ⟨w.heap.size, 4, none⟩ (.int .i64 l.next) = u := ⟨_, rfl⟩
  rw [hu1] at I1 ⊢
  clear hu1 r1 r2 r3 r4 r5 f0 f1 f2 f3 f4 p1 p2 p3 p4 p5 s1 n1
  obtain ⟨k1, k2, k3, k4, k5⟩ := I1.cB
  obtain ⟨q1, q2, q3, q4, q5⟩ := five_cells I1.hC
  have cI := isfor_any (.agg #[.int .i64 l.own, .int .i64 l.other, .int .i64 l.first, .slice g1 n c1, .int .i64 l.next]) (.agg #[.int .i64 p.frm, .int .i64 p.to, .int .i64 p.place, .slice po m pc, .int .i64 p.wait]) l p u1 (by rw [HM.out]; exact hp) ⟨_, rfl, I1.s⟩ ⟨_, rfl, SP.out.below I1.b⟩
  rw [decide_eq_true hl] at cI
  clear hl
  go_upto_region 4 with (go_at_call 28; go_must (refine cI.mono ?_); rintro e w2 ⟨rfl, b2⟩; have I2 := I1.below b2; clear k1 k2 k3 k4 k5 q1 q2 q3 q4 q5; obtain ⟨k1, k2, k3, k4, k5⟩ := I2.cB; obtain ⟨q1, q2, q3, q4, q5⟩ := five_cells I2.hC; have f1 := I2.fB 1; have f2 := I2.fB 2; have f4 := I2.fB 4)
  obtain ⟨z1, z2, z3, _, z5, z6, z7, z8, _⟩ := HLT.out
  have dn : decide (l.other < p.frm) = true := decide_eq_true (by omega)
  go_upto_region 6 with (fail)
  have I3 := ((I2.set1 p.frm).set4 0).set2 0
  obtain ⟨u3, hu3⟩ : ∃ u, ((w2.setCell ⟨w.heap.size, 1, none⟩ (.int .i64 p.frm)).setCell ⟨w.heap.size, 4, none⟩ (.int .i64 0)).setCell ⟨w.heap.size, 2, none⟩ (.int .i64 0) = u := ⟨_, rfl⟩
  rw [hu3] at I3 ⊢
  clear k1 k2 k3 k4 k5 q1 q2 q3 q4 q5
  clear hu3 f1 f2 f4 dn
  obtain ⟨k1, k2, k3, k4, k5⟩ := I3.cB
  obtain ⟨q1, q2, q3, q4, q5⟩ := five_cells I3.hC
  have dq : decide (p.to = l.own) = true := decide_eq_true HA.out
  have dq' : (p.to == l.own) = true := by simpa using HA.out
  have dw : decide (0 < p.wait) = false := decide_eq_false (by omega)
  go_upto_region 8 with (fail)
  by_cases ht : 0 < p.place
  · have dt : decide (0 < p.place) = true := decide_eq_true ht
    have eT : T = [] := HT.out.symm.trans (if_neg (by omega))
    have d0 := I3.fD 0; have d1 := I3.fD 1; have d2 := I3.fD 2; have d3 := I3.fD 3; have d4 := I3.fD 4; obtain ⟨e1, e2, e3, e4, e5⟩ := I3.cD
    go_wp2
    obtain ⟨r1, r2, r3⟩ := I3.done (.int .i64 l.own) (.int .i64 p.frm) (.int .i64 0) (.slice g1 n c1) (.int .i64 0)
    refine bodyPost_ret (results_lk2 Try.results19 _ _ (w.heap.size + 1 + 1) _ _ _ _ _ _ _ rfl rfl r1) rfl ?_
    exact ⟨_, _, rfl, ⟨_, by rw [eT]; simp, r2 _ _ I3.s I3.nw, I3.nw.mono (by have := zD.out; omega)⟩, (by rw [eT]; exact Row.nil _), (fun k e => by cases e), r3⟩
  · have dt : decide (0 < p.place) = false := decide_eq_false ht
    have eT : T = p.words.drop (-p.place).toNat := HT.out.symm.trans (if_pos (by omega))
    have cT := behind_any (.slice po m pc) p.words (-p.place) u3 (by omega) (by rw [HM.out]; exact hp) (SP.out.below I3.b)
    rw [← eT] at cT
    have hTl : Hid (T.length ≤ 1000) := (by rw [eT, List.length_drop, HM.out]; omega : T.length ≤ 1000)
    clear eT
    go_upto_region 12 with (go_at_call 29; go_must (refine cT.mono ?_); rintro e w5 ⟨v5, rfl, s5, n5, b5⟩; have I5 := I3.below b5; obtain ⟨g5, c5, rfl⟩ := s5.slice; clear k1 k2 k3 k4 k5 q1 q2 q3 q4 q5; obtain ⟨k1, k2, k3, k4, k5⟩ := I5.cB; obtain ⟨q1, q2, q3, q4, q5⟩ := five_cells I5.hC; have f4 := I5.fB 4; have hTl2 := hTl.out; have hTl3 : (T.length : Int) ≤ 1000 := (by omega); clear hTl2)
    have I6 := I5.set4 ((T.length : Int))
    have n6 := n5.mono I3.z
    have s6 := s5.grown n6 (gb_setC5 w5 w.heap.size 4 (.int .i64 ((T.length : Int)))) (fun k e => by cases e; have := zD.out; omega)
    obtain ⟨u6, hu6⟩ : ∃ u, w5.setCell ⟨w.heap.size, 4, none⟩ (.int .i64 ((T.length : Int))) = u := ⟨_, rfl⟩
    rw [hu6] at I6 s6 ⊢
    clear k1 k2 k3 k4 k5 q1 q2 q3 q4 q5
    clear hu6 f4
    obtain ⟨k1, k2, k3, k4, k5⟩ := I6.cB; obtain ⟨q1, q2, q3, q4, q5⟩ := five_cells I6.hC
    have d0 := I6.fD 0; have d1 := I6.fD 1; have d2 := I6.fD 2; have d3 := I6.fD 3; have d4 := I6.fD 4; obtain ⟨e1, e2, e3, e4, e5⟩ := I6.cD
    go_wp2
    obtain ⟨r1, r2, r3⟩ := I6.done (.int .i64 l.own) (.int .i64 p.frm) (.int .i64 0) (.slice g1 n c1) (.int .i64 ((T.length : Int)))
    refine bodyPost_ret (results_lk2 Try.results19 _ _ (w.heap.size + 1 + 1) _ _ _ _ _ _ _ rfl rfl r1) rfl ?_
    exact ⟨_, _, rfl, ⟨_, by simp, r2 _ _ I6.s I6.nw, I6.nw.mono (by have := zD.out; omega)⟩, r2 _ _ s6 n6, n6.mono (by have := zD.out; omega), r3⟩
end Go.Proofs.Ytbhgffbmeaomkaa.Gr
