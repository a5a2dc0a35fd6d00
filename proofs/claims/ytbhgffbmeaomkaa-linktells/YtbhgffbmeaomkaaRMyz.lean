/-
  Ends: the document's In, one way of it.
-/
import Derived.Test.YtbhgffbmeaomkaaRM
namespace Go.Proofs.Ytbhgffbmeaomkaa.Gr
open Go.RowKit Go.Sort Lm
set_option linter.unusedVariables false

set_option maxRecDepth 20000 in
set_option maxHeartbeats 4000000 in
theorem rin_yz (v vp : Value) (l : Lk) (p : Pk) (w : World) (hn : l.sent.length ≤ 8) (hp : p.words.length ≤ 1000) (hf0 : 0 ≤ l.first) (hf1 : l.first ≤ 4611686018427387904) (hx0 : 0 ≤ l.next) (hx1 : l.next ≤ 4611686018427387904) (sv : SeesL w v l) (sp : SeesP w vp p)
    (hl : letP l p) (hown : 1 ≤ l.own) (hnew : l.other < p.frm) (ha : p.to = 0) :
    Calls Try.prog 20 #[v, vp] w fun e w' => ∃ v' vt, e = .returned (.tuple #[v', vt]) ∧ SeesL w' v' (inL l p) ∧ SeesI w' vt (inW l p) ∧ Below w.heap.size w w' := by
  obtain ⟨vs, rfl, sl⟩ := sv
  obtain ⟨so, sc, rfl⟩ := sl.slice
  obtain ⟨ws, rfl, sp⟩ := sp
  obtain ⟨po, pc, rfl⟩ := sp.slice
  obtain ⟨V, hV⟩ : ∃ V, ((w.alloc (.cells #[.int .i64 l.own, .int .i64 l.other, .int .i64 l.first, .slice so l.sent.length sc, .int .i64 l.next] 24)).alloc (.cells #[.int .i64 p.frm, .int .i64 p.to, .int .i64 p.place, .slice po p.words.length pc, .int .i64 p.wait] 26)).alloc (.cells #[.int .i64 0, .int .i64 0, .int .i64 0, .slice none 0 0, .int .i64 0] 24) = V := ⟨_, rfl⟩
  obtain ⟨hB, hC, hD⟩ := heaps3' w (.cells #[.int .i64 l.own, .int .i64 l.other, .int .i64 l.first, .slice so l.sent.length sc, .int .i64 l.next] 24) (.cells #[.int .i64 p.frm, .int .i64 p.to, .int .i64 p.place, .slice po p.words.length pc, .int .i64 p.wait] 26) (.cells #[.int .i64 0, .int .i64 0, .int .i64 0, .slice none 0 0, .int .i64 0] 24)
  have bV : Below w.heap.size w V := by rw [← hV]; exact bt (bt (box_below _ _) (box_below _ _)) (box_below _ _)
  rw [hV] at hB hC hD
  have sL : SeesI V (.slice so l.sent.length sc) l.sent := sl.below bV
  have zD : Hid (w.heap.size + 1 + 1 < V.heap.size) := lt_of_block hD
  obtain ⟨p1, p2, p3, p4, p5⟩ := five_cells hB
  have HB : Hid (V.heap[w.heap.size]? = _) := hB
  have HC : Hid (V.heap[w.heap.size + 1]? = _) := hC
  have HD : Hid (V.heap[w.heap.size + 1 + 1]? = _) := hD
  obtain ⟨q1, q2, q3, q4, q5⟩ := five_cells hC
  obtain ⟨r1, r2, r3, r4, r5⟩ := five_cells hD
  have f0 := not_frozen5 hD 0
  have f1 := not_frozen5 hD 1
  have f2 := not_frozen5 hD 2
  have f3 := not_frozen5 hD 3
  have f4 := not_frozen5 hD 4
  have OL : Hid (∀ u, Below w.heap.size w u → SeesI u (.slice so l.sent.length sc) l.sent) := fun u h => sl.below h
  have OP : Hid (∀ u, Below w.heap.size w u → SeesI u (.slice po p.words.length pc) p.words) := fun u h => sp.below h
  clear hB hC hD sl
  obtain ⟨n, hn'⟩ : ∃ n, l.sent.length = n := ⟨_, rfl⟩
  obtain ⟨m, hm'⟩ : ∃ m, p.words.length = m := ⟨_, rfl⟩
  have HN : Hid (l.sent.length = n) := hn'
  have HM : Hid (p.words.length = m) := hm'
  rw [hn'] at hV sL p4 HB hn OL ⊢
  rw [hm'] at hp hV HC sp q4 OP ⊢
  clear hn' hm'
  have SP : Hid (SeesI w (.slice po m pc) p.words) := sp
  clear sp
  obtain ⟨Z, hZ⟩ : ∃ Z, V.heap.size = Z := ⟨_, rfl⟩
  have HZ : Hid (V.heap.size = Z) := hZ
  rw [hZ] at zD
  clear hZ
  have HLT : Hid (letP l p) := hl
  obtain ⟨z1, z2, z3, z4, z5, z6, z7, z8, z9⟩ := hl
  rw [HM.out] at z9
  have d3 : (p.to != 0) = false := by rw [ha]; rfl
  have own0 : 1 ≤ l.own := hown
  have d9 : decide (p.to = l.own) = false := decide_eq_false (by omega)
  have d9' : (p.to == l.own) = false := by simp; omega
  have HT : Hid (p.to = 0) := ha
  clear ha
  clear z4
  have d0 : decide (p.frm < 1) = false := decide_eq_false (by omega)
  have d1 : decide (4611686018427387904 < p.frm) = false := decide_eq_false (by omega)
  have d2 : decide (p.frm < l.other) = false := decide_eq_false (by omega)
  have d4 : decide (p.place < 0) = false := decide_eq_false (by omega)
  have d5 : decide (4611686018427387896 < p.place) = false := decide_eq_false (by omega)
  have d6 : decide (p.wait < 0) = false := decide_eq_false (by omega)
  have d7 : decide (4611686018427387904 < p.wait) = false := decide_eq_false (by omega)
  have d8 : decide ((8 : Int) < (m : Int)) = false := decide_eq_false (by omega)
  go_enter Try.func20, Try.ntmps20
  go_upto_region 5 with (fail)
  clear d0 d1 d2 d3  d4 d5 d6 d7 d8 p1 p2 p3 p4 p5 q1 q2 q3 q4 q5 r1 r2 r3 r4 r5 f0 f1 f2 f3 f4
  refine rg5_any w.heap.size l.own l.other l.first l.next so n sc l.sent (by rfl) (by rfl) (by rfl) (by rfl) (by rfl) (by rfl) (by rfl) (by rfl) (by rfl) (by rfl) (by rfl) (by rfl) (by rfl) (by rfl) (by rfl) (by rfl) (by rfl) (by rfl) (by rfl) (by rfl) (by rfl) (by rfl) (by rfl) (by rfl) (by rfl) (by rfl) (by rfl) (by rfl) (by rfl) (by rfl) (by rfl) (by rfl) (by rfl) (by rfl) (by rfl) (by rfl) (by rfl) (by rfl) (by rfl) (by rfl) (by rfl) (by rfl) (by rfl) (by rfl) (by rfl) (by kernel_rfl) _ _ (by show 76 ≤ 155; decide) (by rfl) HB.out sL (by rw [HN.out]; omega) HN.out ?_
  intro g0 c0 q0 D U hIo
  have R := RnS.start hIo bV HB.out HC.out HD.out
  clear hIo
  have dn : decide (l.other < p.frm) = true := decide_eq_true hnew
  obtain ⟨k1, k2, k3, k4, k5⟩ := R.cD; obtain ⟨b1, b2, b3, b4, b5⟩ := five_cells R.hB; obtain ⟨q1, q2, q3, q4, q5⟩ := five_cells R.hP
  have m1 := R.fD 1; have m2 := R.fD 2; have m4 := R.fD 4
  go_upto_region 10 with (fail)
  have R1 := ((R.set1 p.frm).set4 0).set2 0
  obtain ⟨U1, hU1⟩ : ∃ u, ((U.setCell ⟨D, 1, none⟩ (.int .i64 p.frm)).setCell ⟨D, 4, none⟩ (.int .i64 0)).setCell ⟨D, 2, none⟩ (.int .i64 0) = u := ⟨_, rfl⟩
  rw [hU1] at R1 ⊢
  clear hU1 R dn m1 m2 m4 k1 k2 k3 k4 k5 b1 b2 b3 b4 b5 q1 q2 q3 q4 q5
  have HE : Hid (baseL l p = ⟨l.own, p.frm, 0, l.sent, 0⟩) := (by unfold baseL; rw [if_pos hnew] : baseL l p = ⟨l.own, p.frm, 0, l.sent, 0⟩)
  obtain ⟨f, hf⟩ : ∃ f : Int, 0 = f := ⟨_, rfl⟩
  obtain ⟨x, hx⟩ : ∃ x : Int, 0 = x := ⟨_, rfl⟩
  obtain ⟨o, ho⟩ : ∃ o : Int, p.frm = o := ⟨_, rfl⟩
  have HR1 : RnS w w.heap.size D #[.int .i64 l.own, .int .i64 l.other, .int .i64 l.first, .slice so n sc, .int .i64 l.next] #[.int .i64 p.frm, .int .i64 p.to, .int .i64 p.place, .slice po m pc, .int .i64 p.wait] l.own o f x (.slice g0 n c0) l.sent U1 := by rw [← hf, ← hx, ← ho]; exact R1
  have HE' : Hid (baseL l p = ⟨l.own, o, f, l.sent, x⟩) := (by rw [← hf, ← hx, ← ho]; exact HE.out : baseL l p = ⟨l.own, o, f, l.sent, x⟩)
  have f0 : 0 ≤ f := by omega
  have f1 : f ≤ 4611686018427387904 := by omega
  have x0 : 0 ≤ x := by omega
  have x1 : x ≤ 4611686018427387904 := by omega
  clear R1 HE hf hx ho hnew
  obtain ⟨b1, b2, b3, b4, b5⟩ := five_cells HR1.hB; obtain ⟨q1, q2, q3, q4, q5⟩ := five_cells HR1.hP
  go_upto_region 16 with (fail)
  clear b1 b2 b3 b4 b5 q1 q2 q3 q4 q5 d9 d9'
  have HA : Hid (ackN (baseL l p) p = 0) := (by unfold ackN; rw [if_neg]; rw [HE'.out]; rintro ⟨e1, _⟩; have := HT.out; simp at e1; omega : ackN (baseL l p) p = 0)
  have HL : Hid (ackL (baseL l p) p = ⟨l.own, o, f, l.sent, x⟩) := (by unfold ackL; rw [HA.out, HE'.out]; simp : ackL (baseL l p) p = ⟨l.own, o, f, l.sent, x⟩)
  obtain ⟨N, hN⟩ : ∃ N, n = N := ⟨_, rfl⟩
  obtain ⟨c1, hc1⟩ : ∃ c, c0 = c := ⟨_, rfl⟩
  obtain ⟨g1, hg1⟩ : ∃ g, g0 = g := ⟨_, rfl⟩
  have R2 : RnS w w.heap.size D #[.int .i64 l.own, .int .i64 l.other, .int .i64 l.first, .slice so n sc, .int .i64 l.next] #[.int .i64 p.frm, .int .i64 p.to, .int .i64 p.place, .slice po m pc, .int .i64 p.wait] l.own o f x (.slice g1 N c1) l.sent U1 := by rw [← hN, ← hc1, ← hg1]; exact HR1
  clear HR1 hN hc1 hg1 HA
  obtain ⟨ss, hss⟩ : ∃ ss, l.sent = ss := ⟨_, rfl⟩
  rw [hss] at R2
  have HL2 : Hid (ackL (baseL l p) p = ⟨l.own, o, f, ss, x⟩) := (by rw [← hss]; exact HL.out : ackL (baseL l p) p = ⟨l.own, o, f, ss, x⟩)
  obtain ⟨U2, hU2⟩ : ∃ u, U1 = u := ⟨_, rfl⟩
  rw [hU2] at R2 ⊢
  obtain ⟨f2, hf2⟩ : ∃ f2, f = f2 := ⟨_, rfl⟩
  rw [hf2] at R2 HL2
  clear hU2 HL hss hf2
  obtain ⟨Zt, hZt⟩ : ∃ z, U2.heap.size = z := ⟨_, rfl⟩
  have hDZ : Hid (D < Zt) := (by rw [← hZt]; exact R2.lD : D < Zt)
  have hvZ : Hid (∀ k, Zt ≤ k → Apt (.slice g1 N c1) ss k) := fun k hk => Apt.above R2.s (by rw [hZt]; exact hk)
  have hzz : Zt ≤ U2.heap.size := Nat.le_of_eq hZt.symm
  have hown0 : U2.ownsRow Zt 2 1 (.slice none 0 0) (toldW p.place x p.words 0).length ((toldW p.place x p.words 0).map vw) := by rw [told_zero]; exact ⟨rfl, .inl ⟨rfl, rfl⟩⟩
  have R3 : RnS w w.heap.size D #[.int .i64 l.own, .int .i64 l.other, .int .i64 l.first, .slice so n sc, .int .i64 l.next] #[.int .i64 p.frm, .int .i64 p.to, .int .i64 p.place, .slice po m pc, .int .i64 p.wait] l.own o f2 (x + ((toldW p.place x p.words 0).length : Int)) (.slice g1 N c1) ss U2 := by rw [told_zero]; simpa using R2
  clear R2 hZt
  go_wp2
  go_loopw [8, 9] (fun tv iv wr => ∃ k : Nat, k ≤ m ∧ iv = .int .i64 k ∧ wr.ownsRow Zt 2 1 tv (toldW p.place x p.words k).length ((toldW p.place x p.words k).map vw) ∧ RnS w w.heap.size D #[.int .i64 l.own, .int .i64 l.other, .int .i64 l.first, .slice so n sc, .int .i64 l.next] #[.int .i64 p.frm, .int .i64 p.to, .int .i64 p.place, .slice po m pc, .int .i64 p.wait] l.own o f2 (x + ((toldW p.place x p.words k).length : Int)) (.slice g1 N c1) ss wr ∧ Zt ≤ wr.heap.size) (fun _ iv _ => m - (intOf iv).toNat)
  case atStart => exact ⟨0, Nat.zero_le _, rfl, hown0, R3, hzz⟩
  clear hown0 R3 hzz
  obtain ⟨k, hk, rfl, hown, R, hz⟩ := hrel
  by_cases hlt : k < m
  · have hti := told_len (place := p.place) (next := x) (ws := p.words) (i := k) (by rw [HM.out]; exact hk)
    have hyes := told_yes (place := p.place) (next := x) (ws := p.words) (i := k) (by rw [HM.out]; exact hlt)
    have hno := told_no (place := p.place) (next := x) (ws := p.words) (i := k) (by rw [HM.out]; exact hlt)
    obtain ⟨T, hT⟩ : ∃ T, toldW p.place x p.words k = T := ⟨_, rfl⟩
    rw [hT] at hown R hti hyes hno
    have hTl : T.length ≤ 8 := by split at hti <;> omega
    clear hti hT
    obtain ⟨Y, hY⟩ : ∃ Y, x + (T.length : Int) = Y := ⟨_, rfl⟩
    have HY : Hid (x + (T.length : Int) = Y) := hY
    rw [hY] at R hyes hno
    have Y0 : 0 ≤ Y := by omega
    have Y1 : Y ≤ 4611686018427387912 := by omega
    have OW := OP.out _ R.b
    obtain ⟨ad, rfl, la, ca⟩ := OW.at k (by rw [HM.out]; exact hlt)
    obtain ⟨X, hX⟩ : ∃ X, p.words.getD k 0 = X := ⟨_, rfl⟩
    rw [hX] at ca hyes
    obtain ⟨k1, k2, k3, k4, k5⟩ := R.cD; obtain ⟨q1, q2, q3, q4, q5⟩ := five_cells R.hP
    clear hY hX la OW
    have e1 : decide ((k : Int) < (m : Int)) = true := decide_eq_true (by omega)
    by_cases he : p.place + (k : Int) = Y
    · have HT1 : Hid (_) := hyes he (Nat.zero_le _)
      have e2 : decide (p.place + (k : Int) = Y) = true := decide_eq_true he
      have e2' : (p.place + (k : Int) == Y) = true := by simpa using he
      clear hyes hno he
      have R4 := R.below (box_below wr (.cells #[.int .i64 X] 2))
      go_upto_region 22 with (at_builtin; go_must (refine app64 rfl _ _ rfl Zt _ _ _ rfl (hown.alloc _) (le_alloc hz _) _ [X] rfl (one64' _ _ _ (by simp)) (by simp; omega) ?_); intro v6 w6 ho6 hg6; have R6 := R4.rows hg6 (fun j ej => ⟨Nat.lt_of_lt_of_le hDZ.out ((hown.alloc (.cells #[.int .i64 X] 2)).lt j ej).1, hvZ.out j ((hown.alloc (.cells #[.int .i64 X] 2)).lt j ej).1⟩); clear k1 k2 k3 k4 k5 q1 q2 q3 q4 q5 ca R4; obtain ⟨k1, k2, k3, k4, k5⟩ := R6.cD; have m4 := R6.fD 4)
      have hz6 : Zt ≤ w6.heap.size := Nat.le_trans (le_alloc hz _) hg6.size
      have R7 := R6.set4 (Y + 1)
      have ho7 := own_othr ho6 (gb_setC5 w6 D 4 (.int .i64 (Y + 1))) (fun j ej e2 => by cases ej; have := (ho6.lt _ e2).1; have := hDZ.out; omega)
      have hz7 : Zt ≤ (w6.setCell ⟨D, 4, none⟩ (.int .i64 (Y + 1))).heap.size := Nat.le_trans hz6 (gb_setC5 w6 D 4 (.int .i64 (Y + 1))).size
      clear hown R
      go_wp2
      go_roundw
      case rel => exact ⟨k + 1, by omega, by go_num, by rw [HT1.out, List.length_append, List.map_append]; exact ho7, by rw [HT1.out, List.length_append, show x + ((T.length + [X].length : Nat) : Int) = Y + 1 by have := HY.out; simp; omega]; exact R7, hz7⟩
      case measure => simp [intOf]; omega
    · have HT1 : Hid (_) := hno he
      have e2 : decide (p.place + (k : Int) = Y) = false := decide_eq_false he
      have e2' : (p.place + (k : Int) == Y) = false := by simpa using he
      clear hyes hno he
      go_wp2
      go_roundw
      case rel => exact ⟨k + 1, by omega, by go_num, by rw [HT1.out]; exact hown, by rw [HT1.out, HY.out]; exact R, hz⟩
      case measure => simp [intOf]; omega
  · obtain rfl : k = m := by omega
    have e1 : decide ((k : Int) < (k : Int)) = false := decide_eq_false (by omega)
    have hta := told_all (baseL l p) p
    rw [HE'.out, HM.out] at hta
    have hta' : toldW p.place x p.words k = tellW (baseL l p) p := by rw [HE'.out]; exact hta
    rw [hta'] at hown R
    obtain ⟨T, hT⟩ : ∃ T, tellW (baseL l p) p = T := ⟨_, rfl⟩
    rw [hT] at hown R
    have HT1 : Hid (inL l p = ⟨l.own, o, f2, ss, x + (T.length : Int)⟩ ∧ inW l p = T) := by
      refine ⟨?_, ?_⟩
      · unfold inL; rw [if_pos HLT.out, HL2.out, hT, HE'.out]
      · unfold inW; rw [if_pos HLT.out, hT]
    clear hta hta' hT
    obtain ⟨Y, hY⟩ : ∃ Y, x + (T.length : Int) = Y := ⟨_, rfl⟩
    rw [hY] at R HT1
    clear hY
    have sT : SeesI wr _ T := SeesI.own hown
    obtain ⟨gt, ct, rfl⟩ := own_any hown
    have aT : Apt (.slice gt T.length ct) T (w.heap.size + 1 + 1) := .inr fun j ej e2 => by have := (hown.lt _ ej).1; have := hDZ.out; have := R.lt; omega
    clear hown
    obtain ⟨k1, k2, k3, k4, k5⟩ := R.cD; obtain ⟨q1, q2, q3, q4, q5⟩ := five_cells R.hP; obtain ⟨r1, r2, r3, r4, r5⟩ := five_cells R.hR
    have m0 := R.fR 0; have m1 := R.fR 1; have m2 := R.fR 2; have m3 := R.fR 3; have m4 := R.fR 4
    have RR : Hid (_) := R
    have ST : Hid (_) := sT
    clear R sT
    go_wp2
    obtain ⟨j1, j2, j3⟩ := RR.out.done (.int .i64 l.own) (.int .i64 o) (.int .i64 f2) (.slice g1 N c1) (.int .i64 Y)
    refine bodyPost_ret (results_lk2 Try.results20 _ _ (w.heap.size + 1 + 1) _ _ _ _ _ _ _ rfl rfl j1) rfl ?_
    rw [HT1.out.1, HT1.out.2]
    exact ⟨_, _, rfl, ⟨_, rfl, j2 _ _ RR.out.s RR.out.nr⟩, j2 _ _ ST.out aT, j3⟩
end Go.Proofs.Ytbhgffbmeaomkaa.Gr
