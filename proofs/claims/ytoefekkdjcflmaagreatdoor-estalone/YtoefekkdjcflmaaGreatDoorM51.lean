/- Parts of the proof. -/
import Derived.Test.YtoefekkdjcflmaaGreatDoorM49
import Derived.Test.YtoefekkdjcflmaaGreatDoorM50
namespace Go.Proofs.YtoefekkdjcflmaaGreatDoor.Et
open Go.RowKit Go.Sort Go.Proofs.YtoefekkdjcflmaaGreatDoor.Qm
open Go.Proofs.YtoefekkdjcflmaaGreatDoor.Qt (Less)
def qZ (z : Int) : Sm := ⟨false, true, false, fun _ => 0, fun _ => 0, fun _ => 0, z⟩
def q0 : Sm := ⟨false, false, false, fun _ => 0, fun _ => 0, fun _ => 0, 0⟩
theorem hol_baro (s : Sg) (z : Int) (m : s.ms = false) (g : s.hg = false) : holS { s with hb := true, br := z } = updS { s with hb := true, br := z } 2 0 z (s.c 3) := by
  have hb : baS { s with hb := true, br := z } = updS { s with hb := true, br := z } 2 0 z (s.c 3) := by unfold baS; rw [if_pos rfl]
  unfold holS
  rw [if_neg (by show ¬ s.ms = true; rw [m]; decide), hb, if_neg (by show ¬ s.hg = true; rw [g]; decide)]
theorem hol_none (s : Sg) (m : s.ms = false) (b : s.hb = false) (g : s.hg = false) : holS s = s := by
  have hb : baS s = s := by unfold baS; rw [if_neg (by rw [b]; decide)]
  unfold holS
  rw [if_neg (by rw [m]; decide), hb, if_neg (by rw [g]; decide)]
set_option maxRecDepth 40000 in
theorem alone_eq (c : Nat → Int) (e : Es) (z : Int) : (stp c e (qZ z)).tu = (stp c e q0).tu ∧ (∀ i, i ≠ 2 → (stp c e (qZ z)).X i = (stp c e q0).X i ∧ (stp c e (qZ z)).P i = (stp c e q0).P i) ∧
    (stp c e (qZ z)).st = (stp c e q0).st ∧ (stp c e (qZ z)).co = (stp c e q0).co ∧ ∀ k, k ≠ 0 → (stp c e (qZ z)).off k = (stp c e q0).off k := by
  have hs : preS (turS (begS 0 c e (qZ z))) = { preS (turS (begS 0 c e q0)) with hb := true, br := z } := rfl
  have m : (preS (turS (begS 0 c e q0))).ms = false := rfl
  have b : (preS (turS (begS 0 c e q0))).hb = false := rfl
  have g : (preS (turS (begS 0 c e q0))).hg = false := rfl
  have hA : stp c e (qZ z) = outE (couS (holS (preS (turS (begS 0 c e (qZ z)))))) := rfl
  have hB : stp c e q0 = outE (couS (holS (preS (turS (begS 0 c e q0))))) := rfl
  rw [hA, hB, hs]
  clear hA hB hs
  generalize preS (turS (begS 0 c e q0)) = s at m b g
  rw [hol_baro s z m g, hol_none s m b g]
  refine ⟨rfl, fun i hi => ⟨?_, ?_⟩, rfl, rfl, fun k hk => ?_⟩
  · show at' s.X 2 _ i = s.X i
    unfold at'; rw [if_neg hi]
  · show at' s.P 2 _ i = s.P i
    unfold at'; rw [if_neg hi]
  · exact upd_off_ne { s with hb := true, br := z } 2 0 k z (s.c 3) hk
theorem eqB_self (xs : List Int) : eqB xs xs = true := by simp [eqB]
theorem samE_self (e : Es) : samE e e = true := by
  have h : ∀ i, axE e e i = true := fun i => by unfold axE sameB; simp [eqB_self]
  unfold samE
  simp [h, Qt.Qm.eq4]
def two (f : Nat → Value) (v : Value) (i : Nat) : Value := if i = 2 then v else f i
set_option maxRecDepth 40000 in
theorem put_alone {A B : Es} {vx1 vp1 : Nat → Value} {vx2 vp2 : Value} {w : World} {D : Nat} (h : Wk 29 w D (A.at_ vx1 vp1)) (h1 : A.tu = B.tu) (h2 : ∀ i, A.r i = B.r i ∧ A.c i = B.c i ∧ A.r' i = B.r' i ∧ A.c' i = B.c' i) (h3 : A.st = B.st) (h4 : A.co = B.co) (h5 : ∀ k, k ≠ 0 → A.off k = B.off k) :
    ∀ j v, (B.cells (two vx1 vx2) (two vp1 vp2))[j]? = some v → ((((((((w.setCell ⟨D, 16, none⟩ (.int .i64 (B.r 2))).setCell ⟨D, 17, none⟩ (.int .i64 (B.c 2))).setCell ⟨D, 18, none⟩ vx2).setCell ⟨D, 19, none⟩ (.int .i64 (B.r' 2))).setCell ⟨D, 20, none⟩ (.int .i64 (B.c' 2))).setCell ⟨D, 21, none⟩ vp2).setCell ⟨D, 24, none⟩ (.int .i64 (B.off 0))).setCell ⟨D, 28, none⟩ (.bool B.sat)).cell? ⟨D, 0 + j, none⟩ = some v := fun j v hv => by
  have hj : j < 29 := by
    by_cases hj : j < 29
    · exact hj
    · rw [Array.getElem?_eq_none (by show 29 ≤ j; omega)] at hv; cases hv
  rw [Nat.zero_add]
  refine ((((((((h.set 16 _).set 17 _).set 18 _).set 19 _).set 20 _).set 21 _).set 24 _).set 28 _).cell hj ?_
  have e1 : (B.cells (two vx1 vx2) (two vp1 vp2)).getD j undef = v := by rw [Array.getD_eq_getD_getElem?, hv]; rfl
  rw [← e1]
  clear e1 hv
  have t : ∀ k, A.tu k = B.tu k := fun k => by rw [h1]
  rcases (by omega : j = 0 ∨ j = 1 ∨ j = 2 ∨ j = 3 ∨ j = 4 ∨ j = 5 ∨ j = 6 ∨ j = 7 ∨ j = 8 ∨ j = 9 ∨ j = 10 ∨ j = 11 ∨ j = 12 ∨ j = 13 ∨ j = 14 ∨ j = 15 ∨ j = 16 ∨ j = 17 ∨ j = 18 ∨ j = 19 ∨ j = 20 ∨ j = 21 ∨ j = 22 ∨ j = 23 ∨ j = 24 ∨ j = 25 ∨ j = 26 ∨ j = 27 ∨ j = 28) with rfl | rfl | rfl | rfl | rfl | rfl | rfl | rfl | rfl | rfl | rfl | rfl | rfl | rfl | rfl | rfl | rfl | rfl | rfl | rfl | rfl | rfl | rfl | rfl | rfl | rfl | rfl | rfl | rfl
  all_goals
    simp only [up, Es.at_, Es.cells, two]
    simp [t, (h2 0).1, (h2 0).2.1, (h2 0).2.2.1, (h2 0).2.2.2, (h2 1).1, (h2 1).2.1, (h2 1).2.2.1, (h2 1).2.2.2, h3, h4, h5 1 (by decide), h5 2 (by decide), h5 3 (by decide)]
theorem B_set {B : Nat} {a w : World} (h : Below B a w) {D : Nat} (hD : B ≤ D) (k : Nat) (v : Value) : Below B a (w.setCell ⟨D, k, none⟩ v) := h.setCell hD v
set_option maxRecDepth 40000 in
set_option maxHeartbeats 16000000 in
theorem estAlone_walk (c : Nat → Int) (e : Es) (z : Int) (vx vp : Nat → Value) (w : World) (hG : Less w) (h : e.See w vx vp) :
    Calls Tryz.prog 10 #[.agg (cfV c), .agg (e.cells vx vp), .int .i64 z] w fun z b => z = .returned (.bool true) ∧ Below w.heap.size w b := by
  obtain ⟨p1, p2⟩ := allocs2 w (.cells (cfV c) 24) (.cells (e.cells vx vp) 35)
  have bW := ball2 w (.cells (cfV c) 24) (.cells (e.cells vx vp) 35)
  have hG0 := hG.below bW
  have h0 := h.below bW
  go_enter Tryz.func10, Tryz.ntmps10
  go_upto_region 1 with fail
  generalize (w.alloc (.cells (cfV c) 24)).alloc (.cells (e.cells vx vp) 35) = V at p1 p2 bW hG0 h0 ⊢
  clear hG h
  go_upto_region 2 with (go_at_call 11; go_must (refine (shown6 V hG0).mono ?_); rintro z w1 ⟨rfl, b1⟩)
  have g1 := keep b1 p1
  have g2 := keep b1 p2
  have h1 := h0.below b1
  have hG1 := hG0.below b1
  have bw1 := bt bW b1
  clear p1 p2 bW hG0 h0 b1
  cases hm : mayB c with
  | false =>
    have hM := rmay_any c w1
    rw [hm] at hM
    obtain ⟨c0, c1, c2, c3, c4, c5⟩ := cf_cells g1
    clear g1 g2 h1 hG1 hm
    go_wp2_with (go_at_call 12; go_must (refine hM.mono ?_); rintro z w2 ⟨rfl, b2⟩)
    go_ret
    exact ⟨rfl, bt bw1 b2⟩
  | true =>
    have hM := rmay_any c w1
    rw [hm] at hM
    refine al2_seq (DC := w.heap.size) (DE := w.heap.size + 1) (c := c) (cs := e.cells vx vp) (R := rgtB e) (cell_of g1) hM (fun b hb => cell_of (keep hb g2)) rfl (fun b hb => rright_any e vx vp b (h1.below hb)) ?_
    intro w2 b2
    have k1 := keep b2 g1
    have k2 := keep b2 g2
    have h2 := h1.below b2
    have hG2 := hG1.below b2
    have bw2 := bt bw1 b2
    clear g1 g2 h1 hG1 bw1 hM b2
    cases hr : rgtB e with
    | false =>
      clear k1 k2 h2 hG2 hm hr
      go_wp2
      go_ret
      exact ⟨rfl, bw2⟩
    | true =>
      have HA := step_E c e (qZ z) vx vp w2 w2 hm hr h2 (Nat.le_refl _) h2 hG2
      go_upto_region 4 with fail
      refine al4_seq (DC := w.heap.size) (DE := w.heap.size + 1) (c := c) (cs := e.cells vx vp) (E' := stp c e (qZ z)) (y := plc (stp c e (qZ z))) (M := w2.heap.size) (z := z) (cell_of k1) (cell_of k2) rfl HA (stp_pos c e (qZ z)) ?_
      intro vx1 vp1 b3 u1 d3 d4 s1 _ a1 _
      have b13 := bt d3 d4
      have j1 := keep b13 k1
      have j2 := keep b13 k2
      have HB := step_E c e q0 vx vp u1 u1 hm hr (h2.below b13) (Nat.le_refl _) (h2.below b13) (hG2.below b13)
      go_upto_region 5 with fail
      refine al5_seq (DC := w.heap.size) (DE := w.heap.size + 1) (c := c) (cs := e.cells vx vp) (E' := stp c e q0) (y := plc (stp c e q0)) (M := u1.heap.size) (cell_of j1) (cell_of j2) rfl HB (stp_pos c e q0) ?_
      intro vx2 vp2 b5 u2 d5 d6 s2 _ a2 _
      have b15 := bt d5 d6
      have a1' := keep b15 a1
      have s1' := s1.below b15
      have bu2 := bt bw2 (bt b13 b15)
      clear HA HB j1 j2 k1 k2 h2 hG2 d5 d6 b15 b13 s1 a1 bw2 d4 d3
      go_upto_region 6 with fail
      refine al6_seq (D := b3.heap.size) (E := stp c e (qZ z)) (vx := vx1) (vp := vp1) (cell_of a1') s1' ?_
      have b7 := box_below u2 (.cells ((stp c e (qZ z)).cells vx1 vp1) 35)
      have g7 := heap_new u2 (.cells ((stp c e (qZ z)).cells vx1 vp1) 35)
      have a7 := keep b7 a2
      have hz7 : u2.heap.size < (u2.alloc (.cells ((stp c e (qZ z)).cells vx1 vp1) 35)).heap.size := by simp
      have hlb : b5.heap.size < u2.heap.size := lt_of_block a2
      generalize u2.alloc (.cells ((stp c e (qZ z)).cells vx1 vp1) 35) = u3 at b7 g7 a7 hz7 ⊢
      have hA3 := Es.wk g7
      have hB3 := Es.wk a7
      obtain ⟨so, sc, ex⟩ := (s2 2 (by decide)).1.slice
      obtain ⟨to', tc, ep⟩ := (s2 2 (by decide)).2.slice
      have f16 : u3.cell? ⟨b5.heap.size, 16, none⟩ = some (.int .i64 ((stp c e q0).r 2)) := hB3.cell (by decide) rfl
      have f17 : u3.cell? ⟨b5.heap.size, 17, none⟩ = some (.int .i64 ((stp c e q0).c 2)) := hB3.cell (by decide) rfl
      have f18 : u3.cell? ⟨b5.heap.size, 18, none⟩ = some (vx2 2) := hB3.cell (by decide) rfl
      have f19 : u3.cell? ⟨b5.heap.size, 19, none⟩ = some (.int .i64 ((stp c e q0).r' 2)) := hB3.cell (by decide) rfl
      have f20 : u3.cell? ⟨b5.heap.size, 20, none⟩ = some (.int .i64 ((stp c e q0).c' 2)) := hB3.cell (by decide) rfl
      have f21 : u3.cell? ⟨b5.heap.size, 21, none⟩ = some (vp2 2) := hB3.cell (by decide) rfl
      have f24 : u3.cell? ⟨b5.heap.size, 24, none⟩ = some (.int .i64 ((stp c e q0).off 0)) := hB3.cell (by decide) rfl
      have f28 : u3.cell? ⟨b5.heap.size, 28, none⟩ = some (.bool (stp c e q0).sat) := hB3.cell (by decide) rfl
      rw [ex] at f18
      rw [ep] at f21
      have t16 : u3.cell? ⟨u2.heap.size, 16, none⟩ = some _ := hA3.cell (by decide) rfl
      have t17 : u3.cell? ⟨u2.heap.size, 17, none⟩ = some _ := hA3.cell (by decide) rfl
      have t18 : u3.cell? ⟨u2.heap.size, 18, none⟩ = some _ := hA3.cell (by decide) rfl
      have t19 : u3.cell? ⟨u2.heap.size, 19, none⟩ = some _ := hA3.cell (by decide) rfl
      have t20 : u3.cell? ⟨u2.heap.size, 20, none⟩ = some _ := hA3.cell (by decide) rfl
      have t21 : u3.cell? ⟨u2.heap.size, 21, none⟩ = some _ := hA3.cell (by decide) rfl
      have t24 : u3.cell? ⟨u2.heap.size, 24, none⟩ = some _ := hA3.cell (by decide) rfl
      have t28 : u3.cell? ⟨u2.heap.size, 28, none⟩ = some _ := hA3.cell (by decide) rfl
      have z16 := hA3.frozen 16
      have z17 := hA3.frozen 17
      have z18 := hA3.frozen 18
      have z19 := hA3.frozen 19
      have z20 := hA3.frozen 20
      have z21 := hA3.frozen 21
      have z24 := hA3.frozen 24
      have z28 := hA3.frozen 28
      have hne : b5.heap.size ≠ u2.heap.size := by omega
      clear hm hr
      go_upto_region 10 with fail
      have he := alone_eq c e z
      have hcl := put_alone (A := stp c e (qZ z)) (B := stp c e q0) (vx1 := vx1) (vp1 := vp1) (vx2 := (.slice so ((stp c e q0).X 2).length sc)) (vp2 := (.slice to' ((stp c e q0).P 2).length tc)) hA3 he.1 (fun i => ⟨rfl, rfl, rfl, rfl⟩) he.2.2.1 he.2.2.2.1 he.2.2.2.2
      have b9 : Below u2.heap.size u3 ((((((((u3.setCell ⟨u2.heap.size, 16, none⟩ (.int .i64 ((stp c e q0).r 2))).setCell ⟨u2.heap.size, 17, none⟩ (.int .i64 ((stp c e q0).c 2))).setCell ⟨u2.heap.size, 18, none⟩ (.slice so ((stp c e q0).X 2).length sc)).setCell ⟨u2.heap.size, 19, none⟩ (.int .i64 ((stp c e q0).r' 2))).setCell ⟨u2.heap.size, 20, none⟩ (.int .i64 ((stp c e q0).c' 2))).setCell ⟨u2.heap.size, 21, none⟩ (.slice to' ((stp c e q0).P 2).length tc)).setCell ⟨u2.heap.size, 24, none⟩ (.int .i64 ((stp c e q0).off 0))).setCell ⟨u2.heap.size, 28, none⟩ (.bool (stp c e q0).sat)) := (B_set (B_set (B_set (B_set (B_set (B_set (B_set (B_set (Below.refl u2.heap.size u3) (Nat.le_refl _) 16 (.int .i64 ((stp c e q0).r 2))) (Nat.le_refl _) 17 (.int .i64 ((stp c e q0).c 2))) (Nat.le_refl _) 18 (.slice so ((stp c e q0).X 2).length sc)) (Nat.le_refl _) 19 (.int .i64 ((stp c e q0).r' 2))) (Nat.le_refl _) 20 (.int .i64 ((stp c e q0).c' 2))) (Nat.le_refl _) 21 (.slice to' ((stp c e q0).P 2).length tc)) (Nat.le_refl _) 24 (.int .i64 ((stp c e q0).off 0))) (Nat.le_refl _) 28 (.bool (stp c e q0).sat))
      have b29 := b7.trans b9
      have hbb := (b9.block b5.heap.size hlb).trans a7
      have see2 := s2.below b29
      have see1 : (stp c e q0).See ((((((((u3.setCell ⟨u2.heap.size, 16, none⟩ (.int .i64 ((stp c e q0).r 2))).setCell ⟨u2.heap.size, 17, none⟩ (.int .i64 ((stp c e q0).c 2))).setCell ⟨u2.heap.size, 18, none⟩ (.slice so ((stp c e q0).X 2).length sc)).setCell ⟨u2.heap.size, 19, none⟩ (.int .i64 ((stp c e q0).r' 2))).setCell ⟨u2.heap.size, 20, none⟩ (.int .i64 ((stp c e q0).c' 2))).setCell ⟨u2.heap.size, 21, none⟩ (.slice to' ((stp c e q0).P 2).length tc)).setCell ⟨u2.heap.size, 24, none⟩ (.int .i64 ((stp c e q0).off 0))).setCell ⟨u2.heap.size, 28, none⟩ (.bool (stp c e q0).sat)) (two vx1 (.slice so ((stp c e q0).X 2).length sc)) (two vp1 (.slice to' ((stp c e q0).P 2).length tc)) := fun i hi => by
        unfold two
        by_cases e2 : i = 2
        · subst e2
          rw [if_pos rfl, if_pos rfl]
          have q := see2 2 hi
          rw [ex, ep] at q
          exact q
        · rw [if_neg e2, if_neg e2, ← (he.2.1 i e2).1, ← (he.2.1 i e2).2]
          exact (s1'.below b29) i hi
      have sh : (stp c e q0).Short := fun i hi => by have := stp_len c e q0 i hi; omega
      have hS := rsame6_any (stp c e q0) (stp c e q0) (two vx1 (.slice so ((stp c e q0).X 2).length sc)) (two vp1 (.slice to' ((stp c e q0).P 2).length tc)) vx2 vp2 _ see1 see2 sh sh
      rw [samE_self] at hS
      have BR := bu2.trans (b29.mono bu2.size)
      clear f16 f17 f18 f19 f20 f21 f24 f28 t16 t17 t18 t19 t20 t21 t24 t28 z16 z17 z18 z19 z20 z21 z24 z28
      refine al10_seq (DA := u2.heap.size) (DB := b5.heap.size) (ca := (stp c e q0).cells (two vx1 (.slice so ((stp c e q0).X 2).length sc)) (two vp1 (.slice to' ((stp c e q0).P 2).length tc))) (cb := (stp c e q0).cells vx2 vp2) hcl rfl (cell_of hbb) rfl hS ?_
      intro b10 bb10
      have BR2 := bt BR bb10
      clear hcl hS BR see1 see2 b9 b29 hbb
      go_wp2
      go_ret
      exact ⟨rfl, BR2⟩
end Go.Proofs.YtoefekkdjcflmaaGreatDoor.Et

