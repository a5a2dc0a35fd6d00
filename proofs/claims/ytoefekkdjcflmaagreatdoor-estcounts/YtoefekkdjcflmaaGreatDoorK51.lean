/- Parts of the proof. -/
import Derived.Test.YtoefekkdjcflmaaGreatDoorK50
namespace Go.Proofs.YtoefekkdjcflmaaGreatDoor.Et
open Go.RowKit Go.Sort Go.Proofs.YtoefekkdjcflmaaGreatDoor.Qm
open Go.Proofs.YtoefekkdjcflmaaGreatDoor.Qt (Less)
theorem cf_cells {w : World} {D : Nat} {c : Nat → Int} {t : TypeId} (h : w.heap[D]? = some (.cells (cfV c) t (0, 0))) : w.cell? ⟨D, 0, none⟩ = some (.int .i64 (c 0)) ∧ w.cell? ⟨D, 1, none⟩ = some (.int .i64 (c 1)) ∧ w.cell? ⟨D, 2, none⟩ = some (.int .i64 (c 2)) ∧ w.cell? ⟨D, 3, none⟩ = some (.int .i64 (c 3)) ∧ w.cell? ⟨D, 4, none⟩ = some (.int .i64 (c 4)) ∧ w.cell? ⟨D, 5, none⟩ = some (.int .i64 (c 5)) := by
  simp [World.cell?, h, cfV]
theorem sm_cells {w : World} {D : Nat} {q : Sm} {t : TypeId} (h : w.heap[D]? = some (.cells (smV q) t (0, 0))) : w.cell? ⟨D, 0, none⟩ = some (.bool q.ms) ∧ w.cell? ⟨D, 7, none⟩ = some (.bool q.hb) ∧ w.cell? ⟨D, 9, none⟩ = some (.bool q.hg) := by
  simp [World.cell?, h, smV]
theorem Tryz.under4i : Tryz.prog.underlying 33 = some (.array 4 3) := by kernel_rfl
theorem Tryz.underI : Tryz.prog.underlying 3 = some (.int .i64) := by kernel_rfl
theorem sizeI (w : World) : (sizeOf 3).run Tryz.prog w = .ok 1 w := by kernel_rfl
theorem guard4i : Tryz.prog.eqGuardType Tryz.prog.depth 33 = false := by kernel_rfl
theorem run_eqO (w : World) (a b c d : Int) : (Op.equalIn 10000 33 (.agg #[.int .i64 a, .int .i64 b, .int .i64 c, .int .i64 d]) (.agg #[.int .i64 a, .int .i64 b, .int .i64 c, .int .i64 d])).run Tryz.prog w = .ok true w := by
  have := Qt.equalIn_row w 9998 33 3 4 Tryz.under4i Tryz.underI sizeI [a, b, c, d] [a, b, c, d] rfl rfl
  refine this.trans ?_
  simp
set_option maxRecDepth 40000 in
set_option maxHeartbeats 16000000 in
theorem estCounts_walk (c : Nat → Int) (e : Es) (q : Sm) (vx vp : Nat → Value) (w : World) (hG : Less w) (h : e.See w vx vp) :
    Calls Tryz.prog 9 #[.agg (cfV c), .agg (e.cells vx vp), .agg (smV q)] w fun z b => z = .returned (.bool true) ∧ Below w.heap.size w b := by
  obtain ⟨p1, p2, p3⟩ := allocs3 w (.cells (cfV c) 24) (.cells (e.cells vx vp) 35) (.cells (smV q) 39)
  have bW := ball3 w (.cells (cfV c) 24) (.cells (e.cells vx vp) 35) (.cells (smV q) 39)
  have hG0 := hG.below bW
  have h0 := h.below bW
  go_enter Tryz.func9, Tryz.ntmps9
  go_upto_region 1 with fail
  generalize ((w.alloc (.cells (cfV c) 24)).alloc (.cells (e.cells vx vp) 35)).alloc (.cells (smV q) 39) = V at p1 p2 p3 bW hG0 h0 ⊢
  clear hG h
  go_upto_region 2 with (go_at_call 11; go_must (refine (shown6 V hG0).mono ?_); rintro z w1 ⟨rfl, b1⟩)
  have g1 := keep b1 p1
  have g2 := keep b1 p2
  have g3 := keep b1 p3
  have h1 := h0.below b1
  have hG1 := hG0.below b1
  have bw1 := bt bW b1
  clear p1 p2 p3 bW hG0 h0 b1
  cases hm : mayB c with
  | false =>
    have hM := rmay_any c w1
    rw [hm] at hM
    obtain ⟨c0, c1, c2, c3, c4, c5⟩ := cf_cells g1
    clear g1 g2 g3 h1 hG1 hm
    go_wp2_with (go_at_call 12; go_must (refine hM.mono ?_); rintro z w2 ⟨rfl, b2⟩)
    go_ret
    exact ⟨rfl, bt bw1 b2⟩
  | true =>
    have hM := rmay_any c w1
    rw [hm] at hM
    refine ct2_seq (DC := w.heap.size) (DE := w.heap.size + 1) (c := c) (cs := e.cells vx vp) (R := rgtB e) (cell_of g1) hM (fun b hb => cell_of (keep hb g2)) rfl (fun b hb => rright_any e vx vp b (h1.below hb)) ?_
    intro w2 b2
    have k1 := keep b2 g1
    have k2 := keep b2 g2
    have k3 := keep b2 g3
    have h2 := h1.below b2
    have hG2 := hG1.below b2
    have bw2 := bt bw1 b2
    clear g1 g2 g3 h1 hG1 bw1 hM b2
    cases hr : rgtB e with
    | false =>
      clear k1 k2 k3 h2 hG2 hm hr
      go_wp2
      go_ret
      exact ⟨rfl, bw2⟩
    | true =>
      have HS := step_E c e q vx vp w2 w2 hm hr h2 (Nat.le_refl _) h2 hG2
      have hlen := stp_pos c e q
      go_upto_region 4 with fail
      refine ct4_seq (DC := w.heap.size) (DE := w.heap.size + 1) (DS := w.heap.size + 1 + 1) (c := c) (cs := e.cells vx vp) (sv := smV q) (E' := stp c e q) (y := plc (stp c e q)) (M := w2.heap.size) (cell_of k1) (cell_of k2) rfl (cell_of k3) rfl HS hlen ?_
      intro vx' vp' b u b3 b4 hs' _ g4 _
      have k2' := keep (bt b3 b4) k2
      have k3' := keep (bt b3 b4) k3
      have bu := bt bw2 (bt b3 b4)
      have hwe := Es.wk k2'
      have hwf := Es.wk g4
      obtain ⟨m0, m7, m9⟩ := sm_cells k3'
      have HC := rgt_cnts hr
      have e22 : u.cell? ⟨w.heap.size + 1, 22, none⟩ = some (.int .i64 e.st) := hwe.cell (by decide) rfl
      have e23 : u.cell? ⟨w.heap.size + 1, 23, none⟩ = some (.int .i64 e.co) := hwe.cell (by decide) rfl
      have f22 : u.cell? ⟨b.heap.size, 22, none⟩ = some (.int .i64 (stp c e q).st) := hwf.cell (by decide) rfl
      have f23 : u.cell? ⟨b.heap.size, 23, none⟩ = some (.int .i64 (stp c e q).co) := hwf.cell (by decide) rfl
      rw [stp_st] at f22
      rw [stp_co] at f23
      clear HS hlen k1 k2 k3 h2 hG2 hm hr b3 b4 hs' g4 k2' k3' bw2
      have HM7 : Hid (∀ v, Below u.heap.size u v → v.cell? ⟨w.heap.size + 1 + 1, 7, none⟩ = some (.bool q.hb)) := fun v hv => (hv.cell (p := ⟨w.heap.size + 1 + 1, 7, none⟩) (block_lt_of_cell m7)).trans m7
      have HO : Hid (∀ k, k < 4 → _) := fun k hk => stp_off c e q k hk
      have HFC : Hid (Wk 29 u b.heap.size ((stp c e q).at_ vx' vp')) := hwf
      have HEC : Hid (Wk 29 u (w.heap.size + 1) (e.at_ vx vp)) := hwe
      clear hwf hwe
      obtain ⟨q1, q2, q3, q4, q5⟩ := HC
      have HQ5 : Hid (∀ k, k < 4 → 0 ≤ e.off k ∧ e.off k ≤ 1000) := q5
      clear q5
      generalize e.st = st at *
      generalize e.co = co at *
      obtain ⟨D, hD⟩ : ∃ D, b.heap.size = D := ⟨_, rfl⟩
      rw [hD] at f22 f23 HFC ⊢
      clear hD
      cases hms : q.ms with
      | true =>
        rw [hms] at m0 f23
        have o0 := (HO.out 0 (by decide)).1 hms
        have o1 := (HO.out 1 (by decide)).1 hms
        have o2 := (HO.out 2 (by decide)).1 hms
        have o3 := (HO.out 3 (by decide)).1 hms
        have e24 : u.cell? ⟨w.heap.size + 1, 24, none⟩ = some (.int .i64 (e.off 0)) := HEC.out.cell (by decide) rfl
        have e25 : u.cell? ⟨w.heap.size + 1, 25, none⟩ = some (.int .i64 (e.off 1)) := HEC.out.cell (by decide) rfl
        have e26 : u.cell? ⟨w.heap.size + 1, 26, none⟩ = some (.int .i64 (e.off 2)) := HEC.out.cell (by decide) rfl
        have e27 : u.cell? ⟨w.heap.size + 1, 27, none⟩ = some (.int .i64 (e.off 3)) := HEC.out.cell (by decide) rfl
        have f24 : u.cell? ⟨D, 24, none⟩ = some (.int .i64 ((stp c e q).off 0)) := HFC.out.cell (by decide) rfl
        have f25 : u.cell? ⟨D, 25, none⟩ = some (.int .i64 ((stp c e q).off 1)) := HFC.out.cell (by decide) rfl
        have f26 : u.cell? ⟨D, 26, none⟩ = some (.int .i64 ((stp c e q).off 2)) := HFC.out.cell (by decide) rfl
        have f27 : u.cell? ⟨D, 27, none⟩ = some (.int .i64 ((stp c e q).off 3)) := HFC.out.cell (by decide) rfl
        rw [o0] at f24
        rw [o1] at f25
        rw [o2] at f26
        rw [o3] at f27
        clear o0 o1 o2 o3 hms
        generalize e.off 0 = y0 at *
        generalize e.off 1 = y1 at *
        generalize e.off 2 = y2 at *
        generalize e.off 3 = y3 at *
        have hq := run_eqO u y0 y1 y2 y3
        have hg := guard4i
        unfold onE at f23
        simp only [if_true] at f23
        by_cases s1 : st + 1 ≤ 1099511627776
        all_goals
          simp only [s1, if_true, if_false] at f22
          by_cases s2 : co + 1 ≤ 1000
          all_goals
            simp only [s2, if_true, if_false] at f23
            go_wp2
            go_ret
            exact ⟨rfl, bu⟩
      | false =>
        rw [hms] at m0 f23
        unfold onE at f23
        simp only [Bool.false_eq_true, if_false] at f23
        have HMS : Hid (q.ms = false) := hms
        have e24 : u.cell? ⟨w.heap.size + 1, 24, none⟩ = some (.int .i64 (e.off 0)) := HEC.out.cell (by decide) rfl
        have f24 : u.cell? ⟨D, 24, none⟩ = some (.int .i64 ((stp c e q).off 0)) := HFC.out.cell (by decide) rfl
        clear hms
        by_cases s1 : st + 1 ≤ 1099511627776
        all_goals
          simp only [s1, if_true, if_false] at f22
          cases hhb : q.hb
          all_goals
            rw [hhb] at m7
            have HHB : Hid (q.hb = _) := hhb
            first
              | (have ho := (HO.out 0 (by decide)).2.1 HMS.out (by rw [if_pos rfl]; exact hhb); rw [ho] at f24; clear ho)
              | skip
            clear hhb
            generalize (stp c e q).off 0 = x0 at f24
            generalize e.off 0 = y0 at e24 f24
            go_upto_region 12 with fail
            iterate 7 go_step
            refine cnt_loop (D := D) (DE := w.heap.size + 1) (DS := w.heap.size + 1 + 1) (qb := q.hb) (qg := q.hg) (x := (stp c e q).off) (y := e.off) (HM7.out u (Below.refl _ _)) m9
              (fun v hv k hk v' hv' => (HFC.out.below (bt hv hv')).cell (by omega) (off_at _ _ _ k hk))
              (fun v hv k hk v' hv' => (HEC.out.below (bt hv hv')).cell (by omega) (off_at e vx vp k hk))
              (fun k hk => ⟨fun h => (HO.out k hk).2.1 HMS.out h, fun h => (HO.out k hk).2.2 HMS.out h⟩) HQ5 ?_
            intro s6 s11 s12 s73 s74 s75 s76 s77 s78 s79 s80 s81 s82 s83 s84 s85 s86 s87 s88 s89 s90 s91 s92 s93 s94 s95 s96 s97 s98 s99 s100 s101 s102 s103 s104 s105 s106 s107 s108 s109 s110 s111 s112 s113 s114 s115 s116 s117 s118 s119 s120 s121 s122 s123 s124 s125 s126 b9 hb9
            have BR := bt bu hb9
            clear e24 f24 e22 e23 f22 f23 s1 m7 m9 m0
            go_wp2
            go_ret
            exact ⟨rfl, BR⟩
end Go.Proofs.YtoefekkdjcflmaaGreatDoor.Et

