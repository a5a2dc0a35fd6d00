/- Parts of the proof. -/
import Derived.Test.YtoefekkdjcflmaaGreatDoorM41
namespace Go.Proofs.YtoefekkdjcflmaaGreatDoor.Et
open Go.RowKit Go.Sort Go.Proofs.YtoefekkdjcflmaaGreatDoor.Qm
def Es.at_ (e : Es) (vx vp : Nat → Value) (k : Nat) : Value := (e.cells vx vp).getD k undef
theorem Es.wk {e : Es} {vx vp : Nat → Value} {w : World} {D : Nat} {t : TypeId} (h : w.heap[D]? = some (.cells (e.cells vx vp) t (0, 0))) : Wk 29 w D (e.at_ vx vp) :=
  ⟨_, _, h, Nat.le_refl 29, fun k hk => by
    have hk' : k < (e.cells vx vp).size := hk
    unfold Es.at_
    rw [Array.getElem?_eq_getElem hk', Array.getD_eq_getD_getElem?, Array.getElem?_eq_getElem hk']
    rfl⟩
theorem off_at (e : Es) (vx vp : Nat → Value) (k : Nat) (hk : k < 4) : e.at_ vx vp (24 + k) = .int .i64 (e.off k) := by
  rcases (by omega : k = 0 ∨ k = 1 ∨ k = 2 ∨ k = 3) with rfl | rfl | rfl | rfl <;> rfl
theorem rgt_st {e : Es} (h : cnB 1099511627776 e.st = true) : rgtB e = false := by unfold rgtB; rw [h]; simp
theorem rgt_co {e : Es} (h : cnB 1000 e.co = true) : rgtB e = false := by unfold rgtB; rw [h]; simp
theorem rgt_off {e : Es} {k : Nat} (hk : k < 4) (h : cnB 1000 (e.off k) = true) : rgtB e = false := by
  unfold rgtB
  rw [show Qm.anyB (fun k => cnB 1000 (e.off k)) 4 = true from anyB_hit (o := fun k => cnB 1000 (e.off k)) hk h]; simp
theorem rgt_ax {e : Es} {k : Nat} (hk : k < 3) (h : axB e k = true) : rgtB e = false := by
  unfold rgtB
  rw [show Qm.anyB (axB e) 3 = true from anyB_hit hk h]; simp
theorem rgt_eq {e : Es} (h1 : cnB 1099511627776 e.st = false) (h2 : cnB 1000 e.co = false) (h3 : Qm.anyB (fun k => cnB 1000 (e.off k)) 4 = false) (h4 : Qm.anyB (axB e) 3 = false) : rgtB e = !Qt.Qm.anyB (fun k => ob (e.tu k)) 4 := by
  unfold rgtB
  rw [h1, h2, h3, h4]; simp
set_option maxRecDepth 20000 in
set_option maxHeartbeats 8000000 in
theorem rright_any (e : Es) (vx vp : Nat → Value) (w : World) (h : e.See w vx vp) :
    Calls Tryz.prog 13 #[.agg (e.cells vx vp)] w fun z b => z = .returned (.bool (rgtB e)) ∧ Below w.heap.size w b := by
  have g1 := heap_new w (.cells (e.cells vx vp) 35)
  have bW := box_below w (.cells (e.cells vx vp) 35)
  have hS := h.below bW
  have hlw : w.heap.size < (w.alloc (.cells (e.cells vx vp) 35)).heap.size := by simp
  go_enter Tryz.func13, Tryz.ntmps13
  go_upto_region 1 with fail
  generalize w.alloc (.cells (e.cells vx vp) 35) = V at g1 bW hS hlw ⊢
  have hwk := Es.wk g1
  have c22 : V.cell? ⟨w.heap.size, 22, none⟩ = some (.int .i64 e.st) := hwk.cell (by decide) rfl
  have c23 : V.cell? ⟨w.heap.size, 23, none⟩ = some (.int .i64 e.co) := hwk.cell (by decide) rfl
  have HW : Hid (Wk 29 V w.heap.size (e.at_ vx vp)) := hwk
  have HS : Hid (e.See V vx vp) := hS
  clear hwk hS h g1
  by_cases s1 : e.st < 0
  · have hr := rgt_st (e := e) (by unfold cnB; simp [s1])
    have HR : Hid (rgtB e = false) := hr
    clear hr
    go_wp2
    go_ret
    exact ⟨by rw [HR.out]; rfl, bW⟩
  by_cases s2 : 1099511627776 < e.st
  · have hr := rgt_st (e := e) (by unfold cnB; simp [s2])
    have HR : Hid (rgtB e = false) := hr
    clear hr
    go_wp2
    go_ret
    exact ⟨by rw [HR.out]; rfl, bW⟩
  by_cases s3 : e.co < 0
  · have hr := rgt_co (e := e) (by unfold cnB; simp [s3])
    have HR : Hid (rgtB e = false) := hr
    clear hr
    go_wp2
    go_ret
    exact ⟨by rw [HR.out]; rfl, bW⟩
  by_cases s4 : 1000 < e.co
  · have hr := rgt_co (e := e) (by unfold cnB; simp [s4])
    have HR : Hid (rgtB e = false) := hr
    clear hr
    go_wp2
    go_ret
    exact ⟨by rw [HR.out]; rfl, bW⟩
  have H12 : Hid (cnB 1099511627776 e.st = false ∧ cnB 1000 e.co = false) := ⟨by unfold cnB; simp [s1, s2], by unfold cnB; simp [s3, s4]⟩
  go_upto_region 4 with fail
  clear c22 c23 s1 s2 s3 s4
  go_loop [3] (fun i => ∃ k : Nat, k ≤ 4 ∧ i = .int .i64 k ∧ Hid (Qm.anyB (fun j => cnB 1000 (e.off j)) k = false)) (fun i => 4 - (intOf i).toNat)
  case atStart => exact ⟨0, Nat.zero_le _, rfl, rfl⟩
  case round =>
    obtain ⟨k, hk, rfl, hno⟩ := hrel
    by_cases h6 : k < 4
    · have hc := HW.out.cell (k := 24 + k) (by omega) (off_at e vx vp k h6)
      have HC : Hid (cnB 1000 (e.off k) = true → rgtB e = false) := fun h => rgt_off h6 h
      have HN : Hid (cnB 1000 (e.off k) = false → Qm.anyB (fun j => cnB 1000 (e.off j)) (k + 1) = false) := fun h => by rw [Qm.anyB, hno.out, h]; rfl
      obtain ⟨x, hx⟩ : ∃ x, e.off k = x := ⟨_, rfl⟩
      rw [hx] at hc HC HN
      clear hx
      by_cases hx1 : x < 0
      · have hb := HC.out (by unfold cnB; simp; omega)
        have HR : Hid (rgtB e = false) := hb
        clear hb
        go_wp2
        go_ret
        exact ⟨by rw [HR.out]; rfl, bW⟩
      · by_cases hx2 : 1000 < x
        · have hb := HC.out (by unfold cnB; simp; omega)
          have HR : Hid (rgtB e = false) := hb
          clear hb
          go_wp2
          go_ret
          exact ⟨by rw [HR.out]; rfl, bW⟩
        · have hb : Hid (Qm.anyB (fun j => cnB 1000 (e.off j)) (k + 1) = false) := HN.out (by unfold cnB; simp; omega)
          go_wp2
          go_round
          case rel => exact ⟨k + 1, by omega, by go_num, hb⟩
          case measure => simp [intOf]; omega
    · have ek : k = 4 := by omega
      subst ek
      have H3 : Hid (Qm.anyB (fun j => cnB 1000 (e.off j)) 4 = false) := hno
      clear hno h6 hk
      go_wp2
      go_loopw [4] (fun i wr => ∃ k : Nat, k ≤ 3 ∧ i = .int .i64 k ∧ Hid (Qm.anyB (axB e) k = false) ∧ Below V.heap.size V wr) (fun i _ => 3 - (intOf i).toNat)
      case atStart => exact ⟨0, Nat.zero_le _, rfl, rfl, Below.refl _ _⟩
      case round =>
        obtain ⟨k, hk, rfl, hno, hb⟩ := hrel
        have hw := HW.out.below hb
        have bwr := bt bW hb
        by_cases h3k : k = 3
        · subst h3k
          have HR : Hid (rgtB e = !Qt.Qm.anyB (fun k => ob (e.tu k)) 4) := rgt_eq H12.out.1 H12.out.2 H3.out hno.out
          have d0 : wr.cell? ⟨w.heap.size, 0, none⟩ = some (.int .i64 (e.tu 0)) := hw.cell (by decide) rfl
          have d1 : wr.cell? ⟨w.heap.size, 1, none⟩ = some (.int .i64 (e.tu 1)) := hw.cell (by decide) rfl
          have d2 : wr.cell? ⟨w.heap.size, 2, none⟩ = some (.int .i64 (e.tu 2)) := hw.cell (by decide) rfl
          have d3 : wr.cell? ⟨w.heap.size, 3, none⟩ = some (.int .i64 (e.tu 3)) := hw.cell (by decide) rfl
          have hq := Qt.rright_any e.tu wr
          obtain ⟨A, hA⟩ : ∃ A, Qt.Qm.anyB (fun k => ob (e.tu k)) 4 = A := ⟨_, rfl⟩
          rw [hA] at hq HR
          clear hA hw
          go_wp2_with (go_at_call 27; go_must (refine hq.mono ?_); rintro z w1 ⟨rfl, b1⟩)
          go_ret
          exact ⟨by rw [HR.out]; rfl, bt bwr b1⟩
        rcases (by omega : k = 0 ∨ k = 1 ∨ k = 2) with rfl | rfl | rfl
        · have hsee := (HS.out.below hb) 0 (by decide)
          have d0 : wr.cell? ⟨w.heap.size, 4, none⟩ = some (.int .i64 (e.r 0)) := hw.cell (by decide) rfl
          have d1 : wr.cell? ⟨w.heap.size, 5, none⟩ = some (.int .i64 (e.c 0)) := hw.cell (by decide) rfl
          have d2 : wr.cell? ⟨w.heap.size, 6, none⟩ = some (vx 0) := hw.cell (by decide) rfl
          have d3 : wr.cell? ⟨w.heap.size, 7, none⟩ = some (.int .i64 (e.r' 0)) := hw.cell (by decide) rfl
          have d4 : wr.cell? ⟨w.heap.size, 8, none⟩ = some (.int .i64 (e.c' 0)) := hw.cell (by decide) rfl
          have d5 : wr.cell? ⟨w.heap.size, 9, none⟩ = some (vp 0) := hw.cell (by decide) rfl
          have hR := rright5_any (e.r 0) (e.c 0) (e.r' 0) (e.c' 0) (vx 0) (vp 0) (e.X 0) (e.P 0) wr hsee.1 hsee.2
          have HA : Hid (axB e 0 = (!trkB (e.r 0) (e.c 0) (e.X 0) (e.r' 0) (e.c' 0) (e.P 0) || !decide (e.r 0 = 3))) := rfl
          have HC : Hid (axB e 0 = true → rgtB e = false) := fun h => rgt_ax (by decide) h
          have HN : Hid (axB e 0 = false → Qm.anyB (axB e) (0 + 1) = false) := fun h => by rw [Qm.anyB, hno.out, h]; rfl
          obtain ⟨vxi, hvx⟩ : ∃ v, vx 0 = v := ⟨_, rfl⟩
          obtain ⟨vpi, hvp⟩ : ∃ v, vp 0 = v := ⟨_, rfl⟩
          obtain ⟨so, sc, e1⟩ := hsee.1.slice
          obtain ⟨to', tc, e2⟩ := hsee.2.slice
          rw [hvx] at d2 hR e1
          rw [hvp] at d5 hR e2
          subst e1
          subst e2
          cases hT : trkB (e.r 0) (e.c 0) (e.X 0) (e.r' 0) (e.c' 0) (e.P 0) with
          | false =>
            have hb' : Hid (rgtB e = false) := HC.out (by rw [HA.out, hT]; rfl)
            rw [hT] at hR
            clear hw hsee hT hvx hvp
            go_wp2_with (go_at_call 29; go_must (refine hR.mono ?_); rintro z w1 ⟨rfl, b1⟩)
            go_ret
            exact ⟨by rw [hb'.out]; rfl, bt bwr b1⟩
          | true =>
            rw [hT] at hR
            by_cases h3 : e.r 0 = 3
            · have hn : Hid (Qm.anyB (axB e) (0 + 1) = false) := HN.out (by rw [HA.out, hT, h3]; rfl)
              rw [h3] at d0 hR
              clear hw hsee hT hvx hvp h3 HA HC HN
              go_wp2_with (go_at_call 29; go_must (refine hR.mono ?_); rintro z w1 ⟨rfl, b1⟩; have d0' := (b1.cell (p := ⟨w.heap.size, 4, none⟩) (show w.heap.size < wr.heap.size by have := hb.size; omega)).trans d0)
              go_roundw
              case rel => exact ⟨0 + 1, by decide, by go_num, hn, bt hb b1⟩
              case measure => simp [intOf]
            · have hb' : Hid (rgtB e = false) := HC.out (by rw [HA.out, hT]; simp [h3])
              obtain ⟨ri, hri⟩ : ∃ r, e.r 0 = r := ⟨_, rfl⟩
              rw [hri] at d0 hR h3
              clear hw hsee hT hvx hvp HA HC HN hri
              go_wp2_with (go_at_call 29; go_must (refine hR.mono ?_); rintro z w1 ⟨rfl, b1⟩; have d0' := (b1.cell (p := ⟨w.heap.size, 4, none⟩) (show w.heap.size < wr.heap.size by have := hb.size; omega)).trans d0)
              go_ret
              exact ⟨by rw [hb'.out]; rfl, bt bwr b1⟩
        · have hsee := (HS.out.below hb) 1 (by decide)
          have d0 : wr.cell? ⟨w.heap.size, 10, none⟩ = some (.int .i64 (e.r 1)) := hw.cell (by decide) rfl
          have d1 : wr.cell? ⟨w.heap.size, 11, none⟩ = some (.int .i64 (e.c 1)) := hw.cell (by decide) rfl
          have d2 : wr.cell? ⟨w.heap.size, 12, none⟩ = some (vx 1) := hw.cell (by decide) rfl
          have d3 : wr.cell? ⟨w.heap.size, 13, none⟩ = some (.int .i64 (e.r' 1)) := hw.cell (by decide) rfl
          have d4 : wr.cell? ⟨w.heap.size, 14, none⟩ = some (.int .i64 (e.c' 1)) := hw.cell (by decide) rfl
          have d5 : wr.cell? ⟨w.heap.size, 15, none⟩ = some (vp 1) := hw.cell (by decide) rfl
          have hR := rright5_any (e.r 1) (e.c 1) (e.r' 1) (e.c' 1) (vx 1) (vp 1) (e.X 1) (e.P 1) wr hsee.1 hsee.2
          have HA : Hid (axB e 1 = (!trkB (e.r 1) (e.c 1) (e.X 1) (e.r' 1) (e.c' 1) (e.P 1) || !decide (e.r 1 = 3))) := rfl
          have HC : Hid (axB e 1 = true → rgtB e = false) := fun h => rgt_ax (by decide) h
          have HN : Hid (axB e 1 = false → Qm.anyB (axB e) (1 + 1) = false) := fun h => by rw [Qm.anyB, hno.out, h]; rfl
          obtain ⟨vxi, hvx⟩ : ∃ v, vx 1 = v := ⟨_, rfl⟩
          obtain ⟨vpi, hvp⟩ : ∃ v, vp 1 = v := ⟨_, rfl⟩
          obtain ⟨so, sc, e1⟩ := hsee.1.slice
          obtain ⟨to', tc, e2⟩ := hsee.2.slice
          rw [hvx] at d2 hR e1
          rw [hvp] at d5 hR e2
          subst e1
          subst e2
          cases hT : trkB (e.r 1) (e.c 1) (e.X 1) (e.r' 1) (e.c' 1) (e.P 1) with
          | false =>
            have hb' : Hid (rgtB e = false) := HC.out (by rw [HA.out, hT]; rfl)
            rw [hT] at hR
            clear hw hsee hT hvx hvp
            go_wp2_with (go_at_call 29; go_must (refine hR.mono ?_); rintro z w1 ⟨rfl, b1⟩)
            go_ret
            exact ⟨by rw [hb'.out]; rfl, bt bwr b1⟩
          | true =>
            rw [hT] at hR
            by_cases h3 : e.r 1 = 3
            · have hn : Hid (Qm.anyB (axB e) (1 + 1) = false) := HN.out (by rw [HA.out, hT, h3]; rfl)
              rw [h3] at d0 hR
              clear hw hsee hT hvx hvp h3 HA HC HN
              go_wp2_with (go_at_call 29; go_must (refine hR.mono ?_); rintro z w1 ⟨rfl, b1⟩; have d0' := (b1.cell (p := ⟨w.heap.size, 10, none⟩) (show w.heap.size < wr.heap.size by have := hb.size; omega)).trans d0)
              go_roundw
              case rel => exact ⟨1 + 1, by decide, by go_num, hn, bt hb b1⟩
              case measure => simp [intOf]
            · have hb' : Hid (rgtB e = false) := HC.out (by rw [HA.out, hT]; simp [h3])
              obtain ⟨ri, hri⟩ : ∃ r, e.r 1 = r := ⟨_, rfl⟩
              rw [hri] at d0 hR h3
              clear hw hsee hT hvx hvp HA HC HN hri
              go_wp2_with (go_at_call 29; go_must (refine hR.mono ?_); rintro z w1 ⟨rfl, b1⟩; have d0' := (b1.cell (p := ⟨w.heap.size, 10, none⟩) (show w.heap.size < wr.heap.size by have := hb.size; omega)).trans d0)
              go_ret
              exact ⟨by rw [hb'.out]; rfl, bt bwr b1⟩
        · have hsee := (HS.out.below hb) 2 (by decide)
          have d0 : wr.cell? ⟨w.heap.size, 16, none⟩ = some (.int .i64 (e.r 2)) := hw.cell (by decide) rfl
          have d1 : wr.cell? ⟨w.heap.size, 17, none⟩ = some (.int .i64 (e.c 2)) := hw.cell (by decide) rfl
          have d2 : wr.cell? ⟨w.heap.size, 18, none⟩ = some (vx 2) := hw.cell (by decide) rfl
          have d3 : wr.cell? ⟨w.heap.size, 19, none⟩ = some (.int .i64 (e.r' 2)) := hw.cell (by decide) rfl
          have d4 : wr.cell? ⟨w.heap.size, 20, none⟩ = some (.int .i64 (e.c' 2)) := hw.cell (by decide) rfl
          have d5 : wr.cell? ⟨w.heap.size, 21, none⟩ = some (vp 2) := hw.cell (by decide) rfl
          have hR := rright5_any (e.r 2) (e.c 2) (e.r' 2) (e.c' 2) (vx 2) (vp 2) (e.X 2) (e.P 2) wr hsee.1 hsee.2
          have HA : Hid (axB e 2 = (!trkB (e.r 2) (e.c 2) (e.X 2) (e.r' 2) (e.c' 2) (e.P 2) || !decide (e.r 2 = 3))) := rfl
          have HC : Hid (axB e 2 = true → rgtB e = false) := fun h => rgt_ax (by decide) h
          have HN : Hid (axB e 2 = false → Qm.anyB (axB e) (2 + 1) = false) := fun h => by rw [Qm.anyB, hno.out, h]; rfl
          obtain ⟨vxi, hvx⟩ : ∃ v, vx 2 = v := ⟨_, rfl⟩
          obtain ⟨vpi, hvp⟩ : ∃ v, vp 2 = v := ⟨_, rfl⟩
          obtain ⟨so, sc, e1⟩ := hsee.1.slice
          obtain ⟨to', tc, e2⟩ := hsee.2.slice
          rw [hvx] at d2 hR e1
          rw [hvp] at d5 hR e2
          subst e1
          subst e2
          cases hT : trkB (e.r 2) (e.c 2) (e.X 2) (e.r' 2) (e.c' 2) (e.P 2) with
          | false =>
            have hb' : Hid (rgtB e = false) := HC.out (by rw [HA.out, hT]; rfl)
            rw [hT] at hR
            clear hw hsee hT hvx hvp
            go_wp2_with (go_at_call 29; go_must (refine hR.mono ?_); rintro z w1 ⟨rfl, b1⟩)
            go_ret
            exact ⟨by rw [hb'.out]; rfl, bt bwr b1⟩
          | true =>
            rw [hT] at hR
            by_cases h3 : e.r 2 = 3
            · have hn : Hid (Qm.anyB (axB e) (2 + 1) = false) := HN.out (by rw [HA.out, hT, h3]; rfl)
              rw [h3] at d0 hR
              clear hw hsee hT hvx hvp h3 HA HC HN
              go_wp2_with (go_at_call 29; go_must (refine hR.mono ?_); rintro z w1 ⟨rfl, b1⟩; have d0' := (b1.cell (p := ⟨w.heap.size, 16, none⟩) (show w.heap.size < wr.heap.size by have := hb.size; omega)).trans d0)
              go_roundw
              case rel => exact ⟨2 + 1, by decide, by go_num, hn, bt hb b1⟩
              case measure => simp [intOf]
            · have hb' : Hid (rgtB e = false) := HC.out (by rw [HA.out, hT]; simp [h3])
              obtain ⟨ri, hri⟩ : ∃ r, e.r 2 = r := ⟨_, rfl⟩
              rw [hri] at d0 hR h3
              clear hw hsee hT hvx hvp HA HC HN hri
              go_wp2_with (go_at_call 29; go_must (refine hR.mono ?_); rintro z w1 ⟨rfl, b1⟩; have d0' := (b1.cell (p := ⟨w.heap.size, 16, none⟩) (show w.heap.size < wr.heap.size by have := hb.size; omega)).trans d0)
              go_ret
              exact ⟨by rw [hb'.out]; rfl, bt bwr b1⟩
set_option linter.unusedVariables false
section
variable {a : Act} {w : World} {K : Act → World → Prop} {Q : Exit → Act → World → Prop} {o : Oper}
theorem op_buildR {t : TypeId} {parts : Array (Nat × Operand)} {r : Value} (hop : o.op = Op.build t parts) (hr : Sem.run Tryz.prog (Instr.build t (parts.map fun (i, x) => (i, a.eval x))) w = .ok r w) (hk : K (a.put o.dst r) w) : o.wp Tryz.prog a w K Q := by
  unfold Oper.wp execOp
  simp only [hop, Sem.run_bind, hr, Result.andThen_ok, Sem.run_pure]
  exact hk
theorem run_alloc_est (w : World) : Sem.run Tryz.prog (Instr.alloc 35 true (.tuple #[])) w = .ok (.pointer (some ⟨w.heap.size, 0, none⟩)) (w.alloc (.cells #[.int .i64 0, .int .i64 0, .int .i64 0, .int .i64 0, .int .i64 0, .int .i64 0, .slice none 0 0, .int .i64 0, .int .i64 0, .slice none 0 0, .int .i64 0, .int .i64 0, .slice none 0 0, .int .i64 0, .int .i64 0, .slice none 0 0, .int .i64 0, .int .i64 0, .slice none 0 0, .int .i64 0, .int .i64 0, .slice none 0 0, .int .i64 0, .int .i64 0, .int .i64 0, .int .i64 0, .int .i64 0, .int .i64 0, .bool false] 35)) := by kernel_rfl
theorem op_alloc_est (hop : o.op = Op.alloc 35) (hk : K (a.put o.dst (.pointer (some ⟨w.heap.size, 0, none⟩))) (w.alloc (.cells #[.int .i64 0, .int .i64 0, .int .i64 0, .int .i64 0, .int .i64 0, .int .i64 0, .slice none 0 0, .int .i64 0, .int .i64 0, .slice none 0 0, .int .i64 0, .int .i64 0, .slice none 0 0, .int .i64 0, .int .i64 0, .slice none 0 0, .int .i64 0, .int .i64 0, .slice none 0 0, .int .i64 0, .int .i64 0, .slice none 0 0, .int .i64 0, .int .i64 0, .int .i64 0, .int .i64 0, .int .i64 0, .int .i64 0, .bool false] 35))) : o.wp Tryz.prog a w K Q := by
  unfold Oper.wp execOp
  simp only [hop, Sem.run_bind, run_alloc_est, Result.andThen_ok, Sem.run_pure]
  exact hk
theorem op_storeNew {t : TypeId} {p f : Nat} {c : Array Value} {cs : Array Value} (hd : o.dst = none) (hop : o.op = Op.store t (Operand.tmp p) (Operand.tmp f)) (hp : a.tmps[p]?.getD undef = .pointer (some ⟨w.heap.size, 0, none⟩)) (hf : a.tmps[f]?.getD undef = .agg cs) (hi : (Tryz.prog.info? t).map (·.size) = some cs.size) (hs : c.size = cs.size) (h1 : cs.all (·.oneCell') = true)
    (hk : K a (w.alloc (.cells cs t))) : o.wp Tryz.prog a (w.alloc (.cells c t)) K Q := by
  have e0 : a.eval (Operand.tmp p) = .pointer (some ⟨w.heap.size, 0, none⟩) := by simp [go_sem, hp]
  have e1 : a.eval (Operand.tmp f) = .agg cs := by simp [go_sem, hf]
  have hr := run_storeAt_new (P := Tryz.prog) w t c cs hi hs h1
  unfold Oper.wp execOp
  simp only [hop, e0, e1, Sem.run_bind, hr, Result.andThen_ok, Sem.run_pure]
  simpa [Oper.upon, hd, Act.put] using hk
end
set_option maxRecDepth 40000 in
set_option maxHeartbeats 4000000 in
theorem in3_seq {Q : Exit → Act → World → Prop} {w : World}  {u0 u1 u2 u3 u4 u5 u6 u7 u8 u9 u10 u11 u12 u13 u14 u15 u16 u17 u18 u19 u20 u21 u22 u23 u24 u25 : Value} 
    (hQ : Q .normal ⟨#[u0, u1, u2, u3, .pointer (some ⟨w.heap.size, 0, none⟩), u5, u6, u7, u8, u9, .agg #[.int .i64 16777216, .int .i64 0, .int .i64 0, .int .i64 0], .agg #[.int .i64 16777216, .int .i64 0, .int .i64 0, .int .i64 0, .int .i64 0, .int .i64 0, .slice none 0 0, .int .i64 0, .int .i64 0, .slice none 0 0, .int .i64 0, .int .i64 0, .slice none 0 0, .int .i64 0, .int .i64 0, .slice none 0 0, .int .i64 0, .int .i64 0, .slice none 0 0, .int .i64 0, .int .i64 0, .slice none 0 0, .int .i64 0, .int .i64 0, .int .i64 0, .int .i64 0, .int .i64 0, .int .i64 0, .bool false], u12, u13, u14, u15, u16, u17, u18, u19, u20, u21, u22, u23, u24, u25], []⟩ (w.alloc (.cells #[.int .i64 16777216, .int .i64 0, .int .i64 0, .int .i64 0, .int .i64 0, .int .i64 0, .slice none 0 0, .int .i64 0, .int .i64 0, .slice none 0 0, .int .i64 0, .int .i64 0, .slice none 0 0, .int .i64 0, .int .i64 0, .slice none 0 0, .int .i64 0, .int .i64 0, .slice none 0 0, .int .i64 0, .int .i64 0, .slice none 0 0, .int .i64 0, .int .i64 0, .int .i64 0, .int .i64 0, .int .i64 0, .int .i64 0, .bool false] 35))) : (Code.region 3 #[
 ⟨some 10, .build 26 #[(0, .const (.int .i64 16777216))], 26, "est.go:43", #[], none⟩,
 ⟨some 11, .build 35 #[(0, .tmp 10)], 35, "est.go:43", #[eD 0], none⟩,
 ⟨some 4, .alloc 35, 0, "est.go:43", #[], none⟩,
 ⟨none, .store 35 (.tmp 4) (.tmp 11), 0, "est.go:43", #[eD 2, eD 1, eP 0, eP 1, eP 2], none⟩] false).wp Tryz.prog Q ⟨#[u0, u1, u2, u3, u4, u5, u6, u7, u8, u9, u10, u11, u12, u13, u14, u15, u16, u17, u18, u19, u20, u21, u22, u23, u24, u25], []⟩ w := by
  refine wp_region_list ?_
  refine wpList_plain rfl fun _ hK => op_buildR (r := .agg #[.int .i64 16777216, .int .i64 0, .int .i64 0, .int .i64 0]) rfl (by kernel_rfl) (hK _ _ ?_)
  change wpList Tryz.prog _ _ _ ⟨#[u0, u1, u2, u3, u4, u5, u6, u7, u8, u9, .agg #[.int .i64 16777216, .int .i64 0, .int .i64 0, .int .i64 0], u11, u12, u13, u14, u15, u16, u17, u18, u19, u20, u21, u22, u23, u24, u25], []⟩ _
  refine wpList_plain rfl fun _ hK => op_buildR (r := .agg #[.int .i64 16777216, .int .i64 0, .int .i64 0, .int .i64 0, .int .i64 0, .int .i64 0, .slice none 0 0, .int .i64 0, .int .i64 0, .slice none 0 0, .int .i64 0, .int .i64 0, .slice none 0 0, .int .i64 0, .int .i64 0, .slice none 0 0, .int .i64 0, .int .i64 0, .slice none 0 0, .int .i64 0, .int .i64 0, .slice none 0 0, .int .i64 0, .int .i64 0, .int .i64 0, .int .i64 0, .int .i64 0, .int .i64 0, .bool false]) rfl (by kernel_rfl) (hK _ _ ?_)
  change wpList Tryz.prog _ _ _ ⟨#[u0, u1, u2, u3, u4, u5, u6, u7, u8, u9, .agg #[.int .i64 16777216, .int .i64 0, .int .i64 0, .int .i64 0], .agg #[.int .i64 16777216, .int .i64 0, .int .i64 0, .int .i64 0, .int .i64 0, .int .i64 0, .slice none 0 0, .int .i64 0, .int .i64 0, .slice none 0 0, .int .i64 0, .int .i64 0, .slice none 0 0, .int .i64 0, .int .i64 0, .slice none 0 0, .int .i64 0, .int .i64 0, .slice none 0 0, .int .i64 0, .int .i64 0, .slice none 0 0, .int .i64 0, .int .i64 0, .int .i64 0, .int .i64 0, .int .i64 0, .int .i64 0, .bool false], u12, u13, u14, u15, u16, u17, u18, u19, u20, u21, u22, u23, u24, u25], []⟩ _
  refine wpList_plain rfl fun _ hK => op_alloc_est rfl (hK _ _ ?_)
  change wpList Tryz.prog _ _ _ ⟨#[u0, u1, u2, u3, .pointer (some ⟨w.heap.size, 0, none⟩), u5, u6, u7, u8, u9, .agg #[.int .i64 16777216, .int .i64 0, .int .i64 0, .int .i64 0], .agg #[.int .i64 16777216, .int .i64 0, .int .i64 0, .int .i64 0, .int .i64 0, .int .i64 0, .slice none 0 0, .int .i64 0, .int .i64 0, .slice none 0 0, .int .i64 0, .int .i64 0, .slice none 0 0, .int .i64 0, .int .i64 0, .slice none 0 0, .int .i64 0, .int .i64 0, .slice none 0 0, .int .i64 0, .int .i64 0, .slice none 0 0, .int .i64 0, .int .i64 0, .int .i64 0, .int .i64 0, .int .i64 0, .int .i64 0, .bool false], u12, u13, u14, u15, u16, u17, u18, u19, u20, u21, u22, u23, u24, u25], []⟩ _
  refine wpList_plain rfl fun _ hK => op_storeNew rfl rfl rfl rfl (by kernel_rfl) rfl (by kernel_rfl) (hK _ _ ?_)
  exact hQ
set_option maxRecDepth 40000 in
set_option maxHeartbeats 4000000 in
theorem in9_seq {Q : Exit → Act → World → Prop} {w : World} {D2 : Nat} {D4 : Nat} {tu : Nat → Int} {r : Nat → Int} {c : Nat → Int} {r' : Nat → Int} {c' : Nat → Int} {xo : Nat → Option Addr} {xn : Nat → Nat} {xc : Nat → Nat} {po : Nat → Option Addr} {pn : Nat → Nat} {pc : Nat → Nat} {st : Int} {co : Int} {off : Nat → Int} {sat : Bool} {u0 u1 u3 u5 u6 u7 u8 u9 u10 u11 u12 u13 u14 u15 u16 u17 u18 u19 u20 u21 u22 u23 u24 u25 : Value} (ht : w.there D2 0 29) (hr : ∀ j v, ([.int .i64 (tu 0), .int .i64 (tu 1), .int .i64 (tu 2), .int .i64 (tu 3), .int .i64 (r 0), .int .i64 (c 0), .slice (xo 0) (xn 0) (xc 0), .int .i64 (r' 0), .int .i64 (c' 0), .slice (po 0) (pn 0) (pc 0), .int .i64 (r 1), .int .i64 (c 1), .slice (xo 1) (xn 1) (xc 1), .int .i64 (r' 1), .int .i64 (c' 1), .slice (po 1) (pn 1) (pc 1), .int .i64 (r 2), .int .i64 (c 2), .slice (xo 2) (xn 2) (xc 2), .int .i64 (r' 2), .int .i64 (c' 2), .slice (po 2) (pn 2) (pc 2), .int .i64 st, .int .i64 co, .int .i64 (off 0), .int .i64 (off 1), .int .i64 (off 2), .int .i64 (off 3), .bool sat] : List Value)[j]? = some v → w.cell? ⟨D4, 0 + j, none⟩ = some v)
    (hQ : Q .normal ⟨#[u0, u1, .pointer (some ⟨D2, 0, none⟩), .int .i64 0, .pointer (some ⟨D4, 0, none⟩), u5, u6, u7, u8, u9, u10, u11, u12, u13, u14, u15, u16, u17, u18, u19, u20, u21, u22, u23, u24, .agg #[.int .i64 (tu 0), .int .i64 (tu 1), .int .i64 (tu 2), .int .i64 (tu 3), .int .i64 (r 0), .int .i64 (c 0), .slice (xo 0) (xn 0) (xc 0), .int .i64 (r' 0), .int .i64 (c' 0), .slice (po 0) (pn 0) (pc 0), .int .i64 (r 1), .int .i64 (c 1), .slice (xo 1) (xn 1) (xc 1), .int .i64 (r' 1), .int .i64 (c' 1), .slice (po 1) (pn 1) (pc 1), .int .i64 (r 2), .int .i64 (c 2), .slice (xo 2) (xn 2) (xc 2), .int .i64 (r' 2), .int .i64 (c' 2), .slice (po 2) (pn 2) (pc 2), .int .i64 st, .int .i64 co, .int .i64 (off 0), .int .i64 (off 1), .int .i64 (off 2), .int .i64 (off 3), .bool sat]], []⟩ (w.setCells D2 0 [.int .i64 (tu 0), .int .i64 (tu 1), .int .i64 (tu 2), .int .i64 (tu 3), .int .i64 (r 0), .int .i64 (c 0), .slice (xo 0) (xn 0) (xc 0), .int .i64 (r' 0), .int .i64 (c' 0), .slice (po 0) (pn 0) (pc 0), .int .i64 (r 1), .int .i64 (c 1), .slice (xo 1) (xn 1) (xc 1), .int .i64 (r' 1), .int .i64 (c' 1), .slice (po 1) (pn 1) (pc 1), .int .i64 (r 2), .int .i64 (c 2), .slice (xo 2) (xn 2) (xc 2), .int .i64 (r' 2), .int .i64 (c' 2), .slice (po 2) (pn 2) (pc 2), .int .i64 st, .int .i64 co, .int .i64 (off 0), .int .i64 (off 1), .int .i64 (off 2), .int .i64 (off 3), .bool sat])) : (Code.region 9 #[
 ⟨some 25, .load 35 (.tmp 4), 35, "est.go:48", #[], none⟩,
 ⟨none, .store 35 (.tmp 2) (.tmp 25), 0, "est.go:48", #[eD 0, eP 0], none⟩,
 ⟨some 3, .assign (.const (.int .i64 0)), 47, "est.go:48", #[eC 1, eP 0, eP 1], none⟩] false).wp Tryz.prog Q ⟨#[u0, u1, .pointer (some ⟨D2, 0, none⟩), u3, .pointer (some ⟨D4, 0, none⟩), u5, u6, u7, u8, u9, u10, u11, u12, u13, u14, u15, u16, u17, u18, u19, u20, u21, u22, u23, u24, u25], []⟩ w := by
  refine wp_region_list ?_
  refine wpList_plain rfl fun _ hK => op_ldN (cs := [.int .i64 (tu 0), .int .i64 (tu 1), .int .i64 (tu 2), .int .i64 (tu 3), .int .i64 (r 0), .int .i64 (c 0), .slice (xo 0) (xn 0) (xc 0), .int .i64 (r' 0), .int .i64 (c' 0), .slice (po 0) (pn 0) (pc 0), .int .i64 (r 1), .int .i64 (c 1), .slice (xo 1) (xn 1) (xc 1), .int .i64 (r' 1), .int .i64 (c' 1), .slice (po 1) (pn 1) (pc 1), .int .i64 (r 2), .int .i64 (c 2), .slice (xo 2) (xn 2) (xc 2), .int .i64 (r' 2), .int .i64 (c' 2), .slice (po 2) (pn 2) (pc 2), .int .i64 st, .int .i64 co, .int .i64 (off 0), .int .i64 (off 1), .int .i64 (off 2), .int .i64 (off 3), .bool sat]) rfl rfl (ag_Est _) (sz_Est _) hr (hK _ _ ?_)
  change wpList Tryz.prog _ _ _ ⟨#[u0, u1, .pointer (some ⟨D2, 0, none⟩), u3, .pointer (some ⟨D4, 0, none⟩), u5, u6, u7, u8, u9, u10, u11, u12, u13, u14, u15, u16, u17, u18, u19, u20, u21, u22, u23, u24, .agg #[.int .i64 (tu 0), .int .i64 (tu 1), .int .i64 (tu 2), .int .i64 (tu 3), .int .i64 (r 0), .int .i64 (c 0), .slice (xo 0) (xn 0) (xc 0), .int .i64 (r' 0), .int .i64 (c' 0), .slice (po 0) (pn 0) (pc 0), .int .i64 (r 1), .int .i64 (c 1), .slice (xo 1) (xn 1) (xc 1), .int .i64 (r' 1), .int .i64 (c' 1), .slice (po 1) (pn 1) (pc 1), .int .i64 (r 2), .int .i64 (c 2), .slice (xo 2) (xn 2) (xc 2), .int .i64 (r' 2), .int .i64 (c' 2), .slice (po 2) (pn 2) (pc 2), .int .i64 st, .int .i64 co, .int .i64 (off 0), .int .i64 (off 1), .int .i64 (off 2), .int .i64 (off 3), .bool sat]], []⟩ _
  refine wpList_plain rfl fun _ hK => op_stN rfl rfl rfl rfl ht (by kernel_rfl) (by kernel_rfl) (hK _ _ ?_)
  change wpList Tryz.prog _ _ _ ⟨#[u0, u1, .pointer (some ⟨D2, 0, none⟩), u3, .pointer (some ⟨D4, 0, none⟩), u5, u6, u7, u8, u9, u10, u11, u12, u13, u14, u15, u16, u17, u18, u19, u20, u21, u22, u23, u24, .agg #[.int .i64 (tu 0), .int .i64 (tu 1), .int .i64 (tu 2), .int .i64 (tu 3), .int .i64 (r 0), .int .i64 (c 0), .slice (xo 0) (xn 0) (xc 0), .int .i64 (r' 0), .int .i64 (c' 0), .slice (po 0) (pn 0) (pc 0), .int .i64 (r 1), .int .i64 (c 1), .slice (xo 1) (xn 1) (xc 1), .int .i64 (r' 1), .int .i64 (c' 1), .slice (po 1) (pn 1) (pc 1), .int .i64 (r 2), .int .i64 (c 2), .slice (xo 2) (xn 2) (xc 2), .int .i64 (r' 2), .int .i64 (c' 2), .slice (po 2) (pn 2) (pc 2), .int .i64 st, .int .i64 co, .int .i64 (off 0), .int .i64 (off 1), .int .i64 (off 2), .int .i64 (off 3), .bool sat]], []⟩ _
  refine wpList_plain rfl fun _ hK => op_const rfl (hK _ _ ?_)
  exact hQ
end Go.Proofs.YtoefekkdjcflmaaGreatDoor.Et

