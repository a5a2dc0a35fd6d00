/- Parts of the proof. -/
import Derived.Test.YtoefekkdjcflmaaGreatDoorM45
import Derived.Test.YtoefekkdjcflmaaGreatDoorM47
namespace Go.Proofs.YtoefekkdjcflmaaGreatDoor.Et
open Go.RowKit Go.Sort Go.Proofs.YtoefekkdjcflmaaGreatDoor.Qm
open Go.Proofs.YtoefekkdjcflmaaGreatDoor.Qt (Less)
def cS (k : Nat) : Int := [2097152, 16777216, 262144, 16777216, 16777216, 268435456].getD k 0
def smM : Sm := ⟨true, false, false, fun _ => 0, fun _ => 0, fun _ => 0, 0⟩
theorem conf_any (w : World) : Calls Tryz.prog 28 #[] w fun e b => e = .returned (.agg (cfV cS)) ∧ Below w.heap.size w b := by
  go_enter Tryz.func28, Tryz.ntmps28
  go_wp2
  refine bodyPost_ret (v := .agg (cfV cS)) (by simp [results, Tryz.results28, go_sem]; rfl) rfl ?_
  exact ⟨rfl, (Below.refl _ _).alloc (Nat.le_refl _) _⟩
theorem may_S : mayB cS = true := by kernel_rfl
theorem shown_st : (stp cS iniE smM).st = 1 := by kernel_rfl
theorem shown_co : (stp cS iniE smM).co = 1 := by kernel_rfl
theorem shown_sat : (stp cS iniE smM).sat = false := by kernel_rfl
theorem shown_rgt : rgtB (stp cS iniE smM) = true := by kernel_rfl
theorem ini_rgt : rgtB iniE = true := by kernel_rfl
theorem shown_y : plc (stp cS iniE smM) 0 = 0 ∧ plc (stp cS iniE smM) 1 = 0 ∧ plc (stp cS iniE smM) 2 = 0 := ⟨by kernel_rfl, by kernel_rfl, by kernel_rfl⟩
theorem wdL_len {e : Es} (hr : rgtB e = true) : (wdL e).length = 38 := by
  have h0 := (rgt_axes hr 0 (by decide)).2.2.2.2.2.1
  have h1 := (rgt_axes hr 1 (by decide)).2.2.2.2.2.1
  have h2 := (rgt_axes hr 2 (by decide)).2.2.2.2.2.1
  simp [wdL, wdS, trW, rowW_len, h0, h1, h2]
set_option maxRecDepth 40000 in
set_option maxHeartbeats 8000000 in
theorem shown6 (w : World) (hG : Less w) : Calls Tryz.prog 11 #[] w fun e b => e = .returned (.bool true) ∧ Below w.heap.size w b := by
  go_enter Tryz.func11, Tryz.ntmps11
  go_upto_region 1 with fail
  refine sh1_seq (c := cS) (E := iniE) (conf_any w) (fun b _ => (init_yes cS b may_S).mono fun z b' ⟨vx, vp, h1, h2, _, h4⟩ => ⟨vx, vp, h1, h2, h4⟩) ?_
  intro vx vp b b1 hs
  have g1 := heap_new b (.cells (iniE.cells vx vp) 35)
  have bX := box_below b (.cells (iniE.cells vx vp) 35)
  have hs1 := hs.below bX
  have bV := bt b1 bX
  generalize b.alloc (.cells (iniE.cells vx vp) 35) = V at g1 hs1 bV bX ⊢
  have hR := right_any iniE vx vp V hs1
  rw [ini_rgt] at hR
  go_upto_region 2 with fail
  refine sh2_seq (D := b.heap.size) (cs := iniE.cells vx vp) (cell_of g1) rfl hR ?_
  intro b2 bb2
  have g2 := keep bb2 g1
  have hs2 := hs1.below bb2
  have bV2 := bt bV bb2
  have hG2 := hG.below bV2
  clear hR g1 hs hs1 b1 bX bV bb2
  go_upto_region 4 with fail
  refine sh4_region (D1 := b.heap.size) (c := cS) (E := iniE) (vx := vx) (vp := vp) (E' := stp cS iniE smM) (y0 := plc (stp cS iniE smM) 0) (y1 := plc (stp cS iniE smM) 1) (y2 := plc (stp cS iniE smM) 2)
    (fun w _ => conf_any w) (fun w hw => cell_of (keep (hw.below (Nat.le_refl _) (fun _ h => h.elim)) g2)) (fun w hw => step_E cS iniE smM vx vp w b2 may_S ini_rgt hs2 hw.size (hs2.below (hw.below (Nat.le_refl _) (fun _ h => h.elim))) (hG2.below (hw.below (Nat.le_refl _) (fun _ h => h.elim))))
    (fun i hi => ⟨by rw [(rgt_axes shown_rgt i hi).2.2.2.2.2.1]; decide, by rw [(rgt_axes shown_rgt i hi).2.2.2.2.2.2]; decide⟩) ?_
  intro vs D vx' vp' D' w4 m4 e1 g4 s4 e2 h4
  have b4 : Below b2.heap.size b2 w4 := m4.below (Nat.le_refl _) (fun _ h => h.elim)
  have bV4 := bt bV2 b4
  unfold sh4Fr
  rw [e1, e2]
  clear e1 e2 m4 hs2 g2 hG hG2 b4 bV2
  rw [shown_y.1, shown_y.2.1, shown_y.2.2] at h4
  have hwk := Es.wk g4
  have e22 : w4.cell? ⟨D, 22, none⟩ = some (.int .i64 (stp cS iniE smM).st) := hwk.cell (by decide) rfl
  have e23 : w4.cell? ⟨D, 23, none⟩ = some (.int .i64 (stp cS iniE smM).co) := hwk.cell (by decide) rfl
  have e28 : w4.cell? ⟨D, 28, none⟩ = some (.bool (stp cS iniE smM).sat) := hwk.cell (by decide) rfl
  rw [shown_st] at e22
  rw [shown_co] at e23
  rw [shown_sat] at e28
  obtain ⟨d0, d1, d2, _⟩ := mat_cells h4
  have hW := words_any (stp cS iniE smM) vx' vp' w4 shown_rgt s4
  go_upto_region 5 with fail
  refine sh5_seq (D := D) (D' := D') (cs := (stp cS iniE smM).cells vx' vp') (cell_of g4) rfl e22 e23 e28 d0 d1 d2 (hW.mono fun z b ⟨v, h1, h2, _, h4⟩ => by
    obtain ⟨ao, cap, rfl⟩ := h2.slice
    exact ⟨ao, cap, by rw [h1, wdL_len shown_rgt], h4⟩) ?_
  intro ao cap b5 hb5
  clear hW e22 e23 e28 d0 d1 d2 hwk g4 h4 s4
  go_wp2
  go_ret
  exact ⟨rfl, bt bV4 hb5⟩
end Go.Proofs.YtoefekkdjcflmaaGreatDoor.Et
namespace Go.Proofs.YtoefekkdjcflmaaGreatDoor.Et
open Go.RowKit Go.Sort Go.Proofs.YtoefekkdjcflmaaGreatDoor.Qm
set_option linter.unusedVariables false
theorem enters_rmay : ∀ (args : Array Value) (a : World), Sem.run Tryz.prog (callFunc 12 args) a = Result.ok (Next.enter 12 args) a := by
  intro args a; simp [callFunc, Tryz.func12, go_sem]; rfl
theorem enters_rright : ∀ (args : Array Value) (a : World), Sem.run Tryz.prog (callFunc 13 args) a = Result.ok (Next.enter 13 args) a := by
  intro args a; simp [callFunc, Tryz.func13, go_sem]; rfl
theorem enters_step2 : ∀ (args : Array Value) (a : World), Sem.run Tryz.prog (callFunc 14 args) a = Result.ok (Next.enter 14 args) a := by
  intro args a; simp [callFunc, Tryz.func14, go_sem]; rfl
set_option linter.unusedVariables false
theorem wpOp_skip {P : Program} {ops : Array Oper} {Q : Exit → Act → World → Prop} {i : Nat} {K : Act → World → Prop} {a : Act} {w : World} (o : Oper) (h : ops[i]? = some o) (j : Nat) (b : Bool) (hg : o.guard = some (j, b)) (d : Nat) (hd : (ops[j]?).bind (·.dst) = some d)
    (hv : a.tmps[d]? ≠ some (.bool b)) (hk : K (a.put o.dst undef) w) : wpOp P ops Q i K a w := by
  unfold wpOp
  rw [h]
  have : Region.wanted o (yielded ops a.tmps) = false := by
    simp only [Region.wanted, hg]
    simp [yielded, hd]
    revert hv
    cases a.tmps[d]? with
    | none => simp
    | some v => cases v <;> simp
  simp only [this]
  exact hk
section
variable {a : Act} {w : World} {K : Act → World → Prop} {Q : Exit → Act → World → Prop} {o : Oper}
end
def Len3 (s : Sg) : Prop := ∀ i, i < 3 → (s.X i).length = 3 ∧ (s.P i).length = 9
theorem pre_len (s : Sg) : Len3 (preS s) := fun i hi => by
  show (if i < 3 then aX (nsS s) i else s.X i).length = 3 ∧ (if i < 3 then aP (nsS s) i else s.P i).length = 9
  rw [if_pos hi, if_pos hi]
  exact ⟨aX_len _ _, aP_len _ _⟩
theorem upd_len {s : Sg} (h : Len3 s) (j k : Nat) (z r : Int) (hj : j < 3) : Len3 (updS s j k z r) := fun i hi => by
  show (at' s.X j (uX (s.X j) (s.P j) z r (s.c 5)) i).length = 3 ∧ (at' s.P j (uP (s.X j) (s.P j) z r (s.c 5)) i).length = 9
  unfold at'
  by_cases e : i = j
  · rw [if_pos e, if_pos e]
    exact ⟨uX_len (ps := s.P j) (h j hj).1 z r (s.c 5), uP_len (xs := s.X j) (h j hj).2 z r (s.c 5)⟩
  · rw [if_neg e, if_neg e]
    exact h i hi
theorem gn_len {s : Sg} (h : Len3 s) (n : Nat) (hn : n ≤ 3) : Len3 (gnS s n) := by
  induction n with
  | zero => exact h
  | succ n ih => rw [gnS_succ]; exact upd_len (ih (by omega)) n (1 + n) _ _ (by omega)
theorem ba_len {s : Sg} (h : Len3 s) : Len3 (baS s) := by
  unfold baS
  split
  · exact upd_len h 2 0 _ _ (by decide)
  · exact h
theorem hol_len {s : Sg} (h : Len3 s) : Len3 (holS s) := by
  unfold holS
  split
  · exact h
  · split
    · exact gn_len (ba_len h) 3 (Nat.le_refl _)
    · exact ba_len h
theorem stp_len (c : Nat → Int) (e : Es) (q : Sm) (i : Nat) (hi : i < 3) : ((stp c e q).X i).length = 3 ∧ ((stp c e q).P i).length = 9 := hol_len (pre_len (turS (begS 0 c e q))) i hi
theorem stp_pos (c : Nat → Int) (e : Es) (q : Sm) : ∀ i, i < 3 → 0 < ((stp c e q).X i).length ∧ 0 < ((stp c e q).P i).length := fun i hi => by
  have := stp_len c e q i hi
  omega
theorem upd_off_ne (s : Sg) (i k j : Nat) (z r : Int) (h : j ≠ k) : (updS s i k z r).off j = s.off j := by
  show at' s.off k (onE (s.off k) (!uT (s.X i) (s.P i) z r (s.c 5))) j = _
  unfold at'
  rw [if_neg h]
end Go.Proofs.YtoefekkdjcflmaaGreatDoor.Et
namespace Go.Proofs.YtoefekkdjcflmaaGreatDoor.Et
open Go.RowKit Go.Sort Go.Proofs.YtoefekkdjcflmaaGreatDoor.Qm
open Go.Proofs.YtoefekkdjcflmaaGreatDoor.Qt (Less)
theorem cf_cells {w : World} {D : Nat} {c : Nat → Int} {t : TypeId} (h : w.heap[D]? = some (.cells (cfV c) t (0, 0))) : w.cell? ⟨D, 0, none⟩ = some (.int .i64 (c 0)) ∧ w.cell? ⟨D, 1, none⟩ = some (.int .i64 (c 1)) ∧ w.cell? ⟨D, 2, none⟩ = some (.int .i64 (c 2)) ∧ w.cell? ⟨D, 3, none⟩ = some (.int .i64 (c 3)) ∧ w.cell? ⟨D, 4, none⟩ = some (.int .i64 (c 4)) ∧ w.cell? ⟨D, 5, none⟩ = some (.int .i64 (c 5)) := by
  simp [World.cell?, h, cfV]
end Go.Proofs.YtoefekkdjcflmaaGreatDoor.Et

