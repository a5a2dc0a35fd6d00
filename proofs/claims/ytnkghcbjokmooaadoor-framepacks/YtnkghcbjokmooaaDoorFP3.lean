/-
  Samples, loaded whole and compared.
-/
import Derived.Test.YtnkghcbjokmooaaDoorFP
import Derived.Laws.StructEq
namespace Go.Proofs.YtnkghcbjokmooaaDoor.Gr
open Go.RowKit Go.Sort Qm
set_option linter.unusedVariables false

theorem ag_Smp (w : World) : (isAgg 45).run Tryd.prog w = .ok true w := by kernel_rfl
theorem sz_Smp (w : World) : (sizeOf 45).run Tryd.prog w = .ok 13 w := by kernel_rfl
/-- a sample loaded whole -/
theorem wpList_ldS {ops : Array Oper} {rest : List Oper} {o : Oper} {a : Act} {Q : Exit → Act → World → Prop} {w : World} (hg : o.guard = none) (s : Operand) (hop : o.op = Op.load 45 s) (b : Nat) (he : a.eval s = .pointer (some ⟨b, 0, none⟩)) (q : Sp)
    (hc : ∀ j v, (smL q)[j]? = some v → w.cell? ⟨b, j, none⟩ = some v) (hK : wpList Tryd.prog ops Q rest (a.put o.dst (.agg (smV q))) w) : wpList Tryd.prog ops Q (o :: rest) a w := by
  refine wpList_plain hg fun K hK' => ?_
  have hl := run_loadCells_list (P := Tryd.prog) w ⟨b, 0, none⟩ (smL q) (fun j v h => by
    have e : (⟨b, 0, none⟩ : Addr).add j = ⟨b, j, none⟩ := by unfold Addr.add; split <;> simp_all
    rw [e]; exact hc j v h)
  have hln : (smL q).length = 13 := rfl
  rw [hln] at hl
  unfold Oper.wp execOp
  simp only [hop, he, Instr.loadAt, Instr.sureAddr, loadVar, Sem.run_bind, Sem.run_pure, Result.andThen_ok, ag_Smp, sz_Smp, hl, if_true]
  exact hK' _ _ hK
theorem wpList_ldSg {ops : Array Oper} {rest : List Oper} {o : Oper} {a : Act} {Q : Exit → Act → World → Prop} {w : World} (hw : Region.wanted o (yielded ops a.tmps) = true) (s : Operand) (hop : o.op = Op.load 45 s) (b : Nat) (he : a.eval s = .pointer (some ⟨b, 0, none⟩)) (q : Sp)
    (hc : ∀ j v, (smL q)[j]? = some v → w.cell? ⟨b, j, none⟩ = some v) (hK : wpList Tryd.prog ops Q rest (a.put o.dst (.agg (smV q))) w) : wpList Tryd.prog ops Q (o :: rest) a w := by
  have hl := run_loadCells_list (P := Tryd.prog) w ⟨b, 0, none⟩ (smL q) (fun j v h => by
    have e : (⟨b, 0, none⟩ : Addr).add j = ⟨b, j, none⟩ := by unfold Addr.add; split <;> simp_all
    rw [e]; exact hc j v h)
  have hln : (smL q).length = 13 := rfl
  rw [hln] at hl
  unfold wpList
  rw [if_pos hw]
  unfold Oper.wp execOp
  simp only [hop, he, Instr.loadAt, Instr.sureAddr, loadVar, Sem.run_bind, Sem.run_pure, Result.andThen_ok, ag_Smp, sz_Smp, hl, if_true]
  exact .inl hK
theorem stood45 : Tryd.prog.stoodInHeld 45 = false := by kernel_rfl
theorem guard45 : Tryd.prog.eqGuardType Tryd.prog.depth 45 = false := by kernel_rfl
theorem und45 : Tryd.prog.underlying 45 = some (.struct (Tryd.prog.fieldsOf 45)) := by kernel_rfl
theorem b2i_inj {a b : Bool} : b2i a = b2i b ↔ a = b := by cases a <;> cases b <;> simp [b2i]
theorem und43 : Tryd.prog.underlying 43 = some (.array 3 41) := by kernel_rfl
theorem und41 : Tryd.prog.underlying 41 = some (.int .i64) := by kernel_rfl
theorem sz41 (w : World) : (sizeOf 41).run Tryd.prog w = .ok 1 w := by kernel_rfl
theorem eq3 (w : World) (a b c x y z : Int) : (Op.equalIn 9999 43 (.agg #[vw a, vw b, vw c]) (.agg #[vw x, vw y, vw z])).run Tryd.prog w = .ok (decide (a = x ∧ b = y ∧ c = z)) w := by
  have h := equalIn_row (P := Tryd.prog) .i64 w 9997 43 41 3 und43 und41 sz41 [a, b, c] [x, y, z] rfl rfl
  have e : ((List.range 3).all fun i => [a, b, c].getD i 0 == [x, y, z].getD i 0) = decide (a = x ∧ b = y ∧ c = z) := by
    rw [Bool.eq_iff_iff]
    simp [List.range_succ, List.range_zero]
  rw [e] at h
  exact h
set_option maxRecDepth 20000 in
set_option maxHeartbeats 1000000 in
theorem run_eqS (w : World) (s t : Sp) : (Op.equalIn 10000 45 (.agg (smV s)) (.agg (smV t))).run Tryd.prog w = .ok (decide (packS s = packS t)) w := by
  rw [run_equalIn_agg w 9999 _ _ _ und45 stood45]
  have hp : (packS s = packS t) = (s.m = t.m ∧ (s.q 0 = t.q 0 ∧ s.q 1 = t.q 1 ∧ s.q 2 = t.q 2) ∧ (s.q 3 = t.q 3 ∧ s.q 4 = t.q 4 ∧ s.q 5 = t.q 5) ∧ s.hb = t.hb ∧ s.q 6 = t.q 6 ∧ s.hg = t.hg ∧ (s.q 7 = t.q 7 ∧ s.q 8 = t.q 8 ∧ s.q 9 = t.q 9)) := by
    unfold packS
    simp only [List.cons.injEq, and_true, b2i_inj, eq_iff_iff]
    constructor
    · rintro ⟨h0, h1, h2, h3, h4, h5, h6, h7, h8, h9, ha, hb, hc⟩
      exact ⟨h0, ⟨h1, h2, h3⟩, ⟨h4, h5, h6⟩, h7, h8, h9, ha, hb, hc⟩
    · rintro ⟨h0, ⟨h1, h2, h3⟩, ⟨h4, h5, h6⟩, h7, h8, h9, ha, hb, hc⟩
      exact ⟨h0, h1, h2, h3, h4, h5, h6, h7, h8, h9, ha, hb, hc⟩
  have hd : decide (packS s = packS t) = decide (s.m = t.m ∧ (s.q 0 = t.q 0 ∧ s.q 1 = t.q 1 ∧ s.q 2 = t.q 2) ∧ (s.q 3 = t.q 3 ∧ s.q 4 = t.q 4 ∧ s.q 5 = t.q 5) ∧ s.hb = t.hb ∧ s.q 6 = t.q 6 ∧ s.hg = t.hg ∧ (s.q 7 = t.q 7 ∧ s.q 8 = t.q 8 ∧ s.q 9 = t.q 9)) := by
    rw [decide_eq_decide, hp]
  rw [hd]
  unfold smV smL
  simp [go_sem, Op.eqFields, Tryd.underlying45, eq3]
  by_cases h0 : s.m = t.m
  case neg => simp [h0]
  by_cases h1 : s.q 0 = t.q 0
  case neg => simp [h0, h1]
  by_cases h2 : s.q 1 = t.q 1
  case neg => simp [h0, h1, h2]
  by_cases h3 : s.q 2 = t.q 2
  case neg => simp [h0, h1, h2, h3]
  by_cases h4 : s.q 3 = t.q 3
  case neg => simp [h0, h1, h2, h3, h4]
  by_cases h5 : s.q 4 = t.q 4
  case neg => simp [h0, h1, h2, h3, h4, h5]
  by_cases h6 : s.q 5 = t.q 5
  case neg => simp [h0, h1, h2, h3, h4, h5, h6]
  by_cases h7 : s.hb = t.hb
  case neg => simp [h0, h1, h2, h3, h4, h5, h6, h7]
  by_cases h8 : s.q 6 = t.q 6
  case neg => simp [h0, h1, h2, h3, h4, h5, h6, h7, h8]
  by_cases h9 : s.hg = t.hg
  case neg => simp [h0, h1, h2, h3, h4, h5, h6, h7, h8, h9]
  by_cases h10 : s.q 7 = t.q 7
  case neg => simp [h0, h1, h2, h3, h4, h5, h6, h7, h8, h9, h10]
  by_cases h11 : s.q 8 = t.q 8
  case neg => simp [h0, h1, h2, h3, h4, h5, h6, h7, h8, h9, h10, h11]
  by_cases h12 : s.q 9 = t.q 9
  case neg => simp [h0, h1, h2, h3, h4, h5, h6, h7, h8, h9, h10, h11, h12]
  simp [h0, h1, h2, h3, h4, h5, h6, h7, h8, h9, h10, h11, h12]
end Go.Proofs.YtnkghcbjokmooaaDoor.Gr
