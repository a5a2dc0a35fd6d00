/- Parts of the proof. -/
import Derived.Test.YtoefekkdjcflmaaGreatDoorM44
namespace Go.Proofs.YtoefekkdjcflmaaGreatDoor.Et
open Go.RowKit Go.Sort Go.Proofs.YtoefekkdjcflmaaGreatDoor.Qm
set_option linter.unusedVariables false
def TE (B : Nat) (E : Es) (f : (Nat → Value) → (Nat → Value) → Value) (v : Value) (S : Nat → Prop) (w : World) : Prop := ∃ vx vp, v = f vx vp ∧ E.See w vx vp ∧ ∀ i, i < 3 → OkS B B S (vx i) ∧ OkS B B S (vp i)
theorem TE.stab {B : Nat} {E : Es} {f : (Nat → Value) → (Nat → Value) → Value} {v : Value} {S : Nat → Prop} {w w' : World} (h : TE B E f v S w) (ha : Agr B B S w w') : TE B E f v S w' := by
  obtain ⟨vx, vp, h1, h2, h3⟩ := h
  exact ⟨vx, vp, h1, fun i hi => ⟨(h2 i hi).1.agr (h3 i hi).1 ha, (h2 i hi).2.agr (h3 i hi).2 ha⟩, h3⟩
def TEP (B : Nat) (E : Es) (u : Value) (S : Nat → Prop) (w : World) : Prop := ∃ D vx vp, u = .pointer (some ⟨D, 0, none⟩) ∧ S D ∧ B ≤ D ∧ w.heap[D]? = some (.cells (E.cells vx vp) 35 (0, 0)) ∧ E.See w vx vp ∧ ∀ i, i < 3 → OkS B B S (vx i) ∧ OkS B B S (vp i)
theorem TEP.stab {B : Nat} {E : Es} {u : Value} {S : Nat → Prop} {w w' : World} (h : TEP B E u S w) (ha : Agr B B S w w') : TEP B E u S w' := by
  obtain ⟨D, vx, vp, h1, h2, h3, h4, h5, h6⟩ := h
  exact ⟨D, vx, vp, h1, h2, h3, (ha.2 D (.inl h2)).trans h4, fun i hi => ⟨(h5 i hi).1.agr (h6 i hi).1 ha, (h5 i hi).2.agr (h6 i hi).2 ha⟩, h6⟩
theorem heap_row {w : World} {D : Nat} {c : Array Value} {t : TypeId} (h : w.heap[D]? = some (.cells c t (0, 0))) (cs : Array Value) : (w.setRow D cs).heap[D]? = some (.cells cs t (0, 0)) := by
  have hl := lt_of_block h
  rw [Array.getElem?_eq_getElem hl] at h
  have h2 := Option.some.inj h
  simp only [World.setRow]
  rw [Array.getElem?_modify]
  simp [hl, h2]
theorem mod_row (w : World) (D : Nat) (cs : Array Value) : Mod (fun b => b = D) w (w.setRow D cs) :=
  ⟨rfl, rfl, rfl, by simp [World.setRow], fun k hk hn => by
    simp only [World.setRow]
    rw [Array.getElem?_modify]
    simp [show ¬ D = k from fun e => hn e.symm]⟩
section
variable {a : Act} {w : World} {K : Act → World → Prop} {Q : Exit → Act → World → Prop} {o : Oper}
theorem op_storeRow {t : TypeId} {p f D : Nat} {c : Array Value} {cs : Array Value} (hd : o.dst = none) (hop : o.op = Op.store t (Operand.tmp p) (Operand.tmp f)) (hp : a.tmps[p]?.getD undef = .pointer (some ⟨D, 0, none⟩)) (hf : a.tmps[f]?.getD undef = .agg cs) (hD : w.heap[D]? = some (.cells c t (0, 0))) (hi : (Tryz.prog.info? t).map (·.size) = some cs.size) (hs : c.size = cs.size) (h1 : cs.all (·.oneCell') = true)
    (hk : K a (w.setRow D cs)) : o.wp Tryz.prog a w K Q := by
  have e0 : a.eval (Operand.tmp p) = .pointer (some ⟨D, 0, none⟩) := by simp [go_sem, hp]
  have e1 : a.eval (Operand.tmp f) = .agg cs := by simp [go_sem, hf]
  have hr := run_storeVar_row (P := Tryz.prog) w D t t c cs hD hi hs h1
  have hr2 : (Instr.storeAt t (.pointer (some ⟨D, 0, none⟩)) (.agg cs)).run Tryz.prog w = .ok () (w.setRow D cs) := by
    simp only [Instr.storeAt, Instr.sureAddr, Sem.run_bind, Sem.run_pure, Result.andThen]
    exact hr
  unfold Oper.wp execOp
  simp only [hop, e0, e1, Sem.run_bind, hr2, Result.andThen_ok, Sem.run_pure]
  simpa [Oper.upon, hd, Act.put] using hk
theorem op_call_ {f : Nat} {ts : Array TypeId} {R : Ending → World → Prop} (hF : ∀ (args : Array Value) (a : World), Sem.run Tryz.prog (callFunc f args) a = Result.ok (Next.enter f args) a) (hop : o.op = Op.call { callee := Callee.value (Operand.func f), args := #[], argTypes := ts })
    (hc : Calls Tryz.prog f #[] w R) (hk : ∀ e w', R e w' → ∃ x, e = .returned x ∧ K (a.put o.dst x) w') : o.wp Tryz.prog a w K Q := by
  unfold Oper.wp
  simp [execOp, hop, go_sem, hF]
  refine hc.mono ?_
  rintro e w' hr
  obtain ⟨x, rfl, h⟩ := hk e w' hr
  exact h
end
theorem cells_one (e : Es) (vx vp : Nat → Value) (w : World) (h : e.See w vx vp) : (e.cells vx vp).all (·.oneCell') = true := by
  obtain ⟨a0, b0, x0⟩ := (h 0 (by decide)).1.slice
  obtain ⟨a1, b1, x1⟩ := (h 1 (by decide)).1.slice
  obtain ⟨a2, b2, x2⟩ := (h 2 (by decide)).1.slice
  obtain ⟨c0, d0, y0⟩ := (h 0 (by decide)).2.slice
  obtain ⟨c1, d1, y1⟩ := (h 1 (by decide)).2.slice
  obtain ⟨c2, d2, y2⟩ := (h 2 (by decide)).2.slice
  unfold Es.cells
  rw [x0, x1, x2, y0, y1, y2]
  kernel_rfl
end Go.Proofs.YtoefekkdjcflmaaGreatDoor.Et

