/- Parts of the proof. -/
import Derived.Laws.Cells
import Derived.Test.YtoefekkdjcflmaaGreatDoorM16
namespace Go.Proofs.YtoefekkdjcflmaaGreatDoor.Et
open Go.RowKit Go.Sort Go.Proofs.YtoefekkdjcflmaaGreatDoor.Qm
set_option linter.unusedVariables false
section
variable {a : Act} {w : World} {K : Act → World → Prop} {Q : Exit → Act → World → Prop} {o : Oper}
theorem op_nil {s b f : Nat} (hop : o.op = Op.nilCheck (Operand.tmp s)) (he : a.tmps[s]?.getD undef = .pointer (some ⟨b, f, none⟩)) (hk : K (a.put o.dst (.pointer (some ⟨b, f, none⟩))) w) : o.wp Tryz.prog a w K Q := by
  unfold Oper.wp
  simp [execOp, hop, go_sem, he]
  exact hk
theorem op_fwork0 {s b f : Nat} (hop : o.op = Op.fieldAddr 66 (Operand.tmp s) 0) (he : a.tmps[s]?.getD undef = .pointer (some ⟨b, f, none⟩)) (hk : K (a.put o.dst (.pointer (some ⟨b, f, none⟩))) w) : o.wp Tryz.prog a w K Q := by
  unfold Oper.wp
  simp [execOp, hop, go_sem, he]
  exact hk
theorem op_fwork1 {s b f : Nat} (hop : o.op = Op.fieldAddr 66 (Operand.tmp s) 1) (he : a.tmps[s]?.getD undef = .pointer (some ⟨b, f, none⟩)) (hk : K (a.put o.dst (.pointer (some ⟨b, f + 6, none⟩))) w) : o.wp Tryz.prog a w K Q := by
  unfold Oper.wp
  simp [execOp, hop, go_sem, he]
  exact hk
theorem op_fwork2 {s b f : Nat} (hop : o.op = Op.fieldAddr 66 (Operand.tmp s) 2) (he : a.tmps[s]?.getD undef = .pointer (some ⟨b, f, none⟩)) (hk : K (a.put o.dst (.pointer (some ⟨b, f + 19, none⟩))) w) : o.wp Tryz.prog a w K Q := by
  unfold Oper.wp
  simp [execOp, hop, go_sem, he]
  exact hk
theorem op_fwork3 {s b f : Nat} (hop : o.op = Op.fieldAddr 66 (Operand.tmp s) 3) (he : a.tmps[s]?.getD undef = .pointer (some ⟨b, f, none⟩)) (hk : K (a.put o.dst (.pointer (some ⟨b, f + 48, none⟩))) w) : o.wp Tryz.prog a w K Q := by
  unfold Oper.wp
  simp [execOp, hop, go_sem, he]
  exact hk
theorem op_fEst0 {s b f : Nat} (hop : o.op = Op.fieldAddr 35 (Operand.tmp s) 0) (he : a.tmps[s]?.getD undef = .pointer (some ⟨b, f, none⟩)) (hk : K (a.put o.dst (.pointer (some ⟨b, f, none⟩))) w) : o.wp Tryz.prog a w K Q := by
  unfold Oper.wp
  simp [execOp, hop, go_sem, he]
  exact hk
theorem op_fEst1 {s b f : Nat} (hop : o.op = Op.fieldAddr 35 (Operand.tmp s) 1) (he : a.tmps[s]?.getD undef = .pointer (some ⟨b, f, none⟩)) (hk : K (a.put o.dst (.pointer (some ⟨b, f + 4, none⟩))) w) : o.wp Tryz.prog a w K Q := by
  unfold Oper.wp
  simp [execOp, hop, go_sem, he]
  exact hk
theorem op_fEst2 {s b f : Nat} (hop : o.op = Op.fieldAddr 35 (Operand.tmp s) 2) (he : a.tmps[s]?.getD undef = .pointer (some ⟨b, f, none⟩)) (hk : K (a.put o.dst (.pointer (some ⟨b, f + 22, none⟩))) w) : o.wp Tryz.prog a w K Q := by
  unfold Oper.wp
  simp [execOp, hop, go_sem, he]
  exact hk
theorem op_fEst3 {s b f : Nat} (hop : o.op = Op.fieldAddr 35 (Operand.tmp s) 3) (he : a.tmps[s]?.getD undef = .pointer (some ⟨b, f, none⟩)) (hk : K (a.put o.dst (.pointer (some ⟨b, f + 23, none⟩))) w) : o.wp Tryz.prog a w K Q := by
  unfold Oper.wp
  simp [execOp, hop, go_sem, he]
  exact hk
theorem op_fEst4 {s b f : Nat} (hop : o.op = Op.fieldAddr 35 (Operand.tmp s) 4) (he : a.tmps[s]?.getD undef = .pointer (some ⟨b, f, none⟩)) (hk : K (a.put o.dst (.pointer (some ⟨b, f + 24, none⟩))) w) : o.wp Tryz.prog a w K Q := by
  unfold Oper.wp
  simp [execOp, hop, go_sem, he]
  exact hk
theorem op_fEst5 {s b f : Nat} (hop : o.op = Op.fieldAddr 35 (Operand.tmp s) 5) (he : a.tmps[s]?.getD undef = .pointer (some ⟨b, f, none⟩)) (hk : K (a.put o.dst (.pointer (some ⟨b, f + 28, none⟩))) w) : o.wp Tryz.prog a w K Q := by
  unfold Oper.wp
  simp [execOp, hop, go_sem, he]
  exact hk
theorem op_fSample1 {s b f : Nat} (hop : o.op = Op.fieldAddr 39 (Operand.tmp s) 1) (he : a.tmps[s]?.getD undef = .pointer (some ⟨b, f, none⟩)) (hk : K (a.put o.dst (.pointer (some ⟨b, f + 1, none⟩))) w) : o.wp Tryz.prog a w K Q := by
  unfold Oper.wp
  simp [execOp, hop, go_sem, he]
  exact hk
theorem op_fSample2 {s b f : Nat} (hop : o.op = Op.fieldAddr 39 (Operand.tmp s) 2) (he : a.tmps[s]?.getD undef = .pointer (some ⟨b, f, none⟩)) (hk : K (a.put o.dst (.pointer (some ⟨b, f + 4, none⟩))) w) : o.wp Tryz.prog a w K Q := by
  unfold Oper.wp
  simp [execOp, hop, go_sem, he]
  exact hk
theorem op_fConf0 {s b f : Nat} (hop : o.op = Op.fieldAddr 24 (Operand.tmp s) 0) (he : a.tmps[s]?.getD undef = .pointer (some ⟨b, f, none⟩)) (hk : K (a.put o.dst (.pointer (some ⟨b, f, none⟩))) w) : o.wp Tryz.prog a w K Q := by
  unfold Oper.wp
  simp [execOp, hop, go_sem, he]
  exact hk
theorem op_fConf1 {s b f : Nat} (hop : o.op = Op.fieldAddr 24 (Operand.tmp s) 1) (he : a.tmps[s]?.getD undef = .pointer (some ⟨b, f, none⟩)) (hk : K (a.put o.dst (.pointer (some ⟨b, f + 1, none⟩))) w) : o.wp Tryz.prog a w K Q := by
  unfold Oper.wp
  simp [execOp, hop, go_sem, he]
  exact hk
theorem op_fConf2 {s b f : Nat} (hop : o.op = Op.fieldAddr 24 (Operand.tmp s) 2) (he : a.tmps[s]?.getD undef = .pointer (some ⟨b, f, none⟩)) (hk : K (a.put o.dst (.pointer (some ⟨b, f + 2, none⟩))) w) : o.wp Tryz.prog a w K Q := by
  unfold Oper.wp
  simp [execOp, hop, go_sem, he]
  exact hk
theorem op_fConf5 {s b f : Nat} (hop : o.op = Op.fieldAddr 24 (Operand.tmp s) 5) (he : a.tmps[s]?.getD undef = .pointer (some ⟨b, f, none⟩)) (hk : K (a.put o.dst (.pointer (some ⟨b, f + 5, none⟩))) w) : o.wp Tryz.prog a w K Q := by
  unfold Oper.wp
  simp [execOp, hop, go_sem, he]
  exact hk
theorem op_ldQ {s b f : Nat} {v0 : Value} (hop : o.op = Op.load 22 (Operand.tmp s)) (he : a.tmps[s]?.getD undef = .pointer (some ⟨b, f, none⟩)) (c0 : w.cell? ⟨b, f, none⟩ = some v0) (hk : K (a.put o.dst v0) w) : o.wp Tryz.prog a w K Q := by
  unfold Oper.wp
  simp [execOp, hop, go_sem, he, c0]
  exact hk
theorem op_ldint {s b f : Nat} {v0 : Value} (hop : o.op = Op.load 3 (Operand.tmp s)) (he : a.tmps[s]?.getD undef = .pointer (some ⟨b, f, none⟩)) (c0 : w.cell? ⟨b, f, none⟩ = some v0) (hk : K (a.put o.dst v0) w) : o.wp Tryz.prog a w K Q := by
  unfold Oper.wp
  simp [execOp, hop, go_sem, he, c0]
  exact hk
theorem op_ldbool {s b f : Nat} {v0 : Value} (hop : o.op = Op.load 4 (Operand.tmp s)) (he : a.tmps[s]?.getD undef = .pointer (some ⟨b, f, none⟩)) (c0 : w.cell? ⟨b, f, none⟩ = some v0) (hk : K (a.put o.dst v0) w) : o.wp Tryz.prog a w K Q := by
  unfold Oper.wp
  simp [execOp, hop, go_sem, he, c0]
  exact hk
theorem op_ldQuat {s b f : Nat} {v0 v1 v2 v3 : Value} (hop : o.op = Op.load 26 (Operand.tmp s)) (he : a.tmps[s]?.getD undef = .pointer (some ⟨b, f, none⟩)) (c0 : w.cell? ⟨b, f, none⟩ = some v0) (c1 : w.cell? ⟨b, f + 1, none⟩ = some v1) (c2 : w.cell? ⟨b, f + 2, none⟩ = some v2) (c3 : w.cell? ⟨b, f + 3, none⟩ = some v3) (hk : K (a.put o.dst (.agg #[v0, v1, v2, v3])) w) : o.wp Tryz.prog a w K Q := by
  unfold Oper.wp
  simp [execOp, hop, go_sem, he, c0, c1, c2, c3]
  exact hk
theorem op_ldVec {s b f : Nat} {v0 v1 v2 : Value} (hop : o.op = Op.load 37 (Operand.tmp s)) (he : a.tmps[s]?.getD undef = .pointer (some ⟨b, f, none⟩)) (c0 : w.cell? ⟨b, f, none⟩ = some v0) (c1 : w.cell? ⟨b, f + 1, none⟩ = some v1) (c2 : w.cell? ⟨b, f + 2, none⟩ = some v2) (hk : K (a.put o.dst (.agg #[v0, v1, v2])) w) : o.wp Tryz.prog a w K Q := by
  unfold Oper.wp
  simp [execOp, hop, go_sem, he, c0, c1, c2]
  exact hk
theorem op_ldTrack {s b f : Nat} {v0 v1 v2 v3 v4 v5 : Value} (hop : o.op = Op.load 31 (Operand.tmp s)) (he : a.tmps[s]?.getD undef = .pointer (some ⟨b, f, none⟩)) (c0 : w.cell? ⟨b, f, none⟩ = some v0) (c1 : w.cell? ⟨b, f + 1, none⟩ = some v1) (c2 : w.cell? ⟨b, f + 2, none⟩ = some v2) (c3 : w.cell? ⟨b, f + 3, none⟩ = some v3) (c4 : w.cell? ⟨b, f + 4, none⟩ = some v4) (c5 : w.cell? ⟨b, f + 5, none⟩ = some v5) (hk : K (a.put o.dst (.agg #[v0, v1, v2, v3, v4, v5])) w) : o.wp Tryz.prog a w K Q := by
  unfold Oper.wp
  simp [execOp, hop, go_sem, he, c0, c1, c2, c3, c4, c5]
  exact hk
theorem op_call_t {f s0 : Nat} {v0 : Value} {ts : Array TypeId} {R : Ending → World → Prop} (hF : ∀ (args : Array Value) (a : World), Sem.run Tryz.prog (callFunc f args) a = Result.ok (Next.enter f args) a) (hop : o.op = Op.call { callee := Callee.value (Operand.func f), args := #[Operand.tmp s0], argTypes := ts }) (h0 : a.tmps[s0]?.getD undef = v0)
    (hc : Calls Tryz.prog f #[v0] w R) (hk : ∀ e w', R e w' → ∃ x, e = .returned x ∧ K (a.put o.dst x) w') : o.wp Tryz.prog a w K Q := by
  unfold Oper.wp
  simp [execOp, hop, go_sem, hF, h0]
  refine hc.mono ?_
  intro e w' h
  obtain ⟨x, rfl, hx⟩ := hk e w' h
  exact hx
theorem op_call_tt {f s0 s1 : Nat} {v0 v1 : Value} {ts : Array TypeId} {R : Ending → World → Prop} (hF : ∀ (args : Array Value) (a : World), Sem.run Tryz.prog (callFunc f args) a = Result.ok (Next.enter f args) a) (hop : o.op = Op.call { callee := Callee.value (Operand.func f), args := #[Operand.tmp s0, Operand.tmp s1], argTypes := ts }) (h0 : a.tmps[s0]?.getD undef = v0) (h1 : a.tmps[s1]?.getD undef = v1)
    (hc : Calls Tryz.prog f #[v0, v1] w R) (hk : ∀ e w', R e w' → ∃ x, e = .returned x ∧ K (a.put o.dst x) w') : o.wp Tryz.prog a w K Q := by
  unfold Oper.wp
  simp [execOp, hop, go_sem, hF, h0, h1]
  refine hc.mono ?_
  intro e w' h
  obtain ⟨x, rfl, hx⟩ := hk e w' h
  exact hx
theorem op_call_ttt {f s0 s1 s2 : Nat} {v0 v1 v2 : Value} {ts : Array TypeId} {R : Ending → World → Prop} (hF : ∀ (args : Array Value) (a : World), Sem.run Tryz.prog (callFunc f args) a = Result.ok (Next.enter f args) a) (hop : o.op = Op.call { callee := Callee.value (Operand.func f), args := #[Operand.tmp s0, Operand.tmp s1, Operand.tmp s2], argTypes := ts }) (h0 : a.tmps[s0]?.getD undef = v0) (h1 : a.tmps[s1]?.getD undef = v1) (h2 : a.tmps[s2]?.getD undef = v2)
    (hc : Calls Tryz.prog f #[v0, v1, v2] w R) (hk : ∀ e w', R e w' → ∃ x, e = .returned x ∧ K (a.put o.dst x) w') : o.wp Tryz.prog a w K Q := by
  unfold Oper.wp
  simp [execOp, hop, go_sem, hF, h0, h1, h2]
  refine hc.mono ?_
  intro e w' h
  obtain ⟨x, rfl, hx⟩ := hk e w' h
  exact hx
theorem op_call_ttttt {f s0 s1 s2 s3 s4 : Nat} {v0 v1 v2 v3 v4 : Value} {ts : Array TypeId} {R : Ending → World → Prop} (hF : ∀ (args : Array Value) (a : World), Sem.run Tryz.prog (callFunc f args) a = Result.ok (Next.enter f args) a) (hop : o.op = Op.call { callee := Callee.value (Operand.func f), args := #[Operand.tmp s0, Operand.tmp s1, Operand.tmp s2, Operand.tmp s3, Operand.tmp s4], argTypes := ts }) (h0 : a.tmps[s0]?.getD undef = v0) (h1 : a.tmps[s1]?.getD undef = v1) (h2 : a.tmps[s2]?.getD undef = v2) (h3 : a.tmps[s3]?.getD undef = v3) (h4 : a.tmps[s4]?.getD undef = v4)
    (hc : Calls Tryz.prog f #[v0, v1, v2, v3, v4] w R) (hk : ∀ e w', R e w' → ∃ x, e = .returned x ∧ K (a.put o.dst x) w') : o.wp Tryz.prog a w K Q := by
  unfold Oper.wp
  simp [execOp, hop, go_sem, hF, h0, h1, h2, h3, h4]
  refine hc.mono ?_
  intro e w' h
  obtain ⟨x, rfl, hx⟩ := hk e w' h
  exact hx
theorem op_alQuat  (hop : o.op = Op.alloc 26) (hk : K (a.put o.dst (.pointer (some ⟨w.heap.size, 0, none⟩))) (w.alloc (.cells #[.int .i64 0, .int .i64 0, .int .i64 0, .int .i64 0] 26))) : o.wp Tryz.prog a w K Q := by
  unfold Oper.wp
  simp [execOp, hop, go_sem]
  exact hk
theorem op_alVec  (hop : o.op = Op.alloc 37) (hk : K (a.put o.dst (.pointer (some ⟨w.heap.size, 0, none⟩))) (w.alloc (.cells #[.int .i64 0, .int .i64 0, .int .i64 0] 37))) : o.wp Tryz.prog a w K Q := by
  unfold Oper.wp
  simp [execOp, hop, go_sem]
  exact hk
theorem op_alMat  (hop : o.op = Op.alloc 29) (hk : K (a.put o.dst (.pointer (some ⟨w.heap.size, 0, none⟩))) (w.alloc (.cells #[.int .i64 0, .int .i64 0, .slice none 0 0] 29))) : o.wp Tryz.prog a w K Q := by
  unfold Oper.wp
  simp [execOp, hop, go_sem]
  exact hk
theorem op_stQuat {p f b : Nat} {x0 x1 x2 x3 : Value} {z0 z1 z2 z3 : Int} {t : TypeId} (hd : o.dst = none) (hop : o.op = Op.store 26 (Operand.tmp p) (Operand.tmp f)) (hp : a.tmps[p]?.getD undef = .pointer (some ⟨b, 0, none⟩)) (hf : a.tmps[f]?.getD undef = .agg #[.int .i64 z0, .int .i64 z1, .int .i64 z2, .int .i64 z3]) (hb : w.heap[b]? = some (.cells #[x0, x1, x2, x3] t (0, 0)))
    (hk : K a ((((w.setCell ⟨b, 0, none⟩ (.int .i64 z0)).setCell ⟨b, 1, none⟩ (.int .i64 z1)).setCell ⟨b, 2, none⟩ (.int .i64 z2)).setCell ⟨b, 3, none⟩ (.int .i64 z3))) : o.wp Tryz.prog a w K Q := by
  have c : w.cell? ⟨b, 0, none⟩ = some x0 ∧ w.cell? ⟨b, 1, none⟩ = some x1 ∧ w.cell? ⟨b, 2, none⟩ = some x2 ∧ w.cell? ⟨b, 3, none⟩ = some x3 := by simp [World.cell?, hb]
  have f' : w.frozen? ⟨b, 0, none⟩ = false ∧ w.frozen? ⟨b, 1, none⟩ = false ∧ w.frozen? ⟨b, 2, none⟩ = false ∧ w.frozen? ⟨b, 3, none⟩ = false := by simp [World.frozen?, hb]
  obtain ⟨c0, c1, c2, c3⟩ := c
  obtain ⟨f0, f1, f2, f3⟩ := f'
  unfold Oper.wp
  simp [execOp, hop, go_sem, hp, hf, c0, c1, c2, c3, f0, f1, f2, f3, hd]
  exact hk
theorem putQuat {b : Nat} {x0 x1 x2 x3 y0 y1 y2 y3 : Value} {t : TypeId} (h : w.heap[b]? = some (.cells #[x0, x1, x2, x3] t (0, 0))) : ((((w.setCell ⟨b, 0, none⟩ y0).setCell ⟨b, 1, none⟩ y1).setCell ⟨b, 2, none⟩ y2).setCell ⟨b, 3, none⟩ y3).heap[b]? = some (.cells #[y0, y1, y2, y3] t (0, 0)) := by
  have h0 := h
  have h1 := heap_setCell_same _ b 0 _ t y0 h0
  have h2 := heap_setCell_same _ b 1 _ t y1 h1
  have h3 := heap_setCell_same _ b 2 _ t y2 h2
  have h4 := heap_setCell_same _ b 3 _ t y3 h3
  rw [h4]; rfl
theorem modQuat {b : Nat} (y0 y1 y2 y3 : Value) : Mod (fun q => q = b) w ((((w.setCell ⟨b, 0, none⟩ y0).setCell ⟨b, 1, none⟩ y1).setCell ⟨b, 2, none⟩ y2).setCell ⟨b, 3, none⟩ y3) := ((mod_set.trans mod_set).trans mod_set).trans mod_set
theorem op_stMat {p f b : Nat} {x0 x1 x2 : Value} {z0 z1 : Int} {ao : Option Addr} {m cap : Nat} {t : TypeId} (hd : o.dst = none) (hop : o.op = Op.store 29 (Operand.tmp p) (Operand.tmp f)) (hp : a.tmps[p]?.getD undef = .pointer (some ⟨b, 0, none⟩)) (hf : a.tmps[f]?.getD undef = .agg #[.int .i64 z0, .int .i64 z1, .slice ao m cap]) (hb : w.heap[b]? = some (.cells #[x0, x1, x2] t (0, 0)))
    (hk : K a (((w.setCell ⟨b, 0, none⟩ (.int .i64 z0)).setCell ⟨b, 1, none⟩ (.int .i64 z1)).setCell ⟨b, 2, none⟩ (.slice ao m cap))) : o.wp Tryz.prog a w K Q := by
  have c : w.cell? ⟨b, 0, none⟩ = some x0 ∧ w.cell? ⟨b, 1, none⟩ = some x1 ∧ w.cell? ⟨b, 2, none⟩ = some x2 := by simp [World.cell?, hb]
  have f' : w.frozen? ⟨b, 0, none⟩ = false ∧ w.frozen? ⟨b, 1, none⟩ = false ∧ w.frozen? ⟨b, 2, none⟩ = false := by simp [World.frozen?, hb]
  obtain ⟨c0, c1, c2⟩ := c
  obtain ⟨f0, f1, f2⟩ := f'
  unfold Oper.wp
  simp [execOp, hop, go_sem, hp, hf, c0, c1, c2, f0, f1, f2, hd]
  exact hk
theorem putMat {b : Nat} {x0 x1 x2 y0 y1 y2 : Value} {t : TypeId} (h : w.heap[b]? = some (.cells #[x0, x1, x2] t (0, 0))) : (((w.setCell ⟨b, 0, none⟩ y0).setCell ⟨b, 1, none⟩ y1).setCell ⟨b, 2, none⟩ y2).heap[b]? = some (.cells #[y0, y1, y2] t (0, 0)) := by
  have h0 := h
  have h1 := heap_setCell_same _ b 0 _ t y0 h0
  have h2 := heap_setCell_same _ b 1 _ t y1 h1
  have h3 := heap_setCell_same _ b 2 _ t y2 h2
  rw [h3]; rfl
theorem modMat {b : Nat} (y0 y1 y2 : Value) : Mod (fun q => q = b) w (((w.setCell ⟨b, 0, none⟩ y0).setCell ⟨b, 1, none⟩ y1).setCell ⟨b, 2, none⟩ y2) := (mod_set.trans mod_set).trans mod_set
theorem seesMat {v : Value} {xs : List Int} (h : Sees w v xs) {b : Nat} (hn : ∀ k, v.ownBlock = some k → k ≠ b) (y0 y1 y2 : Value) : Sees (((w.setCell ⟨b, 0, none⟩ y0).setCell ⟨b, 1, none⟩ y1).setCell ⟨b, 2, none⟩ y2) v xs := ((h.set' hn _).set' hn _).set' hn _
theorem op_stVecAt {p f b g : Nat} {x0 x1 x2 : Value} {z0 z1 z2 : Int} (hd : o.dst = none) (hop : o.op = Op.store 37 (Operand.tmp p) (Operand.tmp f)) (hp : a.tmps[p]?.getD undef = .pointer (some ⟨b, g, none⟩)) (hf : a.tmps[f]?.getD undef = .agg #[.int .i64 z0, .int .i64 z1, .int .i64 z2])
    (c0 : w.cell? ⟨b, g, none⟩ = some x0) (c1 : w.cell? ⟨b, g + 1, none⟩ = some x1) (c2 : w.cell? ⟨b, g + 2, none⟩ = some x2) (f0 : w.frozen? ⟨b, g, none⟩ = false) (f1 : w.frozen? ⟨b, g + 1, none⟩ = false) (f2 : w.frozen? ⟨b, g + 2, none⟩ = false)
    (hk : K a (((w.setCell ⟨b, g, none⟩ (.int .i64 z0)).setCell ⟨b, g + 1, none⟩ (.int .i64 z1)).setCell ⟨b, g + 2, none⟩ (.int .i64 z2))) : o.wp Tryz.prog a w K Q := by
  unfold Oper.wp
  simp [execOp, hop, go_sem, hp, hf, c0, c1, c2, f0, f1, f2, hd]
  exact hk
theorem op_stTrackAt {p f b g : Nat} {x0 x1 x2 x3 x4 x5 : Value} {z0 z1 z2 z3 : Int} {ao bo : Option Addr} {m cap m2 cap2 : Nat} (hd : o.dst = none) (hop : o.op = Op.store 31 (Operand.tmp p) (Operand.tmp f)) (hp : a.tmps[p]?.getD undef = .pointer (some ⟨b, g, none⟩)) (hf : a.tmps[f]?.getD undef = .agg #[.int .i64 z0, .int .i64 z1, .slice ao m cap, .int .i64 z2, .int .i64 z3, .slice bo m2 cap2])
    (c0 : w.cell? ⟨b, g, none⟩ = some x0) (c1 : w.cell? ⟨b, g + 1, none⟩ = some x1) (c2 : w.cell? ⟨b, g + 2, none⟩ = some x2) (c3 : w.cell? ⟨b, g + 3, none⟩ = some x3) (c4 : w.cell? ⟨b, g + 4, none⟩ = some x4) (c5 : w.cell? ⟨b, g + 5, none⟩ = some x5) (f0 : w.frozen? ⟨b, g, none⟩ = false) (f1 : w.frozen? ⟨b, g + 1, none⟩ = false) (f2 : w.frozen? ⟨b, g + 2, none⟩ = false) (f3 : w.frozen? ⟨b, g + 3, none⟩ = false) (f4 : w.frozen? ⟨b, g + 4, none⟩ = false) (f5 : w.frozen? ⟨b, g + 5, none⟩ = false)
    (hk : K a ((((((w.setCell ⟨b, g, none⟩ (.int .i64 z0)).setCell ⟨b, g + 1, none⟩ (.int .i64 z1)).setCell ⟨b, g + 2, none⟩ (.slice ao m cap)).setCell ⟨b, g + 3, none⟩ (.int .i64 z2)).setCell ⟨b, g + 4, none⟩ (.int .i64 z3)).setCell ⟨b, g + 5, none⟩ (.slice bo m2 cap2))) : o.wp Tryz.prog a w K Q := by
  unfold Oper.wp
  simp [execOp, hop, go_sem, hp, hf, c0, c1, c2, c3, c4, c5, f0, f1, f2, f3, f4, f5, hd]
  exact hk
theorem op_stintAt {p f b g : Nat} {x0 : Value} {z0 : Int} (hd : o.dst = none) (hop : o.op = Op.store 3 (Operand.tmp p) (Operand.tmp f)) (hp : a.tmps[p]?.getD undef = .pointer (some ⟨b, g, none⟩)) (hf : a.tmps[f]?.getD undef = .int .i64 z0)
    (c0 : w.cell? ⟨b, g, none⟩ = some x0) (f0 : w.frozen? ⟨b, g, none⟩ = false)
    (hk : K a (w.setCell ⟨b, g, none⟩ (.int .i64 z0))) : o.wp Tryz.prog a w K Q := by
  unfold Oper.wp
  simp [execOp, hop, go_sem, hp, hf, c0, f0, hd]
  exact hk
theorem op_notB' {s : Nat} {b : Bool} (hop : o.op = Op.unOp UnOp.not 4 (Operand.tmp s)) (he : a.tmps[s]?.getD undef = .bool b) (hk : K (a.put o.dst (.bool (!b))) w) : o.wp Tryz.prog a w K Q := by
  unfold Oper.wp
  simp [execOp, hop, go_sem, he]
  exact hk
theorem op_ldN {s b f : Nat} {t : TypeId} {cs : List Value} (hop : o.op = Op.load t (Operand.tmp s)) (he : a.tmps[s]?.getD undef = .pointer (some ⟨b, f, none⟩)) (ha : (isAgg t).run Tryz.prog w = .ok true w) (hz : (sizeOf t).run Tryz.prog w = .ok cs.length w)
    (hc : ∀ j v, cs[j]? = some v → w.cell? ⟨b, f + j, none⟩ = some v) (hk : K (a.put o.dst (.agg cs.toArray)) w) : o.wp Tryz.prog a w K Q := by
  have hl := run_loadCells_list (P := Tryz.prog) w ⟨b, f, none⟩ cs (fun j v h => by
    have e : (⟨b, f, none⟩ : Addr).add j = ⟨b, f + j, none⟩ := by unfold Addr.add; split <;> simp_all
    rw [e]; exact hc j v h)
  have he' : a.eval (Operand.tmp s) = .pointer (some ⟨b, f, none⟩) := by simp [go_sem, he]
  unfold Oper.wp execOp
  simp only [hop, he', Instr.loadAt, Instr.sureAddr, loadVar, Sem.run_bind, Sem.run_pure, Result.andThen_ok, ha, hz, hl, if_true]
  exact hk
theorem op_moveC {v : Value} (hop : o.op = Op.move (Operand.const v)) (hk : K (a.put o.dst v) w) : o.wp Tryz.prog a w K Q := by
  unfold Oper.wp
  simp [execOp, hop, go_sem]
  exact hk
theorem ag_Axes (w : World) : (isAgg 32).run Tryz.prog w = .ok true w := by kernel_rfl
theorem sz_Axes (w : World) : (sizeOf 32).run Tryz.prog w = .ok 18 w := by kernel_rfl
theorem ag_Est (w : World) : (isAgg 35).run Tryz.prog w = .ok true w := by kernel_rfl
theorem sz_Est (w : World) : (sizeOf 35).run Tryz.prog w = .ok 29 w := by kernel_rfl
theorem ag_Vec (w : World) : (isAgg 37).run Tryz.prog w = .ok true w := by kernel_rfl
theorem sz_Vec (w : World) : (sizeOf 37).run Tryz.prog w = .ok 3 w := by kernel_rfl
theorem ag_Sample (w : World) : (isAgg 39).run Tryz.prog w = .ok true w := by kernel_rfl
theorem sz_Sample (w : World) : (sizeOf 39).run Tryz.prog w = .ok 13 w := by kernel_rfl
theorem ag_Conf (w : World) : (isAgg 24).run Tryz.prog w = .ok true w := by kernel_rfl
theorem sz_Conf (w : World) : (sizeOf 24).run Tryz.prog w = .ok 6 w := by kernel_rfl
end
def TP (B : Nat) (cs : Array Value) (t : TypeId) (v : Value) (S : Nat → Prop) (w : World) : Prop := ∃ D, v = .pointer (some ⟨D, 0, none⟩) ∧ S D ∧ B ≤ D ∧ w.heap[D]? = some (.cells cs t (0, 0))
theorem TP.stab {B : Nat} {cs : Array Value} {t : TypeId} {v : Value} {S : Nat → Prop} {w w' : World} (h : TP B cs t v S w) (hS : ∀ k, S k → w'.heap[k]? = w.heap[k]?) : TP B cs t v S w' := by
  obtain ⟨D, h1, h2, h3, h4⟩ := h
  exact ⟨D, h1, h2, h3, (hS D h2).trans h4⟩
def TP1 (B C : Nat) (N : Nat) (g : Value → Array Value) (xs : List Int) (t : TypeId) (v : Value) (S : Nat → Prop) (w : World) : Prop := ∃ D ao ac, v = .pointer (some ⟨D, 0, none⟩) ∧ S D ∧ B ≤ D ∧ w.heap[D]? = some (.cells (g (.slice ao xs.length ac)) t (0, 0)) ∧ Sees w (.slice ao xs.length ac) xs ∧ OkS C N S (.slice ao xs.length ac)
theorem TP1.stab {B C N : Nat} {g : Value → Array Value} {xs : List Int} {t : TypeId} {v : Value} {S : Nat → Prop} {w w' : World} (h : TP1 B C N g xs t v S w) (ha : Agr C N S w w') : TP1 B C N g xs t v S w' := by
  obtain ⟨D, ao, ac, h1, h2, h3, h4, h5, h6⟩ := h
  exact ⟨D, ao, ac, h1, h2, h3, (ha.2 D (.inl h2)).trans h4, h5.agr h6 ha, h6⟩
def TP2 (B C : Nat) (N : Nat) (g : Value → Value → Array Value) (xs ps : List Int) (t : TypeId) (v : Value) (S : Nat → Prop) (w : World) : Prop := ∃ D ao ac bo bc, v = .pointer (some ⟨D, 0, none⟩) ∧ S D ∧ B ≤ D ∧ w.heap[D]? = some (.cells (g (.slice ao xs.length ac) (.slice bo ps.length bc)) t (0, 0)) ∧ Sees w (.slice ao xs.length ac) xs ∧ Sees w (.slice bo ps.length bc) ps ∧ OkS C N S (.slice ao xs.length ac) ∧ OkS C N S (.slice bo ps.length bc)
theorem TP2.stab {B C N : Nat} {g : Value → Value → Array Value} {xs ps : List Int} {t : TypeId} {v : Value} {S : Nat → Prop} {w w' : World} (h : TP2 B C N g xs ps t v S w) (ha : Agr C N S w w') : TP2 B C N g xs ps t v S w' := by
  obtain ⟨D, ao, ac, bo, bc, h1, h2, h3, h4, h5, h6, h7, h8⟩ := h
  exact ⟨D, ao, ac, bo, bc, h1, h2, h3, (ha.2 D (.inl h2)).trans h4, h5.agr h7 ha, h6.agr h8 ha, h7, h8⟩
theorem agr_zero {N : Nat} {S : Nat → Prop} {w w' : World} (hz : w.heap.size ≤ w'.heap.size) (hS : ∀ k, S k → w'.heap[k]? = w.heap[k]?) : Agr 0 N S w w' := ⟨hz, fun k h => h.elim (hS k) (fun h => absurd h.1 (Nat.not_lt_zero _))⟩
end Go.Proofs.YtoefekkdjcflmaaGreatDoor.Et
namespace Go.Proofs.YtoefekkdjcflmaaGreatDoor
open Go.RowKit Go.Sort Qm
def TV1 (B N : Nat) (f : Value → Value) (xs : List Int) (v : Value) (S : Nat → Prop) (w : World) : Prop := ∃ ao cap, v = f (.slice ao xs.length cap) ∧ Sees w (.slice ao xs.length cap) xs ∧ OkS B N S (.slice ao xs.length cap)
theorem TV1.stab {B N : Nat} {f : Value → Value} {xs : List Int} {v : Value} {S : Nat → Prop} {w w' : World} (h : TV1 B N f xs v S w) (ha : Agr B N S w w') : TV1 B N f xs v S w' := by
  obtain ⟨ao, cap, h1, h2, h3⟩ := h
  exact ⟨ao, cap, h1, h2.agr h3 ha, h3⟩
def TV2 (B N : Nat) (f : Value → Value → Value) (xs ps : List Int) (v : Value) (S : Nat → Prop) (w : World) : Prop := ∃ ao ac bo bc, v = f (.slice ao xs.length ac) (.slice bo ps.length bc) ∧ Sees w (.slice ao xs.length ac) xs ∧ Sees w (.slice bo ps.length bc) ps ∧ OkS B N S (.slice ao xs.length ac) ∧ OkS B N S (.slice bo ps.length bc)
theorem TV2.stab {B N : Nat} {f : Value → Value → Value} {xs ps : List Int} {v : Value} {S : Nat → Prop} {w w' : World} (h : TV2 B N f xs ps v S w) (ha : Agr B N S w w') : TV2 B N f xs ps v S w' := by
  obtain ⟨ao, ac, bo, bc, h1, h2, h3, h4, h5⟩ := h
  exact ⟨ao, ac, bo, bc, h1, h2.agr h4 ha, h3.agr h5 ha, h4, h5⟩
section
variable {a : Act} {w : World} {K : Act → World → Prop} {Q : Exit → Act → World → Prop} {o : Oper}
theorem op_pickN {c x : Nat} {y : Operand} {v : Value} (hop : o.op = Op.pick (Operand.tmp c) y (Operand.tmp x)) (hc : a.tmps[c]?.getD undef = .bool false) (hx : a.tmps[x]?.getD undef = v) (hk : K (a.put o.dst v) w) : o.wp Tryz.prog a w K Q := by
  unfold Oper.wp
  simp [execOp, hop, go_sem, hc, hx]
  exact hk
end
end Go.Proofs.YtoefekkdjcflmaaGreatDoor

