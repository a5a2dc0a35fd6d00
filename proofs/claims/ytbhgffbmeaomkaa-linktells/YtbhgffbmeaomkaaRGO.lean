/-
  Ends: operations of regions that draw their order.
-/
import Derived.Test.YtbhgffbmeaomkaaRGL
import Derived.Test.YtbhgffbmeaomkaaLW
namespace Go.Proofs.Ytbhgffbmeaomkaa.Gr
open Go.RowKit Go.Sort Lm
set_option linter.unusedVariables false

section
variable {a : Act} {w : World} {K : Act → World → Prop} {Q : Exit → Act → World → Prop} {o : Oper}
theorem oL_ldL {s b : Nat} {x0 x1 x2 x4 : Int} {g : Option Addr} {n c : Nat} (hop : o.op = Op.load 24 (Operand.tmp s)) (he : a.tmps[s]?.getD undef = .pointer (some ⟨b, 0, none⟩)) (hc : w.cell? ⟨b, 0, none⟩ = some (.int .i64 x0) ∧ w.cell? ⟨b, 1, none⟩ = some (.int .i64 x1) ∧ w.cell? ⟨b, 2, none⟩ = some (.int .i64 x2) ∧ w.cell? ⟨b, 3, none⟩ = some (.slice g n c) ∧ w.cell? ⟨b, 4, none⟩ = some (.int .i64 x4)) (hk : K (a.put o.dst (.agg #[.int .i64 x0, .int .i64 x1, .int .i64 x2, .slice g n c, .int .i64 x4])) w) : o.wp Try.prog a w K Q := by
  obtain ⟨h0, h1, h2, h3, h4⟩ := hc
  unfold Oper.wp
  simp [execOp, hop, go_sem, he, h0, h1, h2, h3, h4]
  exact hk
theorem oL_move {s : Nat} {v : Value} (hop : o.op = Op.move (Operand.tmp s)) (he : a.tmps[s]?.getD undef = v) (hk : K (a.put o.dst v) w) : o.wp Try.prog a w K Q := by
  unfold Oper.wp
  simp [execOp, hop, go_sem, he]
  exact hk
theorem oL_assign {s : Nat} {v : Value} (hop : o.op = Op.assign (Operand.tmp s)) (he : a.tmps[s]?.getD undef = v) (hk : K (a.put o.dst v) w) : o.wp Try.prog a w K Q := by
  unfold Oper.wp
  simp [execOp, hop, go_sem, he]
  exact hk
theorem oL_ext0 {s : Nat} {x y : Value} (hop : o.op = Op.extract (Operand.tmp s) 0) (he : a.tmps[s]?.getD undef = .tuple #[x, y]) (hk : K (a.put o.dst x) w) : o.wp Try.prog a w K Q := by
  unfold Oper.wp
  simp [execOp, hop, go_sem, he]
  exact hk
theorem oL_ext1 {s : Nat} {x y : Value} (hop : o.op = Op.extract (Operand.tmp s) 1) (he : a.tmps[s]?.getD undef = .tuple #[x, y]) (hk : K (a.put o.dst y) w) : o.wp Try.prog a w K Q := by
  unfold Oper.wp
  simp [execOp, hop, go_sem, he]
  exact hk
theorem oL_ldI {s : Nat} {ad : Addr} {n : Int} (hop : o.op = Op.load 2 (Operand.tmp s)) (he : a.tmps[s]?.getD undef = .pointer (some ad)) (hc : w.cell? ad = some (.int .i64 n)) (hk : K (a.put o.dst (.int .i64 n)) w) : o.wp Try.prog a w K Q := by
  unfold Oper.wp
  simp [execOp, hop, go_sem, he, hc]
  exact hk
theorem oL_idx {s t : Nat} {ad : Addr} {n c k : Nat} (hkn : k < n) (hop : o.op = Op.indexAddr 22 (Operand.tmp s) (Operand.tmp t)) (hx : a.tmps[s]?.getD undef = .slice (some ad) n c) (hy : a.tmps[t]?.getD undef = .int .i64 (k : Int)) (hk : K (a.put o.dst (.pointer (some (ad.add k)))) w) : o.wp Try.prog a w K Q := by
  have h1 : (0 : Int) ≤ (k : Int) := by omega
  have h2 : (k : Int) < (n : Int) := by omega
  unfold Oper.wp
  simp [execOp, hop, go_sem, hx, hy, hkn]
  exact hk
theorem oL_out {s : Nat} {ts : Array TypeId} (hop : o.op = Op.call { callee := Callee.value (Operand.func 23), args := #[Operand.tmp s], argTypes := ts }) {v : Value} (hx : a.tmps[s]?.getD undef = v) {R : Ending → World → Prop} (hc : Calls Try.prog 23 #[v] w R)
    (hK : ∀ e w', R e w' → ∃ r, e = .returned r ∧ K (a.put o.dst r) w') : o.wp Try.prog a w K Q := by
  unfold Oper.wp
  simp [execOp, hop, go_sem, hx]
  refine hc.mono ?_
  intro e w' h
  obtain ⟨r, rfl, hr⟩ := hK e w' h
  exact hr
theorem oL_in {s t : Nat} {ts : Array TypeId} (hop : o.op = Op.call { callee := Callee.value (Operand.func 19), args := #[Operand.tmp s, Operand.tmp t], argTypes := ts }) {v u : Value} (hx : a.tmps[s]?.getD undef = v) (hy : a.tmps[t]?.getD undef = u) {R : Ending → World → Prop} (hc : Calls Try.prog 19 #[v, u] w R)
    (hK : ∀ e w', R e w' → ∃ r, e = .returned r ∧ K (a.put o.dst r) w') : o.wp Try.prog a w K Q := by
  unfold Oper.wp
  simp [execOp, hop, go_sem, hx, hy]
  refine hc.mono ?_
  intro e w' h
  obtain ⟨r, rfl, hr⟩ := hK e w' h
  exact hr
theorem oL_send {s t : Nat} {ts : Array TypeId} (hop : o.op = Op.call { callee := Callee.value (Operand.func 17), args := #[Operand.tmp s, Operand.tmp t], argTypes := ts }) {v u : Value} (hx : a.tmps[s]?.getD undef = v) (hy : a.tmps[t]?.getD undef = u) {R : Ending → World → Prop} (hc : Calls Try.prog 17 #[v, u] w R)
    (hK : ∀ e w', R e w' → ∃ r, e = .returned r ∧ K (a.put o.dst r) w') : o.wp Try.prog a w K Q := by
  unfold Oper.wp
  simp [execOp, hop, go_sem, hx, hy]
  refine hc.mono ?_
  intro e w' h
  obtain ⟨r, rfl, hr⟩ := hK e w' h
  exact hr
theorem oL_stL {s t b : Nat} {x0 x1 x2 x4 : Int} {g : Option Addr} {n c : Nat} {tt : TypeId} (hop : o.op = Op.store 24 (Operand.tmp s) (Operand.tmp t)) (he : a.tmps[s]?.getD undef = .pointer (some ⟨b, 0, none⟩)) (hv : a.tmps[t]?.getD undef = .agg #[.int .i64 x0, .int .i64 x1, .int .i64 x2, .slice g n c, .int .i64 x4]) {z0 z1 z2 z3 z4 : Value} (hc : w.heap[b]? = some (.cells #[z0, z1, z2, z3, z4] tt (0, 0))) (hk : K (a.put o.dst undef) (((((w.setCell ⟨b, 0, none⟩ (.int .i64 x0)).setCell ⟨b, 1, none⟩ (.int .i64 x1)).setCell ⟨b, 2, none⟩ (.int .i64 x2)).setCell ⟨b, 3, none⟩ (.slice g n c)).setCell ⟨b, 4, none⟩ (.int .i64 x4))) : o.wp Try.prog a w K Q := by
  obtain ⟨h0, h1, h2, h3, h4⟩ := five_cells hc
  have f0 := not_frozen5 hc 0
  have f1 := not_frozen5 hc 1
  have f2 := not_frozen5 hc 2
  have f3 := not_frozen5 hc 3
  have f4 := not_frozen5 hc 4
  unfold Oper.wp
  simp [execOp, hop, go_sem, he, hv, h0, h1, h2, h3, h4, f0, f1, f2, f3, f4]
  exact hk
end
end Go.Proofs.Ytbhgffbmeaomkaa.Gr
