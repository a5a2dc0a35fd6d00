/-
  What is known of the values of the region of the code's New.
-/
import Derived.Test.YtiniobcknmaigaaKRRt
namespace Go.Proofs.Ytiniobcknmaigaa
open Go.RowKit Go.Sort Qm

section
variable {a : Act} {w : World} {K : Act → World → Prop} {Q : Exit → Act → World → Prop} {o : Oper}
theorem op_alloc26 (hop : o.op = Op.alloc 26) (hk : K (a.put o.dst (.pointer (some ⟨w.heap.size, 0, none⟩))) (w.alloc (.cells #[.int .i64 0, .int .i64 0, .slice none 0 0, .int .i64 0, .int .i64 0, .slice none 0 0] 26))) : o.wp Try.prog a w K Q := by
  unfold Oper.wp
  simp [execOp, hop, go_sem]
  exact hk
theorem op_lenQ {s n cap : Nat} {ao : Option Addr} (hty : o.type = 3) (hop : o.op = Op.call { callee := Callee.builtin Builtin.len, args := #[Operand.tmp s], argTypes := #[22] }) (hs : a.tmps[s]?.getD undef = .slice ao n cap) (hk : K (a.put o.dst (.int .i64 (n : Nat))) w) : o.wp Try.prog a w K Q := by
  unfold Oper.wp
  simp [execOp, hop, hty, go_sem, hs, Builtin.len_]
  exact hk
theorem op_buildM {s t : Nat} {r c : Int} {ao : Option Addr} {n cap : Nat} (hop : o.op = Op.build 24 #[(0, Operand.tmp s), (1, Operand.const (.int .i64 c)), (2, Operand.tmp t)]) (hs : a.tmps[s]?.getD undef = .int .i64 r) (ht : a.tmps[t]?.getD undef = .slice ao n cap) (hk : K (a.put o.dst (.agg #[.int .i64 r, .int .i64 c, .slice ao n cap])) w) : o.wp Try.prog a w K Q := by
  unfold Oper.wp
  simp [execOp, hop, go_sem, hs, ht]
  exact hk
end
def TNt (B : Nat) (r1 c1 r2 c2 : Int) (xs : List Int) (pv : Value) (v : Value) (S : Nat → Prop) (w : World) : Prop := ∃ ao ac, v = .agg #[.int .i64 r1, .int .i64 c1, .slice ao xs.length ac, .int .i64 r2, .int .i64 c2, pv] ∧ Sees w (.slice ao xs.length ac) xs ∧ ∀ k, (Value.slice ao xs.length ac).ownBlock = some k → S k ∧ B ≤ k
theorem TNt.stab {B B' N : Nat} {r1 c1 r2 c2 : Int} {xs : List Int} {pv v : Value} {S : Nat → Prop} {w w' : World} (h : TNt B r1 c1 r2 c2 xs pv v S w) (ha : Agr B' N S w w') : TNt B r1 c1 r2 c2 xs pv v S w' := by
  obtain ⟨ao, ac, h1, h2, h3⟩ := h
  exact ⟨ao, ac, h1, h2.agr (fun k hk => .inl (h3 k hk).1) ha, h3⟩
def TP6 (B : Nat) (v : Value) (S : Nat → Prop) (w : World) : Prop := ∃ D, v = .pointer (some ⟨D, 0, none⟩) ∧ S D ∧ B ≤ D ∧ ∃ x0 x1 x2 x3 x4 x5, w.heap[D]? = some (.cells #[x0, x1, x2, x3, x4, x5] 26 (0, 0))
theorem TP6.stab {B B' N : Nat} {v : Value} {S : Nat → Prop} {w w' : World} (h : TP6 B v S w) (ha : Agr B' N S w w') : TP6 B v S w' := by
  obtain ⟨D, h1, h2, h3, x0, x1, x2, x3, x4, x5, h4⟩ := h
  exact ⟨D, h1, h2, h3, x0, x1, x2, x3, x4, x5, (ha.2 D (.inl h2)).trans h4⟩
def TSn (B : Nat) (r1 c1 r2 c2 : Int) (xs : List Int) (pv u : Value) (S : Nat → Prop) (w : World) : Prop := ∃ D ao ac, u = .pointer (some ⟨D, 0, none⟩) ∧ S D ∧ B ≤ D ∧ w.heap[D]? = some (.cells #[.int .i64 r1, .int .i64 c1, .slice ao xs.length ac, .int .i64 r2, .int .i64 c2, pv] 26 (0, 0)) ∧ Sees w (.slice ao xs.length ac) xs ∧ ∀ k, (Value.slice ao xs.length ac).ownBlock = some k → S k ∧ B ≤ k
theorem TSn.stab {B B' N : Nat} {r1 c1 r2 c2 : Int} {xs : List Int} {pv u : Value} {S : Nat → Prop} {w w' : World} (h : TSn B r1 c1 r2 c2 xs pv u S w) (ha : Agr B' N S w w') : TSn B r1 c1 r2 c2 xs pv u S w' := by
  obtain ⟨D, ao, ac, h1, h2, h3, h4, h5, h6⟩ := h
  exact ⟨D, ao, ac, h1, h2, h3, (ha.2 D (.inl h2)).trans h4, h5.agr (fun k hk => .inl (h6 k hk).1) ha, h6⟩
end Go.Proofs.Ytiniobcknmaigaa
