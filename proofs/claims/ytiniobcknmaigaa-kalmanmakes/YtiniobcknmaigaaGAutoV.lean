/-
  Values with one slice of numbers in them, or two, in a region; operations on them.
-/
import Derived.Test.YtiniobcknmaigaaG23
import Derived.Test.YtiniobcknmaigaaGRegW3
namespace Go.Proofs.Ytiniobcknmaigaa
open Go.RowKit Go.Sort Qm

def TV1 (B N : Nat) (f : Value → Value) (xs : List Int) (v : Value) (S : Nat → Prop) (w : World) : Prop := ∃ ao cap, v = f (.slice ao xs.length cap) ∧ Sees w (.slice ao xs.length cap) xs ∧ OkS B N S (.slice ao xs.length cap)
theorem TV1.stab {B N : Nat} {f : Value → Value} {xs : List Int} {v : Value} {S : Nat → Prop} {w w' : World} (h : TV1 B N f xs v S w) (ha : Agr B N S w w') : TV1 B N f xs v S w' := by
  obtain ⟨ao, cap, h1, h2, h3⟩ := h
  exact ⟨ao, cap, h1, h2.agr h3 ha, h3⟩
def TV2 (B N : Nat) (f : Value → Value → Value) (xs ps : List Int) (v : Value) (S : Nat → Prop) (w : World) : Prop := ∃ ao ac bo bc, v = f (.slice ao xs.length ac) (.slice bo ps.length bc) ∧ Sees w (.slice ao xs.length ac) xs ∧ Sees w (.slice bo ps.length bc) ps ∧ OkS B N S (.slice ao xs.length ac) ∧ OkS B N S (.slice bo ps.length bc)
theorem TV2.stab {B N : Nat} {f : Value → Value → Value} {xs ps : List Int} {v : Value} {S : Nat → Prop} {w w' : World} (h : TV2 B N f xs ps v S w) (ha : Agr B N S w w') : TV2 B N f xs ps v S w' := by
  obtain ⟨ao, ac, bo, bc, h1, h2, h3, h4, h5⟩ := h
  exact ⟨ao, ac, bo, bc, h1, h2.agr h4 ha, h3.agr h5 ha, h4, h5⟩
/-- a variable of a track, and a track laid in it -/
def TS2 (B N : Nat) (R C R' C' : Int) (xs ps : List Int) (u : Value) (S : Nat → Prop) (w : World) : Prop := ∃ D ao ac bo bc, u = .pointer (some ⟨D, 0, none⟩) ∧ S D ∧ B ≤ D ∧ w.heap[D]? = some (.cells #[.int .i64 R, .int .i64 C, .slice ao xs.length ac, .int .i64 R', .int .i64 C', .slice bo ps.length bc] 26 (0, 0)) ∧
  Sees w (.slice ao xs.length ac) xs ∧ Sees w (.slice bo ps.length bc) ps ∧ OkS B N S (.slice ao xs.length ac) ∧ OkS B N S (.slice bo ps.length bc)
theorem TS2.stab {B N : Nat} {R C R' C' : Int} {xs ps : List Int} {u : Value} {S : Nat → Prop} {w w' : World} (h : TS2 B N R C R' C' xs ps u S w) (ha : Agr B N S w w') : TS2 B N R C R' C' xs ps u S w' := by
  obtain ⟨D, ao, ac, bo, bc, h1, h2, h3, h4, h5, h6, h7, h8⟩ := h
  exact ⟨D, ao, ac, bo, bc, h1, h2, h3, (ha.2 D (.inl h2)).trans h4, h5.agr h7 ha, h6.agr h8 ha, h7, h8⟩
section
variable {a : Act} {w : World} {K : Act → World → Prop} {Q : Exit → Act → World → Prop} {o : Oper}
theorem op_fieldM0 {s b f : Nat} (hop : o.op = Op.fieldAddr 24 (Operand.tmp s) 0) (he : a.tmps[s]?.getD undef = .pointer (some ⟨b, f, none⟩)) (hk : K (a.put o.dst (.pointer (some ⟨b, f, none⟩))) w) : o.wp Try.prog a w K Q := by
  unfold Oper.wp
  simp [execOp, hop, go_sem, he]
  exact hk
theorem op_loadI {s b f : Nat} {n : Int} (hop : o.op = Op.load 3 (Operand.tmp s)) (he : a.tmps[s]?.getD undef = .pointer (some ⟨b, f, none⟩)) (hc : w.cell? ⟨b, f, none⟩ = some (.int .i64 n)) (hk : K (a.put o.dst (.int .i64 n)) w) : o.wp Try.prog a w K Q := by
  unfold Oper.wp
  simp [execOp, hop, go_sem, he, hc]
  exact hk
theorem op_call1c {f s : Nat} {v c : Value} {ts : Array TypeId} {R : Ending → World → Prop} (hF : ∀ (args : Array Value) (a : World), Sem.run Try.prog (callFunc f args) a = Result.ok (Next.enter f args) a) (hop : o.op = Op.call { callee := Callee.value (Operand.func f), args := #[Operand.tmp s, Operand.const c], argTypes := ts }) (hs : a.tmps[s]?.getD undef = v)
    (hc : Calls Try.prog f #[v, c] w R) (hk : ∀ e w', R e w' → ∃ x, e = .returned x ∧ K (a.put o.dst x) w') : o.wp Try.prog a w K Q := by
  unfold Oper.wp
  simp [execOp, hop, go_sem, hs, hF]
  refine hc.mono ?_
  intro e w' h
  obtain ⟨x, rfl, hx⟩ := hk e w' h
  exact hx
theorem op_pickO {c x : Nat} {v : Value} (hop : o.op = Op.pick (Operand.tmp c) (Operand.const v) (Operand.tmp x)) (hc : a.tmps[c]?.getD undef = .bool true) (hk : K (a.put o.dst v) w) : o.wp Try.prog a w K Q := by
  unfold Oper.wp
  simp [execOp, hop, go_sem, hc]
  exact hk
theorem op_pickN {c x : Nat} {y : Operand} {v : Value} (hop : o.op = Op.pick (Operand.tmp c) y (Operand.tmp x)) (hc : a.tmps[c]?.getD undef = .bool false) (hx : a.tmps[x]?.getD undef = v) (hk : K (a.put o.dst v) w) : o.wp Try.prog a w K Q := by
  unfold Oper.wp
  simp [execOp, hop, go_sem, hc, hx]
  exact hk
theorem op_eqlB {x y : Nat} {b c : Bool} (hop : o.op = Op.binOp BinOp.eql 4 (Operand.tmp x) (Operand.tmp y) 4) (hx : a.tmps[x]?.getD undef = .bool b) (hy : a.tmps[y]?.getD undef = .bool c) (hbc : b = c) (hk : K (a.put o.dst (.bool true)) w) : o.wp Try.prog a w K Q := by
  subst hbc
  unfold Oper.wp
  simp [execOp, hop, go_sem, hx, hy]
  exact hk
end
end Go.Proofs.Ytiniobcknmaigaa
