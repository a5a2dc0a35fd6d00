/-
  What is known of the values of a region that puts a track together and lays it into a variable (N).
-/
import Derived.Test.YtiniobcknmaigaaKREnt
namespace Go.Proofs.Ytiniobcknmaigaa
open Go.RowKit Go.Sort Qm

/-- a track, its numbers in S or in old memory -/
def TTrk (B N Lo : Nat) (R C R' C' : Int) (xs ps : List Int) (v : Value) (S : Nat → Prop) (w : World) : Prop := ∃ ao ac bo bc, v = .agg #[.int .i64 R, .int .i64 C, .slice ao xs.length ac, .int .i64 R', .int .i64 C', .slice bo ps.length bc] ∧
  Sees w (.slice ao xs.length ac) xs ∧ Sees w (.slice bo ps.length bc) ps ∧ OkS B N S (.slice ao xs.length ac) ∧ OkS B N S (.slice bo ps.length bc) ∧ New Lo (.slice ao xs.length ac) ∧ New Lo (.slice bo ps.length bc)
theorem TTrk.stab {B N Lo : Nat} {R C R' C' : Int} {xs ps : List Int} {v : Value} {S : Nat → Prop} {w w' : World} (h : TTrk B N Lo R C R' C' xs ps v S w) (ha : Agr B N S w w') : TTrk B N Lo R C R' C' xs ps v S w' := by
  obtain ⟨ao, ac, bo, bc, h1, h2, h3, h4, h5⟩ := h
  exact ⟨ao, ac, bo, bc, h1, h2.agr h4 ha, h3.agr h5.1 ha, h4, h5⟩
/-- it, laid into the variable N -/
def TStT (B N Lo : Nat) (R C R' C' : Int) (xs ps : List Int) (S : Nat → Prop) (w : World) : Prop := S N ∧ ∃ ao ac bo bc, w.heap[N]? = some (.cells #[.int .i64 R, .int .i64 C, .slice ao xs.length ac, .int .i64 R', .int .i64 C', .slice bo ps.length bc] 26 (0, 0)) ∧
  Sees w (.slice ao xs.length ac) xs ∧ Sees w (.slice bo ps.length bc) ps ∧ OkS B N S (.slice ao xs.length ac) ∧ OkS B N S (.slice bo ps.length bc) ∧ New Lo (.slice ao xs.length ac) ∧ New Lo (.slice bo ps.length bc)
theorem TStT.stab {B N Lo : Nat} {R C R' C' : Int} {xs ps : List Int} {S : Nat → Prop} {w w' : World} (h : TStT B N Lo R C R' C' xs ps S w) (ha : Agr B N S w w') : TStT B N Lo R C R' C' xs ps S w' := by
  obtain ⟨h0, ao, ac, bo, bc, h1, h2, h3, h4, h5⟩ := h
  exact ⟨h0, ao, ac, bo, bc, (ha.2 N (.inl h0)).trans h1, h2.agr h4 ha, h3.agr h5.1 ha, h4, h5⟩
theorem mod_six {w : World} {N : Nat} (y0 y1 y2 y3 y4 y5 : Value) : Mod (fun b => b = N) w ((((((w.setCell ⟨N, 0, none⟩ y0).setCell ⟨N, 1, none⟩ y1).setCell ⟨N, 2, none⟩ y2).setCell ⟨N, 3, none⟩ y3).setCell ⟨N, 4, none⟩ y4).setCell ⟨N, 5, none⟩ y5) :=
  Mod.ofGb (gb_set (gb_set (gb_set (gb_set (gb_set (gb_set (gb_refl w (some N)) 0 y0) 1 y1) 2 y2) 3 y3) 4 y4) 5 y5)
section
variable {a : Act} {w : World} {K : Act → World → Prop} {Q : Exit → Act → World → Prop} {o : Oper}
theorem op_loadT {s b : Nat} {R c R' c' : Int} {ao bo : Option Addr} {n cap m bcap : Nat} (hop : o.op = Op.load 26 (Operand.tmp s)) (he : a.tmps[s]?.getD undef = .pointer (some ⟨b, 0, none⟩))
    (hb : w.heap[b]? = some (.cells #[.int .i64 R, .int .i64 c, .slice ao n cap, .int .i64 R', .int .i64 c', .slice bo m bcap] 26 (0, 0)))
    (hk : K (a.put o.dst (.agg #[.int .i64 R, .int .i64 c, .slice ao n cap, .int .i64 R', .int .i64 c', .slice bo m bcap])) w) : o.wp Try.prog a w K Q := by
  have h : w.cell? ⟨b, 0, none⟩ = some (.int .i64 R) ∧ w.cell? ⟨b, 1, none⟩ = some (.int .i64 c) ∧ w.cell? ⟨b, 2, none⟩ = some (.slice ao n cap) ∧ w.cell? ⟨b, 3, none⟩ = some (.int .i64 R') ∧ w.cell? ⟨b, 4, none⟩ = some (.int .i64 c') ∧ w.cell? ⟨b, 5, none⟩ = some (.slice bo m bcap) := by simp [World.cell?, hb]
  obtain ⟨c0, c1, c2, c3, c4, c5⟩ := h
  unfold Oper.wp
  simp [execOp, hop, go_sem, he, c0, c1, c2, c3, c4, c5]
  exact hk
theorem op_fieldN {s b : Nat} (hop : o.op = Op.fieldAddr 77 (Operand.tmp s) 0) (he : a.tmps[s]?.getD undef = .pointer (some ⟨b, 0, none⟩)) (hk : K (a.put o.dst (.pointer (some ⟨b, 0, none⟩))) w) : o.wp Try.prog a w K Q := by
  unfold Oper.wp
  simp [execOp, hop, go_sem, he]
  exact hk
theorem op_loadB {s b : Nat} {v : Bool} (hop : o.op = Op.load 4 (Operand.tmp s)) (he : a.tmps[s]?.getD undef = .pointer (some ⟨b, 0, none⟩)) (hc : w.cell? ⟨b, 0, none⟩ = some (.bool v)) (hk : K (a.put o.dst (.bool v)) w) : o.wp Try.prog a w K Q := by
  unfold Oper.wp
  simp [execOp, hop, go_sem, he, hc]
  exact hk
end
end Go.Proofs.Ytiniobcknmaigaa
