/-
  Operations on the fields of a track's matrices.
-/
import Derived.Test.YtiniobcknmaigaaKRetV
import Derived.Test.YtiniobcknmaigaaKCopy
import Derived.Test.YtiniobcknmaigaaRegW2
namespace Go.Proofs.Ytiniobcknmaigaa
open Go.RowKit Go.Sort Qm

section
variable {a : Act} {w : World} {K : Act → World → Prop} {Q : Exit → Act → World → Prop} {o : Oper}
theorem op_fieldM2 {s b f : Nat} (hop : o.op = Op.fieldAddr 24 (Operand.tmp s) 2) (he : a.tmps[s]?.getD undef = .pointer (some ⟨b, f, none⟩)) (hk : K (a.put o.dst (.pointer (some ⟨b, f + 2, none⟩))) w) : o.wp Try.prog a w K Q := by
  unfold Oper.wp
  simp [execOp, hop, go_sem, he]
  exact hk
theorem op_loadS {s b f : Nat} {ao : Option Addr} {n cap : Nat} (hop : o.op = Op.load 22 (Operand.tmp s)) (he : a.tmps[s]?.getD undef = .pointer (some ⟨b, f, none⟩)) (hc : w.cell? ⟨b, f, none⟩ = some (.slice ao n cap)) (hk : K (a.put o.dst (.slice ao n cap)) w) : o.wp Try.prog a w K Q := by
  unfold Oper.wp
  simp [execOp, hop, go_sem, he, hc]
  exact hk
theorem op_storeS {p f b q : Nat} {ao : Option Addr} {n cap : Nat} {x : Value} (hd : o.dst = none) (hop : o.op = Op.store 22 (Operand.tmp p) (Operand.tmp f)) (hp : a.tmps[p]?.getD undef = .pointer (some ⟨b, q, none⟩)) (hf : a.tmps[f]?.getD undef = .slice ao n cap)
    (hc : w.cell? ⟨b, q, none⟩ = some x) (hz : w.frozen? ⟨b, q, none⟩ = false) (hk : K a (w.setCell ⟨b, q, none⟩ (.slice ao n cap))) : o.wp Try.prog a w K Q := by
  unfold Oper.wp
  simp [execOp, hop, go_sem, hp, hf, hc, hz, hd]
  exact hk
end
/-- new numbers -/
def TNum (B : Nat) (xs : List Int) (v : Value) (S : Nat → Prop) (w : World) : Prop := ∃ ao cap, v = .slice ao xs.length cap ∧ Sees w v xs ∧ ∀ k, v.ownBlock = some k → S k ∧ B ≤ k
theorem TNum.stab {B B' N : Nat} {xs : List Int} {v : Value} {S : Nat → Prop} {w w' : World} (h : TNum B xs v S w) (ha : Agr B' N S w w') : TNum B xs v S w' := by
  obtain ⟨ao, cap, h1, h2, h3⟩ := h
  exact ⟨ao, cap, h1, h2.agr (fun k hk => .inl (h3 k hk).1) ha, h3⟩
/-- the copy's first half laid -/
def THalf (N : Nat) (n1 c1 n2 c2 : Int) (old u : Value) (S : Nat → Prop) (w : World) : Prop := S N ∧ w.heap[N]? = some (.cells #[.int .i64 n1, .int .i64 c1, u, .int .i64 n2, .int .i64 c2, old] 26 (0, 0))
theorem THalf.stab {B N N' : Nat} {n1 c1 n2 c2 : Int} {old u : Value} {S : Nat → Prop} {w w' : World} (h : THalf N n1 c1 n2 c2 old u S w) (ha : Agr B N' S w w') : THalf N n1 c1 n2 c2 old u S w' := ⟨h.1, (ha.2 N (.inl h.1)).trans h.2⟩
/-- both laid -/
def TBoth (B N : Nat) (n1 c1 n2 c2 : Int) (xs ps : List Int) (u : Value) (S : Nat → Prop) (w : World) : Prop := S N ∧ ∃ ao ac bo bc, u = .slice bo ps.length bc ∧ w.heap[N]? = some (.cells #[.int .i64 n1, .int .i64 c1, .slice ao xs.length ac, .int .i64 n2, .int .i64 c2, .slice bo ps.length bc] 26 (0, 0)) ∧
  Sees w (.slice ao xs.length ac) xs ∧ Sees w (.slice bo ps.length bc) ps ∧ (∀ k, (Value.slice ao xs.length ac).ownBlock = some k → S k ∧ B ≤ k) ∧ ∀ k, (Value.slice bo ps.length bc).ownBlock = some k → S k ∧ B ≤ k
theorem TBoth.stab {B B' N N' : Nat} {n1 c1 n2 c2 : Int} {xs ps : List Int} {u : Value} {S : Nat → Prop} {w w' : World} (h : TBoth B N n1 c1 n2 c2 xs ps u S w) (ha : Agr B' N' S w w') : TBoth B N n1 c1 n2 c2 xs ps u S w' := by
  obtain ⟨h0, ao, ac, bo, bc, h1, h2, h3, h4, h5, h6⟩ := h
  exact ⟨h0, ao, ac, bo, bc, h1, (ha.2 N (.inl h0)).trans h2, h3.agr (fun k hk => .inl (h5 k hk).1) ha, h4.agr (fun k hk => .inl (h6 k hk).1) ha, h5, h6⟩
end Go.Proofs.Ytiniobcknmaigaa
