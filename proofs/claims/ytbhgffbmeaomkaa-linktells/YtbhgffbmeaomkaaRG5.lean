/-
  Ends: operations of the region in which the document's In copies the end.
-/
import Derived.Test.YtbhgffbmeaomkaaRGA
import Derived.ArgAppend
namespace Go.Proofs.Ytbhgffbmeaomkaa.Gr
open Go.RowKit Go.Sort Lm
set_option linter.unusedVariables false

section
variable {a : Act} {w : World} {K : Act → World → Prop} {Q : Exit → Act → World → Prop} {o : Oper}
theorem o5_fL {s b : Nat} (k : Nat) (hk5 : k = 0 ∨ k = 1 ∨ k = 2 ∨ k = 3 ∨ k = 4) (hop : o.op = Op.fieldAddr 24 (Operand.tmp s) k) (he : a.tmps[s]?.getD undef = .pointer (some ⟨b, 0, none⟩)) (hk : K (a.put o.dst (.pointer (some ⟨b, k, none⟩))) w) : o.wp Try.prog a w K Q := by
  unfold Oper.wp
  rcases hk5 with rfl | rfl | rfl | rfl | rfl
  all_goals
    simp [execOp, hop, go_sem, he]
    exact hk
theorem o5_ldS {s b f : Nat} {ao : Option Addr} {n cap : Nat} (hop : o.op = Op.load 22 (Operand.tmp s)) (he : a.tmps[s]?.getD undef = .pointer (some ⟨b, f, none⟩)) (hc : w.cell? ⟨b, f, none⟩ = some (.slice ao n cap)) (hk : K (a.put o.dst (.slice ao n cap)) w) : o.wp Try.prog a w K Q := by
  unfold Oper.wp
  simp [execOp, hop, go_sem, he, hc]
  exact hk
theorem o5_bs (hop : o.op = Op.buildSlice 22 0 #[]) (hk : K (a.put o.dst (.slice (some ⟨w.heap.size, 0, none⟩) 0 0)) (w.alloc (.cells #[] 2))) : o.wp Try.prog a w K Q := by
  unfold Oper.wp
  simp [execOp, hop, go_sem]
  exact hk
theorem o5_build {s0 s1 s2 s3 s4 : Nat} {x0 x1 x2 x4 : Int} {g : Option Addr} {n c : Nat} (hop : o.op = Op.build 24 #[(0, Operand.tmp s0), (1, Operand.tmp s1), (2, Operand.tmp s2), (4, Operand.tmp s4), (3, Operand.tmp s3)]) (h0 : a.tmps[s0]?.getD undef = .int .i64 x0) (h1 : a.tmps[s1]?.getD undef = .int .i64 x1) (h2 : a.tmps[s2]?.getD undef = .int .i64 x2) (h3 : a.tmps[s3]?.getD undef = .slice g n c) (h4 : a.tmps[s4]?.getD undef = .int .i64 x4)
    (hk : K (a.put o.dst (.agg #[.int .i64 x0, .int .i64 x1, .int .i64 x2, .slice g n c, .int .i64 x4])) w) : o.wp Try.prog a w K Q := by
  unfold Oper.wp
  simp [execOp, hop, go_sem, h0, h1, h2, h3, h4]
  exact hk
theorem o5_app {s t : Nat} {e : Addr} {vx : Value} {zs : List Int} (hop : o.op = Op.call { callee := Callee.builtin Builtin.append, args := #[Operand.tmp s, Operand.tmp t], argTypes := #[22, 22] }) (hs : a.tmps[s]?.getD undef = .slice (some e) 0 0) (hx : a.tmps[t]?.getD undef = vx) (sx : SeesI w vx zs) (hl : zs.length ≤ 1000)
    (hK : ∀ g c w', SeesI w' (.slice g zs.length c) zs → (zs = [] ∧ g = some e) ∨ New w.heap.size (.slice g zs.length c) → Below w.heap.size w w' → K (a.put o.dst (.slice g zs.length c)) w') : o.wp Try.prog a w K Q := by
  obtain ⟨i0, hi, hz0, hz1, hz2⟩ := info_parts info2
  obtain ⟨ao, cap, rfl⟩ := sx.slice
  have hs' : a.eval (Operand.tmp s) = .slice (some e) 0 0 := by simpa [Act.eval] using hs
  have hx' : a.eval (Operand.tmp t) = .slice ao zs.length cap := by simpa [Act.eval] using hx
  by_cases hzs : zs = []
  · subst hzs
    have hr : (Builtin.append_ #[22, 22] o.type #[.slice (some e) 0 0, .slice ao 0 cap]).run Try.prog w = .ok (.slice (some e) 0 0) w := by
      cases ao <;> simp [Builtin.append_, run_underlying under22, sizeOf, typeInfo, hi, Builtin.lenOf, Builtin.firstCells, loadCells, loadCellsFrom, storeCells]
    rw [show ([] : List Int).length = 0 from rfl] at hx'
    unfold Oper.wp
    simp [execOp, hop, resolve, invoke, builtin, hs', hx', hr, Result.andThen]
    exact hK (some e) 0 w ⟨some e, 0, rfl, ⟨Nat.le_refl _, fun h => by cases h⟩, fun k u hu => by simp at hu⟩ (.inl ⟨rfl, rfl⟩) (Below.refl _ _)
  · obtain ⟨ad, rfl, _, _⟩ := sx.at 0 (List.length_pos_iff.2 hzs)
    obtain ⟨v', w', hrun, r1, r2⟩ := run_append_arg_grows (P := Try.prog) w 22 o.type 2 i0 (.int .i64 0) 1 8 under22 hi hz0 hz1 hz2 rfl (by decide) e 0 0 [] (by simp) (fun j u h => by simp at h) ad zs.length cap (zs.map vw) (by simp) (seesI_cells sx) (by have := List.length_pos_iff.2 hzs; omega) (by unfold maxLen; omega) (by omega)
    unfold Oper.wp
    simp [execOp, hop, resolve, invoke, builtin, hs', hx', hrun, Result.andThen]
    have r1' : w'.ownsRow w.heap.size 2 1 v' zs.length (zs.map vw) := by simpa using r1
    obtain ⟨g, c, rfl⟩ := own_any r1'
    exact hK g c w' (SeesI.own r1') (.inr fun k ek => (r1'.lt k ek).1) (gb_none r2)
end
/-- behind the call, where it answered a row of none -/
theorem IoS.called0 {w0 w : World} {ss : List Int} {res res' : Array Value} {v1 v2 v1' : Value} {Dn : Nat} {la : Bool} (h : IoS w0 ss [] res v1 v2 Dn false la false w) (e : ss = []) (h1 : SeesI w v1' ss) (n1 : New w0.heap.size v1') :
    IoS w0 ss [] res' v1' (.slice none 0 0) Dn true la false w :=
  ⟨h.b, fun _ => ⟨h1, n1⟩, fun _ => ⟨Row.nil _, fun k e => by cases e⟩, h.d, h.z, fun e => (by cases e), fun _ _ => ⟨.inl e, .inl rfl⟩⟩
end Go.Proofs.Ytbhgffbmeaomkaa.Gr
