/-
  The head of each statement on frame.
-/
import Derived.Test.YtnkghcbjokmooaaDoorFD5
namespace Go.Proofs.YtnkghcbjokmooaaDoor.Gr
open Go.RowKit Go.Sort Qm
set_option linter.unusedVariables false

theorem enc_bytes : vb ((encS 7 [5]).getD 0 0#8) = .int .u8 7 ∧ vb ((encS 7 [5]).getD 1 0#8) = .int .u8 0 ∧ vb ((encS 7 [5]).getD 8 0#8) = .int .u8 5 := ⟨by kernel_rfl, by kernel_rfl, by kernel_rfl⟩
set_option maxRecDepth 20000 in
set_option maxHeartbeats 1000000 in
theorem shown8 (w : World) (hG : Longs w) : Calls Tryd.prog 10 #[] w fun e w' => e = .returned (.bool true) ∧ Below w.heap.size w w' := by
  have cE := encode_yes 7 (.slice (some ⟨w.heap.size, 0, none⟩) 1 1) [5] (by kernel_rfl) _ (one64 w 5) (hG.below (box_below w _))
  have cL := fun (u : World) (h : Below w.heap.size w u) => long_any 8 u (hG.below h)
  have hL : longS 8 = 15 := rfl
  rw [hL] at cL
  have HL : Hid ((encS 7 [5]).length = 13) := encS_len 7 [5]
  have HB : Hid (vb ((encS 7 [5]).getD 0 0#8) = .int .u8 7 ∧ vb ((encS 7 [5]).getD 1 0#8) = .int .u8 0 ∧ vb ((encS 7 [5]).getD 8 0#8) = .int .u8 5) := enc_bytes
  generalize encS 7 [5] = Z at cE HL HB
  have b0 := box_below w (.cells #[.int .i64 5] 2)
  clear hG hL
  go_enter Tryd.func10, Tryd.ntmps10
  go_wp2_with (first
    | (go_at_call 11; refine cE.mono ?_; rintro e w1 ⟨g, G, rfl, ho, b1⟩; have hz : SeesB w1 (.slice (some ⟨g, 0, none⟩) 13 G) Z := Row.own ho; have B1 := bt b0 b1; have x0 : w1.cell? ⟨g, 0, none⟩ = some (.int .u8 7) := (by obtain ⟨_, e, _, c⟩ := hz.at 0 (by rw [HL.out]; decide); cases e; rw [HB.out.1] at c; exact c); have x1 : w1.cell? ⟨g, 1, none⟩ = some (.int .u8 0) := (by obtain ⟨_, e, _, c⟩ := hz.at 1 (by rw [HL.out]; decide); cases e; rw [HB.out.2.1] at c; exact c); have x8 : w1.cell? ⟨g, 8, none⟩ = some (.int .u8 5) := (by obtain ⟨_, e, _, c⟩ := hz.at 8 (by rw [HL.out]; decide); cases e; rw [HB.out.2.2] at c; exact c))
    | (go_at_call 17; refine (cL _ B1).mono ?_; rintro e w2 ⟨rfl, b2⟩))
  go_ret
  exact ⟨rfl, bt B1 b2⟩
end Go.Proofs.YtnkghcbjokmooaaDoor.Gr
