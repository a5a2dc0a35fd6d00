/-
  The head of each statement on delta; DeltaLong.
-/
import Derived.Test.YtehlibeedieclaaDE
namespace Go.Proofs.Ytehlibeedieclaa.Gr
open Go.RowKit Go.Sort Dm

theorem ex_diff : diffS [5, 6, 7] [5, 9, 7] = [2, 9] := by decide
set_option maxRecDepth 20000 in
set_option maxHeartbeats 1000000 in
theorem shown9 (w : World) : Calls Try.prog 9 #[] w fun e w' => e = .returned (.bool true) ∧ Below w.heap.size w w' := by
  have l1 := (lit64 w [5, 6, 7] w.heap.size 3 rfl rfl #[.int .i64 5, .int .i64 6, .int .i64 7] rfl).below (box_below _ (.cells #[.int .i64 5, .int .i64 9, .int .i64 7] 2))
  have l2 := lit64 (w.alloc (.cells #[.int .i64 5, .int .i64 6, .int .i64 7] 2)) [5, 9, 7] (w.heap.size + 1) 3 (by simp) rfl #[.int .i64 5, .int .i64 9, .int .i64 7] rfl
  have cD := diff_yes _ _ [5, 6, 7] [5, 9, 7] _ rfl (by decide) l1 l2
  rw [ex_diff] at cD
  have b0 := bt (box_below w (.cells #[.int .i64 5, .int .i64 6, .int .i64 7] 2)) (box_below _ (.cells #[.int .i64 5, .int .i64 9, .int .i64 7] 2))
  have cM := fun (u : World) => many_any 9 (by decide) (by decide) u
  have e9 : piS 9 8 = 2 := by decide
  rw [e9] at cM
  clear l1 l2 e9
  go_enter Try.func9, Try.ntmps9
  go_wp2_with (first
    | (go_at_call 10; go_must (refine cD.mono ?_); rintro e w1 ⟨v, rfl, ho, b1⟩; obtain ⟨g, c, rfl⟩ := own_slice ho (by decide); have B1 := bt b0 b1; have x0 : w1.cell? ⟨g, 0, none⟩ = some (.int .i64 2) := ho.cellAt 0 (by decide); have x1 : w1.cell? ⟨g, 1, none⟩ = some (.int .i64 9) := ho.cellAt 1 (by decide))
    | (go_at_call 17; refine (cM _).mono ?_; rintro e w2 ⟨rfl, b2⟩))
  go_ret
  exact ⟨rfl, bt B1 b2⟩
end Go.Proofs.Ytehlibeedieclaa.Gr
