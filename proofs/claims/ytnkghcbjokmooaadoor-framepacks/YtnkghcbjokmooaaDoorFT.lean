/-
  What the program's table of the kinds' lengths reads as when the call begins.
-/
import Derived.Test.YtnkghcbjokmooaaDoorFL
import Derived.WalkKit
import Derived.ProofKit
import Derived.OpenShut
import Derived.ChangeOld
import Derived.Below
import Derived.Carry
import Derived.LaidMore
import Derived.Stop.Joined
namespace Go.Proofs.YtnkghcbjokmooaaDoor.Gr
open Go.ChangeShapes Go.WideShapes Go.ChangeAt Go.RowKit Qm

theorem gLongs : Tryd.prog.globalNamed "alidade/frame.longs" = some 0 := by kernel_rfl
theorem tLongs : (Tryd.prog.globals[0]?).map (·.type) = some 67 := by kernel_rfl
theorem u67 : Tryd.prog.underlying 67 = some (.array 9 3) := by kernel_rfl
theorem uI : Tryd.prog.underlying 3 = some (.int .i64) := by kernel_rfl
theorem cI : Tryd.prog.cellsOf 3 = 1 := by kernel_rfl
theorem longs_of_laid {W : World} (h : laidMetH Tryd.prog [("alidade/frame.longs", Rows.laid_alidade_frame_longs)] W) : Longs W := by
  rw [MakeChecks.laidMetH_plain _ _ _ (by kernel_rfl)] at h
  obtain ⟨ps, ⟨g0, t0, cs0, f0, p0, q0, hg0, ht0, hv0, hd0, _⟩, _⟩ := h
  obtain rfl := Option.some.inj (gLongs.symm.trans hg0)
  obtain rfl := Option.some.inj (tLongs.symm.trans ht0)
  obtain ⟨xs, m, rfl, hx, hlen, hn, hel⟩ := DataW.trod_array u67 hd0
  intro k hk
  rw [World.var?_cell hg0 hv0 k]
  have h1 := hel k hk
  rw [cI, List.getElem?_eq_getElem (by omega)] at h1
  obtain ⟨z, e1, e2, _⟩ := DataW.trod_int uI h1
  have hz : z = longS k := by
    simp only [Rows.laid_alidade_frame_longs, Prod.mk.injEq, DataW.agg.injEq] at hx
    have hx1 : xs[k].1 = ([.lit (.int .i64 0), .lit (.int .i64 3), .lit (.int .i64 8), .lit (.int .i64 8), .lit (.int .i64 5), .lit (.int .i64 18), .lit (.int .i64 4), .lit (.int .i64 1), .lit (.int .i64 15)] : List (DataW Unit)).getD k .nil := by
      rw [hx.1]; simp [List.getD, List.getElem?_eq_getElem (show k < xs.length by omega)]
    rw [e2] at hx1
    rcases (by omega : k = 0 ∨ k = 1 ∨ k = 2 ∨ k = 3 ∨ k = 4 ∨ k = 5 ∨ k = 6 ∨ k = 7 ∨ k = 8) with rfl | rfl | rfl | rfl | rfl | rfl | rfl | rfl | rfl <;> (simp at hx1; subst hx1; rfl)
  rw [← hz]
  have e3 : cs0.toList[k]? = some (.int .i64 z) := by
    have h0 := congrArg (fun l => l[0]?) e1
    simpa using h0
  simpa using e3

/-- The door's own heap meets the condition. -/
theorem door_met (os : Os) (args : Array Value) : laidMetH Tryd.prog [("alidade/frame.longs", Rows.laid_alidade_frame_longs)] ((World.doorLaid Tryd.prog 14 os).forCall (fun _ _ => 0) ⟨#[], args, []⟩).memory :=
  laidMetH_of_parts3 (fuel := 8) (laidMet_of_run' 8 (by kernel_rfl) (by kernel_rfl)) (by kernel_rfl) (by kernel_rfl)
end Go.Proofs.YtnkghcbjokmooaaDoor.Gr
