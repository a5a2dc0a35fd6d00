/-
  The head of every statement of layer 10: the document's example.
-/
import Derived.Test.YtcfobifldlkfnaaNTo
import Derived.Test.YtcfobifldlkfnaaNR
import Derived.Test.YtcfobifldlkfnaaNSr
namespace Go.Proofs.Ytcfobifldlkfnaa.Gr
open Go.RowKit Go.Sort Qm Nm
set_option linter.unusedVariables false
namespace Nm
/-- a store with nothing in it -/
def nvz0 : Nv := ⟨[], 0, [], 0⟩
theorem whS_nil (c : Int) : whS [] c = false := rfl
theorem plc_z : plc nvz0 = -1 := rfl
theorem numS_z : numS nvz0 = 0 := rfl
theorem isS_z : isS nvz0 = false := rfl
/-- what is written into it -/
def first (ws : List Int) : Nv := ⟨1 :: ws, comS (1 :: ws), [], 0⟩
theorem big_z {ws : List Int} (h : ws.length ≤ 600) : bigS nvz0 ws = false := by
  unfold bigS; rw [numS_z, decide_eq_false (by omega)]; rfl
theorem write_z {ws : List Int} (h : ws.length ≤ 600) : writeS nvz0 ws = first ws ∧ errS nvz0 ws = 0 := by
  unfold writeS errS
  rw [big_z h]
  exact ⟨rfl, rfl⟩
theorem read_first {ws : List Int} (h : ws.length ≤ 600) : isS (first ws) = true ∧ numS (first ws) = 1 ∧ keptS (first ws) = ws := by
  have := read_write (big_z h)
  rw [(write_z h).1] at this
  exact this
end Nm
theorem sees_z (w : World) : SeesN w (.agg #[.slice none 0 0, .int .i64 0, .slice none 0 0, .int .i64 0]) nvz0 := ⟨_, _, rfl, Row.nil w, Row.nil w⟩
set_option maxRecDepth 20000 in
set_option maxHeartbeats 2000000 in
theorem shown10 (w : World) : Calls Try.prog 10 #[] w fun e w' => e = .returned (.bool true) ∧ Below w.heap.size w w' := by
  have cW := fun (u : World) (vw' : Value) (h : SeesI u vw' [5]) => write_any _ vw' nvz0 [5] u (by decide) (by decide) (by decide) (sees_z u) h
  obtain ⟨e1, e2⟩ := write_z (ws := [5]) (by decide)
  rw [e1, e2] at cW
  have cR := fun (u : World) (v : Value) (h : SeesN u v (first [5])) => read_any v (first [5]) u (by decide) (by decide) h
  obtain ⟨e3, e4, e5⟩ := read_first (ws := [5]) (by decide)
  rw [e3, e4, e5] at cR
  have cS := fun (u : World) (v : Value) (h : SeesI u v [5]) => steps_any v [5] u (by decide) h
  have hF : first [5] = ⟨[1, 5], comS [1, 5], [], 0⟩ := rfl
  rw [hF] at cW cR
  generalize comS [1, 5] = CM at cW cR
  clear e1 e2 e3 e4 e5 hF
  go_enter Try.func10, Try.ntmps10
  go_wp2_with (first
    | (go_at_call 14; go_must (refine (cW _ _ (one64 w 5)).mono ?_); rintro e w2 ⟨v2, rfl, ⟨x, y, rfl, sx, sy, _, _⟩, b2⟩; have sx' : SeesI w2 x [1, 5] := sx; have sy' : SeesI w2 y [] := sy; obtain ⟨xo, xcap, hx⟩ := sx'.slice; obtain ⟨yo, ycap, hy⟩ := sy'.slice; have hx' : x = .slice xo 2 xcap := hx; have hy' : y = .slice yo 0 ycap := hy; clear hx hy sx sy; subst hx'; subst hy'; have bb2 := bt (box_below w _) b2)
    | (go_at_call 12; go_must (refine (cR _ _ ⟨_, _, rfl, sx'.below (box_below _ _), sy'.below (box_below _ _)⟩).mono ?_); rintro e w3 ⟨vr, rfl, sr, b3⟩; obtain ⟨ro, rcap, hr⟩ := sr.slice; have hr' : vr = .slice ro 1 rcap := hr; clear hr; subst hr'; obtain ⟨ad, hao, _, ca⟩ := hd_cell sr (by decide); subst hao; have ca' : w3.cell? ad = some (.int .i64 5) := ca; obtain ⟨q1, q2, q3, q4⟩ := four_cells (keep b3 (heap_new w2 _)); have bb3 := bt (bt bb2 (box_below w2 _)) b3)
    | (go_at_call 23; go_must (refine (cS _ _ sr).mono ?_); rintro e w4 ⟨rfl, rfl⟩))
  go_ret
  exact ⟨rfl, bb3⟩
end Go.Proofs.Ytcfobifldlkfnaa.Gr
