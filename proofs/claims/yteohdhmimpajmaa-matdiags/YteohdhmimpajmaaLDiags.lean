/-
  For every two rows of three bytes the Go function MatDiags returns true, and leaves its arguments.
  No condition besides those of the given statement.
-/
import Derived.Test.YteohdhmimpajmaaRows
import Derived.WalkKit
import Derived.ProofKit
import Derived.OpenShut
import Derived.ChangeOld
import Derived.Below
import Derived.Carry
import Derived.Test.YteohdhmimpajmaaArrA
import Derived.Test.YteohdhmimpajmaaMShown
import Derived.Test.YteohdhmimpajmaaWDiags
namespace Go.Proofs.Yteohdhmimpajmaa.matDiags
open Go.ChangeShapes Go.WideShapes Go.ChangeAt Go.RowKit
set_option linter.unusedVariables false      -- a walk need not use every 'w<i>' (that an integer argument fits its kind)

theorem laidOut : laidOutB Try.prog = true := by kernel_rfl
theorem own : ownKnob Try.prog.godebug = none := by kernel_rfl

/-! ### from the walk to the statement -/
set_option maxRecDepth 100000 in
theorem lifted (os : Os) (started : os.Started) (H : Type) (enc : TypeId × Value → H) :
    ReturnsInHanded {} Try.checked os 8 .any (Rows.matDiagsSpec.pre6 enc Try.prog Try.f8 Rows.matDiagsRow.domain false) (Rows.matDiagsSpec.post enc Try.prog Try.f8 false true false false) := by
  refine returnsInHanded_of_change (C := Try.checked) own started (by kernel_rfl) Try.func8
    (ChangeSpec.witness6 (enc := enc) (C := Try.checked) false ⟨#[], #[.agg #[.int .i8 0, .int .i8 0, .int .i8 0], .agg #[.int .i8 0, .int .i8 0, .int .i8 0]], []⟩ 8 (by kernel_rfl) (by kernel_rfl) (by kernel_rfl) (by kernel_rfl)) ?_
  intro W base args ds gs before hval0 hW hcnd _
  have hval : ∀ (j : Nat) t v, Try.f8.params[j]? = some t → args[j]? = some v → Value.okWide Try.prog W .any base t v := hval0
  have hW' := hW
  obtain ⟨p, q, hA0, hV, rfl, hfz, hnd⟩ := hW
  have hA : DataW.TrodAll enc Try.prog W 0 (fun _ => true) true Try.f8.params.toList args.toList ds p := hA0
  rw [Try.params8] at hA hval
  obtain ⟨v0, vs0, d0, ds0, p0, q0, hargs, rfl, rfl, h0, r0⟩ := trodAll_cons hA
  obtain ⟨v1, vs1, d1, ds1, p1, q1, rfl, rfl, rfl, h1, r1⟩ := trodAll_cons r0
  obtain ⟨rfl, rfl, rfl⟩ := trodAll_nil r1
  obtain rfl : args = #[v0, v1] := by cases args; simp_all
  obtain ⟨rfl, rfl⟩ := trodVars_none hV
  have h0k := h0
  obtain ⟨f0, hv0, rfl, wf0⟩ := row_open (n := 3) (e := 48) (k := .i8) (by kernel_rfl) (by kernel_rfl) (by kernel_rfl) (by kernel_rfl) (by decide) (hval 0 49 v0 rfl rfl) h0
  have hv0' : v0 = .agg #[.int .i8 (f0 0), .int .i8 (f0 1), .int .i8 (f0 2)] := hv0.trans (by congr 1)
  subst hv0'
  have h1k := h1
  obtain ⟨f1, hv1, rfl, wf1⟩ := row_open (n := 3) (e := 48) (k := .i8) (by kernel_rfl) (by kernel_rfl) (by kernel_rfl) (by kernel_rfl) (by decide) (hval 1 49 v1 rfl rfl) h1
  have hv1' : v1 = .agg #[.int .i8 (f1 0), .int .i8 (f1 1), .int .i8 (f1 2)] := hv1.trans (by congr 1)
  subst hv1'
  clear hA0 hval0
  simp only [List.append_nil] at hW'
  refine (matdiags_walk shown_any f0 f1 (fun i => bounds_i8 (wf0 i)) (fun i => bounds_i8 (wf1 i)) W).mono fun e W' ⟨he, bel⟩ => ?_
  subst he
  exact ⟨_, rfl, _, _, _, [], _, [], hW', (trodAll_cons_mk (shut_bool Try.underlying4 _) trodAll_mk0), (trodAll_cons_mk (Below.trod laidOut (by kernel_rfl) (of_decide_eq_true (by kernel_rfl)) h0k bel (by simp)) (trodAll_cons_mk (Below.trod laidOut (by kernel_rfl) (of_decide_eq_true (by kernel_rfl)) h1k bel (by simp)) trodAll_mk0)), rfl, bel.frame _, fun h => by cases h⟩

theorem over : Rows.matDiagsRow.holds Try.pinned (OpenSpec.ofChange Rows.matDiagsSpec) :=
  OpenClaim.holds_of_wide 8 Try.f8 rfl rfl rfl rfl rfl rfl rfl ⟨rfl, rfl, rfl, rfl, rfl⟩ rfl rfl rfl rfl rfl (by kernel_rfl) Try.func8 (by kernel_rfl)
    (of_decide_eq_true (by kernel_rfl)) (by unfold Func.isWrapper; first | (rw [if_pos (by decide +kernel)]; kernel_rfl) | (rw [if_neg (by decide +kernel)]; exact ⟨rfl, rfl⟩))
    (fun os started H enc _ => lifted os started H enc)
end Go.Proofs.Yteohdhmimpajmaa.matDiags

namespace Go.Proofs.Yteohdhmimpajmaa
/-- the given statement -/
theorem matDiags_holds : Rows.MatDiagsSaid := matDiags.over
#print axioms matDiags_holds
end Go.Proofs.Yteohdhmimpajmaa
