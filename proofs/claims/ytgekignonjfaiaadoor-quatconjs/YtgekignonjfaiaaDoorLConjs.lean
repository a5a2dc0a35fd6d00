/-
  For every two rows of four bytes the Go function QuatConjs returns true, and leaves its arguments.
  The program's table of the products that are turned round reads as its own initialiser lays it (the card ties it to the program's text); no condition besides those of the given statement.
-/
import Derived.Test.YtgekignonjfaiaaDoorRows
import Derived.Test.YtgekignonjfaiaaDoorCards
import Derived.Test.YtgekignonjfaiaaDoorTie
import Derived.Test.YtgekignonjfaiaaDoorQL
import Derived.Test.YtgekignonjfaiaaDoorWConjs
import Derived.SevenTiedAt
namespace Go.Proofs.YtgekignonjfaiaaDoor.quatConjs
open Go.ChangeShapes Go.WideShapes Go.ChangeAt Go.RowKit
set_option linter.unusedVariables false

theorem laidOut : laidOutB Tryd.prog = true := by kernel_rfl
theorem own : ownKnob Tryd.prog.godebug = none := by kernel_rfl

set_option maxRecDepth 100000 in
theorem lifted (os : Os) (started : os.Started) (H : Type) (enc : TypeId × Value → H) :
    ReturnsInHanded {} Tryd.checked os 8 .any (fun w args => (Rows.quatConjsSpec.pre enc Tryd.prog Tryd.f8 [] false w args ∧ laidMetH Tryd.prog [("alidade/quat.less", Rows.laid_alidade_quat_less)] w) ∧ sizedMet enc Tryd.prog Tryd.f8 (OpenSpec.ofChange Rows.quatConjsSpec) false w args)
      (Rows.quatConjsSpec.post enc Tryd.prog Tryd.f8 false true false false) := by
  refine returnsInHanded_of_change_and (C := Tryd.checked) (X := fun w _ => laidMetH Tryd.prog [("alidade/quat.less", Rows.laid_alidade_quat_less)] w) (fun _ _ _ hh h => h.of_heap hh) own started (by kernel_rfl) Tryd.func8
    (ChangeSpec.witness_shaped (enc := enc) (C := Tryd.checked) (os := os) (X := fun w _ => laidMetH Tryd.prog [("alidade/quat.less", Rows.laid_alidade_quat_less)] w) false (World.doorLaid Tryd.prog 18 os) #[.agg #[.int .i8 0, .int .i8 0, .int .i8 0, .int .i8 0], .agg #[.int .i8 0, .int .i8 0, .int .i8 0, .int .i8 0]] 8 rfl (World.shaped_of_RefB (by kernel_rfl) (by kernel_rfl)) (by kernel_rfl) (by kernel_rfl) (by kernel_rfl) (door_met os _)) ?_
  intro W base args ds gs before hval0 hW _ _ hL _
  have hval : ∀ (j : Nat) t v, Tryd.f8.params[j]? = some t → args[j]? = some v → Value.okWide Tryd.prog W .any base t v := hval0
  have hW' := hW
  obtain ⟨p, q, hA0, hV, rfl, hfz, hnd⟩ := hW
  have hA : DataW.TrodAll enc Tryd.prog W 0 (fun _ => true) true Tryd.f8.params.toList args.toList ds p := hA0
  rw [Tryd.params8] at hA hval
  obtain ⟨v0, vs0, d0, ds0, p0, q0, hargs, rfl, rfl, h0, r0⟩ := trodAll_cons hA
  obtain ⟨v1, vs1, d1, ds1, p1, q1, rfl, rfl, rfl, h1, r1⟩ := trodAll_cons r0
  obtain ⟨rfl, rfl, rfl⟩ := trodAll_nil r1
  obtain rfl : args = #[v0, v1] := by cases args; simp_all
  obtain ⟨rfl, rfl⟩ := trodVars_none hV
  have h0k := h0
  obtain ⟨f0, hv0, rfl, wf0⟩ := row_open (n := 4) (e := 41) (k := .i8) (by kernel_rfl) (by kernel_rfl) (by kernel_rfl) (by kernel_rfl) (hval 0 42 v0 rfl rfl) h0
  have hv0' : v0 = .agg #[.int .i8 (f0 0), .int .i8 (f0 1), .int .i8 (f0 2), .int .i8 (f0 3)] := hv0.trans (by congr 1)
  subst hv0'
  have h1k := h1
  obtain ⟨f1, hv1, rfl, wf1⟩ := row_open (n := 4) (e := 41) (k := .i8) (by kernel_rfl) (by kernel_rfl) (by kernel_rfl) (by kernel_rfl) (hval 1 42 v1 rfl rfl) h1
  have hv1' : v1 = .agg #[.int .i8 (f1 0), .int .i8 (f1 1), .int .i8 (f1 2), .int .i8 (f1 3)] := hv1.trans (by congr 1)
  subst hv1'
  clear hA0 hval0
  simp only [List.append_nil] at hW'
  refine (quatConjs_walk f0 f1 W (less_of_laid hL) (fun i hi => bounds_i8 (wf0 i hi)) (fun i hi => bounds_i8 (wf1 i hi))).mono fun e W' ⟨he, bel⟩ => ?_
  subst he
  exact ⟨_, rfl, _, _, _, [], _, [], hW', (trodAll_cons_mk (shut_bool Tryd.underlying4 _) trodAll_mk0), (trodAll_cons_mk (Below.trod laidOut (by kernel_rfl) (of_decide_eq_true (by kernel_rfl)) h0k bel (by simp)) (trodAll_cons_mk (Below.trod laidOut (by kernel_rfl) (of_decide_eq_true (by kernel_rfl)) h1k bel (by simp)) trodAll_mk0)), rfl, bel.frame _, fun h => by cases h⟩

theorem over : Rows.quatConjsRow.holds Tryd.pinned (OpenSpec.ofChange Rows.quatConjsSpec) :=
  OpenClaim.holds_of_wide 8 Tryd.f8 rfl rfl rfl rfl rfl rfl rfl ⟨rfl, rfl, rfl, rfl, rfl⟩ rfl rfl rfl rfl rfl (by kernel_rfl) Tryd.func8 (by kernel_rfl)
    (of_decide_eq_true (by kernel_rfl)) (by unfold Func.isWrapper; first | (rw [if_pos (by decide +kernel)]; kernel_rfl) | (rw [if_neg (by decide +kernel)]; exact ⟨rfl, rfl⟩))
    (fun os started H enc _ => lifted os started H enc)
end Go.Proofs.YtgekignonjfaiaaDoor.quatConjs

namespace Go.Proofs.YtgekignonjfaiaaDoor
/-- the given statement: the row's, tied -/
theorem quatConjs_holds : Rows.QuatConjsCardSaid :=
  Claim7.holds_tied_plain_at .later [] [.data] true Rows.quatConjsCard.stood.harness false
    quatConjs.over (fun _ h => by cases h) (by kernel_rfl) (fun _ h => by cases h) quatConjs_row_tie rfl ⟨rfl, rfl⟩ (by kernel_rfl) rfl
    (fun f fn hf hfn => by
      obtain rfl : f = 8 := Option.some.inj ((show Tryd.prog.funcNamed "alidade/alidadelaw04.QuatConjs" = some 8 by kernel_rfl).symm.trans hf) |>.symm
      obtain rfl : fn = Tryd.f8 := (Option.some.inj (Tryd.func8.symm.trans hfn)).symm
      exact ⟨by kernel_rfl, fun j t ht => by
        rw [Tryd.params8] at ht
        have hm : t ∈ [42, 42] := by simpa using Array.mem_of_getElem? ht
        have hall : ([42, 42].all fun u => !Tryd.prog.wantsStandIn u) = true := by kernel_rfl
        exact (show Tryd.prog.wantsStandIn t = false by simpa using List.all_eq_true.1 hall t hm)⟩)
    (by kernel_rfl)
#print axioms quatConjs_holds
end Go.Proofs.YtgekignonjfaiaaDoor
