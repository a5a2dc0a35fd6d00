/-
  What the third axis is told by the barometer leaves the other axes as they are: of every setting that may be, every right estimator, and whatever number is measured.
  The program's table of the products that are turned round reads as its own initialiser lays it (the card ties it to the program's text); no condition besides those of the given statement.
-/
import Derived.Test.YtoefekkdjcflmaaGreatDoorRows
import Derived.Test.YtoefekkdjcflmaaGreatDoorCards
import Derived.Test.YtoefekkdjcflmaaGreatDoorTie
import Derived.SevenTiedAt
import Derived.Test.YtoefekkdjcflmaaGreatDoorM51
namespace Go.Proofs.YtoefekkdjcflmaaGreatDoor.estAlone
open Go.ChangeShapes Go.WideShapes Go.ChangeAt Go.RowKit
set_option linter.unusedVariables false

theorem laidOut : laidOutB Tryz.prog = true := by kernel_rfl
theorem own : ownKnob Tryz.prog.godebug = none := by kernel_rfl

set_option maxRecDepth 100000 in
set_option maxHeartbeats 4000000 in
theorem lifted (os : Os) (started : os.Started) (H : Type) (enc : TypeId × Value → H) :
    ReturnsInHanded {} Tryz.checked os 10 .any (fun w args => (Rows.estAloneSpec.pre enc Tryz.prog Tryz.f10 [] false w args ∧ laidMetH Tryz.prog [("alidade/quat.less", Rows.laid_alidade_quat_less)] w) ∧ sizedMet enc Tryz.prog Tryz.f10 (OpenSpec.ofChange Rows.estAloneSpec) false w args)
      (Rows.estAloneSpec.post enc Tryz.prog Tryz.f10 false true false false) := by
  refine returnsInHanded_of_change_and (C := Tryz.checked) (X := fun w _ => laidMetH Tryz.prog [("alidade/quat.less", Rows.laid_alidade_quat_less)] w) (fun _ _ _ hh h => h.of_heap hh) own started (by kernel_rfl) Tryz.func10
    (ChangeSpec.witness_shaped (enc := enc) (C := Tryz.checked) (os := os) (X := fun w _ => laidMetH Tryz.prog [("alidade/quat.less", Rows.laid_alidade_quat_less)] w) false (World.doorLaid Tryz.prog 18 os) #[.agg #[.int .i64 0, .int .i64 0, .int .i64 0, .int .i64 0, .int .i64 0, .int .i64 0], .agg #[.int .i64 0, .int .i64 0, .int .i64 0, .int .i64 0, .int .i64 0, .int .i64 0, .slice none 0 0, .int .i64 0, .int .i64 0, .slice none 0 0, .int .i64 0, .int .i64 0, .slice none 0 0, .int .i64 0, .int .i64 0, .slice none 0 0, .int .i64 0, .int .i64 0, .slice none 0 0, .int .i64 0, .int .i64 0, .slice none 0 0, .int .i64 0, .int .i64 0, .int .i64 0, .int .i64 0, .int .i64 0, .int .i64 0, .bool false], .int .i64 0] 8 rfl (World.shaped_of_RefB (by kernel_rfl) (by kernel_rfl)) (by kernel_rfl) (by kernel_rfl) (by kernel_rfl) (Qt.door_met os _)) ?_
  intro W base args ds gs before hval0 hW _ _ hL _
  have hval : ∀ (j : Nat) t v, Tryz.f10.params[j]? = some t → args[j]? = some v → Value.okWide Tryz.prog W .any base t v := hval0
  have hW' := hW
  obtain ⟨p, q, hA0, hV, rfl, hfz, hnd⟩ := hW
  have hA : DataW.TrodAll enc Tryz.prog W 0 (fun _ => true) true Tryz.f10.params.toList args.toList ds p := hA0
  rw [Tryz.params10] at hA hval
  obtain ⟨v0, vs0, d0, ds0, p0, q0, hargs, rfl, rfl, h0, r0⟩ := trodAll_cons hA
  obtain ⟨v1, vs1, d1, ds1, p1, q1, rfl, rfl, rfl, h1, r1⟩ := trodAll_cons r0
  obtain ⟨v2, vs2, d2, ds2, p2, q2, rfl, rfl, rfl, h2, r2⟩ := trodAll_cons r1
  obtain ⟨rfl, rfl, rfl⟩ := trodAll_nil r2
  obtain rfl : args = #[v0, v1, v2] := by cases args; simp_all
  obtain ⟨rfl, rfl⟩ := trodVars_none hV
  have h0k := h0
  obtain ⟨c0, hv0⟩ := conf_open (hval 0 24 v0 rfl rfl) h0
  subst hv0
  have h1k := h1
  obtain ⟨e1, vx1, vp1, hv1, s1⟩ := est_open (hval 1 35 v1 rfl rfl) h1
  subst hv1
  have h2k := h2
  obtain ⟨k2, hv2, rfl, rfl, w2⟩ := open_int (show Tryz.prog.underlying 22 = some (.int .i64) by kernel_rfl) (hval 2 22 v2 rfl rfl) h2
  subst hv2
  clear hA0 hval0
  simp only [List.append_nil] at hW'
  refine (Et.estAlone_walk c0 e1 k2 vx1 vp1 W (Qt.less_of_laid hL) s1 ).mono fun e W' ⟨he, bel⟩ => ?_
  subst he
  have lt0 : ∀ x ∈ p0, x.block < W.heap.size := fun x hx => hW'.lt x (by simp [hx])
  have lt1 : ∀ x ∈ p1, x.block < W.heap.size := fun x hx => hW'.lt x (by simp [hx])
  exact ⟨_, rfl, _, _, _, _, _, [], hW', (trodAll_cons_mk (shut_bool Tryz.underlying4 _) trodAll_mk0), (trodAll_cons_mk (Below.trod laidOut (by kernel_rfl) (of_decide_eq_true (by kernel_rfl)) h0k bel lt0) (trodAll_cons_mk (Below.trod laidOut (by kernel_rfl) (of_decide_eq_true (by kernel_rfl)) h1k bel lt1) (trodAll_cons_mk (Below.trod laidOut (by kernel_rfl) (of_decide_eq_true (by kernel_rfl)) h2k bel (by simp)) trodAll_mk0))), rfl, bel.frame _, fun h => by cases h⟩

theorem over : Rows.estAloneRow.holds Tryz.pinned (OpenSpec.ofChange Rows.estAloneSpec) :=
  OpenClaim.holds_of_wide 10 Tryz.f10 rfl rfl rfl rfl rfl rfl rfl ⟨rfl, rfl, rfl, rfl, rfl⟩ rfl rfl rfl rfl rfl (by kernel_rfl) Tryz.func10 (by kernel_rfl)
    (of_decide_eq_true (by kernel_rfl)) (by unfold Func.isWrapper; first | (rw [if_pos (by decide +kernel)]; kernel_rfl) | (rw [if_neg (by decide +kernel)]; exact ⟨rfl, rfl⟩))
    (fun os started H enc _ => lifted os started H enc)
end Go.Proofs.YtoefekkdjcflmaaGreatDoor.estAlone

namespace Go.Proofs.YtoefekkdjcflmaaGreatDoor
/-- the given statement: the row's, tied -/
theorem estAlone_holds : Rows.EstAloneCardSaid :=
  Claim7.holds_tied_plain_at .later [] [.data] true Rows.estAloneCard.stood.harness false
    estAlone.over (fun _ h => by cases h) (by kernel_rfl) (fun _ h => by cases h) estAlone_row_tie rfl ⟨rfl, rfl⟩ (by kernel_rfl) rfl
    (fun f fn hf hfn => by
      obtain rfl : f = 10 := Option.some.inj ((show Tryz.prog.funcNamed "alidade/alidadelaw06.EstAlone" = some 10 by kernel_rfl).symm.trans hf) |>.symm
      obtain rfl : fn = Tryz.f10 := (Option.some.inj (Tryz.func10.symm.trans hfn)).symm
      exact ⟨by kernel_rfl, fun j t ht => by
        rw [Tryz.params10] at ht
        have hm : t ∈ [24, 35, 22] := by simpa using Array.mem_of_getElem? ht
        have hall : ([24, 35, 22].all fun u => !Tryz.prog.wantsStandIn u) = true := by kernel_rfl
        exact (show Tryz.prog.wantsStandIn t = false by simpa using List.all_eq_true.1 hall t hm)⟩)
    (by kernel_rfl)
#print axioms estAlone_holds
end Go.Proofs.YtoefekkdjcflmaaGreatDoor
