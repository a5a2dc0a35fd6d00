/-
  What was written ahead of the last one is kept in the other slot: torn, the next one leaves it be read: whatever three rows of words and number come in, the statement answers true and changes nothing.
  No condition besides those of the given statement.
-/
import Derived.Test.YtcfobifldlkfnaaRows
import Derived.WalkKit
import Derived.ProofKit
import Derived.OpenShut
import Derived.ChangeOld
import Derived.Below
import Derived.Carry
import Derived.SizedLaws
import Derived.Test.YtcfobifldlkfnaaGO
import Derived.Test.YtcfobifldlkfnaaWNW
import Derived.Test.YtcfobifldlkfnaaDO
namespace Go.Proofs.Ytcfobifldlkfnaa.nvramTwice
open Go.ChangeShapes Go.WideShapes Go.ChangeAt Go.RowKit Go.Proofs.Ytcfobifldlkfnaa.Gr
set_option linter.unusedVariables false

theorem laidOut : laidOutB Try.prog = true := by kernel_rfl
theorem own : ownKnob Try.prog.godebug = none := by kernel_rfl

set_option maxRecDepth 100000 in
theorem lifted (os : Os) (started : os.Started) (H : Type) (enc : TypeId × Value → H) :
    ReturnsInHanded {} Try.checked os 6 .any (Rows.nvramTwiceSpec.pre6 enc Try.prog Try.f6 Rows.nvramTwiceRow.domain false) (Rows.nvramTwiceSpec.post enc Try.prog Try.f6 false true false false) := by
  refine returnsInHanded_of_change_sized (C := Try.checked) own started (by kernel_rfl) Try.func6
    (ChangeSpec.witness6 (enc := enc) (C := Try.checked) false ⟨#[], #[.agg #[.slice none 0 0, .slice none 0 0, .slice none 0 0, .int .u8 0]], []⟩ 8 (by kernel_rfl) (by kernel_rfl) (by kernel_rfl) (by kernel_rfl)) ?_
  intro W base args ds gs before hval0 hW hcnd hsz0 _
  have hval : ∀ (j : Nat) t v, Try.f6.params[j]? = some t → args[j]? = some v → Value.okWide Try.prog W .any base t v := hval0
  have hsz : (DataW.weightsEach Try.prog (Try.f6.params.toList ++ Rows.nvramTwiceSpec.plain.varTypes Try.prog) (ds ++ gs)).all (· ≤ reachBytes) = true := hsz0
  have hW' := hW
  obtain ⟨p, q, hA0, hV, rfl, hfz, hnd⟩ := hW
  have hA : DataW.TrodAll enc Try.prog W 0 (fun _ => true) true Try.f6.params.toList args.toList ds p := hA0
  rw [Try.params6] at hA hval
  obtain ⟨v0, vs0, d0, ds0, p0, q0, hargs, rfl, rfl, h0, r0⟩ := trodAll_cons hA
  obtain ⟨rfl, rfl, rfl⟩ := trodAll_nil r0
  obtain rfl : args = #[v0] := by cases args; simp_all
  obtain ⟨rfl, rfl⟩ := trodVars_none hV
  have h0k := h0
  have hR0 : ∀ m ∈ d0.weights Try.prog 45, m ≤ 140737488351232 := fun m hm => of_decide_eq_true (List.all_eq_true.1 hsz m (mem_each _ _ 0 45 d0 m (by rw [Try.params6]; rfl) rfl hm))
  obtain ⟨a0, b0, c0, xs0, ys0, zs0, k0, hv0, sa0, sb0, sc0, la0, lb0, lc0, k00, k10⟩ := twice_open (hval 0 45 v0 rfl rfl) h0 hR0
  subst hv0
  clear hA0 hval0
  simp only [List.append_nil] at hW'
  refine (nvramTwice_walk a0 b0 c0 xs0 ys0 zs0 k0 W sa0 sb0 sc0 (by omega) (by omega) (by omega) k00 k10).mono fun e W' ⟨he, bel⟩ => ?_
  subst he
  have lt0 : ∀ x ∈ p0, x.block < W.heap.size := fun x hx => hW'.lt x (by simp [hx])
  exact ⟨_, rfl, _, _, _, _, _, [], hW', (trodAll_cons_mk (shut_bool Try.underlying4 _) trodAll_mk0), (trodAll_cons_mk (Below.trod laidOut (by kernel_rfl) (of_decide_eq_true (by kernel_rfl)) h0k bel lt0) trodAll_mk0), rfl, bel.frame _, fun h => by cases h⟩

theorem over : Rows.nvramTwiceRow.holds Try.pinned (OpenSpec.ofChange Rows.nvramTwiceSpec) :=
  OpenClaim.holds_of_wide 6 Try.f6 rfl rfl rfl rfl rfl rfl rfl ⟨rfl, rfl, rfl, rfl, rfl⟩ rfl rfl rfl rfl rfl (by kernel_rfl) Try.func6 (by kernel_rfl)
    (of_decide_eq_true (by kernel_rfl)) (by unfold Func.isWrapper; first | (rw [if_pos (by decide +kernel)]; kernel_rfl) | (rw [if_neg (by decide +kernel)]; exact ⟨rfl, rfl⟩))
    (fun os started H enc _ => lifted os started H enc)
end Go.Proofs.Ytcfobifldlkfnaa.nvramTwice

namespace Go.Proofs.Ytcfobifldlkfnaa
/-- the given statement -/
theorem nvramTwice_holds : Rows.NvramTwiceSaid := nvramTwice.over
#print axioms nvramTwice_holds
end Go.Proofs.Ytcfobifldlkfnaa
