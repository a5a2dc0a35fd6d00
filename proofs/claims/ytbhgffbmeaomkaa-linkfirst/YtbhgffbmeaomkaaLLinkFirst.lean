/-
  LinkFirst: of an end that is not known yet the words from its beginning on are told; of an older one than is known nothing is.
  No condition besides those of the given statement.
-/
import Derived.Test.YtbhgffbmeaomkaaRows
import Derived.WalkKit
import Derived.ProofKit
import Derived.OpenShut
import Derived.ChangeOld
import Derived.Below
import Derived.Carry
import Derived.SizedLaws
import Derived.Test.YtbhgffbmeaomkaaGO
import Derived.Test.YtbhgffbmeaomkaaWLF
import Derived.Test.YtbhgffbmeaomkaaDO
namespace Go.Proofs.Ytbhgffbmeaomkaa.linkFirst
open Go.ChangeShapes Go.WideShapes Go.ChangeAt Go.RowKit Go.Proofs.Ytbhgffbmeaomkaa.Gr
set_option linter.unusedVariables false

theorem laidOut : laidOutB Try.prog = true := by kernel_rfl
theorem own : ownKnob Try.prog.godebug = none := by kernel_rfl

set_option maxRecDepth 100000 in
theorem lifted (os : Os) (started : os.Started) (H : Type) (enc : TypeId × Value → H) :
    ReturnsInHanded {} Try.checked os 8 .any (Rows.linkFirstSpec.pre6 enc Try.prog Try.f8 Rows.linkFirstRow.domain false) (Rows.linkFirstSpec.post enc Try.prog Try.f8 false true false false) := by
  refine returnsInHanded_of_change_sized (C := Try.checked) own started (by kernel_rfl) Try.func8
    (ChangeSpec.witness6 (enc := enc) (C := Try.checked) false ⟨#[], #[.slice none 0 0, .int .i64 0, .int .i64 0], []⟩ 8 (by kernel_rfl) (by kernel_rfl) (by kernel_rfl) (by kernel_rfl)) ?_
  intro W base args ds gs before hval0 hW hcnd hsz0 _
  have hval : ∀ (j : Nat) t v, Try.f8.params[j]? = some t → args[j]? = some v → Value.okWide Try.prog W .any base t v := hval0
  have hsz : (DataW.weightsEach Try.prog (Try.f8.params.toList ++ Rows.linkFirstSpec.plain.varTypes Try.prog) (ds ++ gs)).all (· ≤ reachBytes) = true := hsz0
  have hW' := hW
  obtain ⟨p, q, hA0, hV, rfl, hfz, hnd⟩ := hW
  have hA : DataW.TrodAll enc Try.prog W 0 (fun _ => true) true Try.f8.params.toList args.toList ds p := hA0
  rw [Try.params8] at hA hval
  obtain ⟨v0, vs0, d0, ds0, p0, q0, hargs, rfl, rfl, h0, r0⟩ := trodAll_cons hA
  obtain ⟨v1, vs1, d1, ds1, p1, q1, rfl, rfl, rfl, h1, r1⟩ := trodAll_cons r0
  obtain ⟨v2, vs2, d2, ds2, p2, q2, rfl, rfl, rfl, h2, r2⟩ := trodAll_cons r1
  obtain ⟨rfl, rfl, rfl⟩ := trodAll_nil r2
  obtain rfl : args = #[v0, v1, v2] := by cases args; simp_all
  obtain ⟨rfl, rfl⟩ := trodVars_none hV
  have h0k := h0
  have hR0 : ∀ m ∈ d0.weights Try.prog 22, m ≤ 140737488351232 := fun m hm => of_decide_eq_true (List.all_eq_true.1 hsz m (mem_each _ _ 0 22 d0 m (by rw [Try.params8]; rfl) rfl hm))
  obtain ⟨xs0, s0, l0, rg0⟩ := words_open (hval 0 22 v0 rfl rfl) h0 hR0
  have h1k := h1
  obtain ⟨n1, hv1, _, _⟩ := int_open (k := .i64) (by kernel_rfl) (hval 1 2 v1 rfl rfl) h1
  subst hv1
  have h2k := h2
  obtain ⟨n2, hv2, _, _⟩ := int_open (k := .i64) (by kernel_rfl) (hval 2 2 v2 rfl rfl) h2
  subst hv2
  clear hA0 hval0
  simp only [List.append_nil] at hW'
  refine (linkFirst_walk v0 xs0 n1 n2 W s0 (by omega) rg0).mono fun e W' ⟨he, bel⟩ => ?_
  subst he
  have lt0 : ∀ x ∈ p0, x.block < W.heap.size := fun x hx => hW'.lt x (by simp [hx])
  have lt1 : ∀ x ∈ p1, x.block < W.heap.size := fun x hx => hW'.lt x (by simp [hx])
  have lt2 : ∀ x ∈ p2, x.block < W.heap.size := fun x hx => hW'.lt x (by simp [hx])
  exact ⟨_, rfl, _, _, _, _, _, [], hW', (trodAll_cons_mk (shut_bool Try.underlying4 _) trodAll_mk0), (trodAll_cons_mk (Below.trod laidOut (by kernel_rfl) (of_decide_eq_true (by kernel_rfl)) h0k bel lt0) (trodAll_cons_mk (Below.trod laidOut (by kernel_rfl) (of_decide_eq_true (by kernel_rfl)) h1k bel lt1) (trodAll_cons_mk (Below.trod laidOut (by kernel_rfl) (of_decide_eq_true (by kernel_rfl)) h2k bel lt2) trodAll_mk0))), rfl, bel.frame _, fun h => by cases h⟩

theorem over : Rows.linkFirstRow.holds Try.pinned (OpenSpec.ofChange Rows.linkFirstSpec) :=
  OpenClaim.holds_of_wide 8 Try.f8 rfl rfl rfl rfl rfl rfl rfl ⟨rfl, rfl, rfl, rfl, rfl⟩ rfl rfl rfl rfl rfl (by kernel_rfl) Try.func8 (by kernel_rfl)
    (of_decide_eq_true (by kernel_rfl)) (by unfold Func.isWrapper; first | (rw [if_pos (by decide +kernel)]; kernel_rfl) | (rw [if_neg (by decide +kernel)]; exact ⟨rfl, rfl⟩))
    (fun os started H enc _ => lifted os started H enc)
end Go.Proofs.Ytbhgffbmeaomkaa.linkFirst

namespace Go.Proofs.Ytbhgffbmeaomkaa
/-- the given statement -/
theorem linkFirst_holds : Rows.LinkFirstSaid := linkFirst.over
#print axioms linkFirst_holds
end Go.Proofs.Ytbhgffbmeaomkaa
