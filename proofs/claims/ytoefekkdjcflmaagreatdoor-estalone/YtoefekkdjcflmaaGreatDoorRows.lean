/-
  NARROWER THAN 'FOR EVERY INPUT', by the rows' own cells (each row's printed sentence says how): EstSteps: laid · EstForms: laid · EstWords: laid · EstStays: laid · EstBack: laid · EstSteady: laid · EstCounts: laid · EstAlone: laid.
  DERIVED. THE GIVEN ROWS OF THIS SEAT. 8 by the template 'for every input the law returns true; each argument reads behind the call as it read before'; 0 by the template 'total and deterministic' (their statements: YtoefekkdjcflmaaGreatDoorTotals.lean).
  GIVEN WITH THE SEED: the statements are not yours to turn. If you find one false, say at which input.
  Laid BY PROGRAM, IN A SANDBOX (cutbox-rows.mjs): the forced cells as the released guide's own fill.sh prints them over the translation a2831778ab6e3a8c… (all of the seat's roots in one cut). By AI agents, Wed Nov 11 2026. No macro, syntax, notation, axiom, sorry.
-/
import Derived.Test.YtoefekkdjcflmaaGreatDoorChecked
import GoSem.Claim
import GoSem.ClaimJoined
import GoSem.ClaimMapViews
import Derived.JoinedTies
import Derived.KernelRfl
namespace Go.Proofs.YtoefekkdjcflmaaGreatDoor
/- THE CELL 'sum', in the pinned program and in every row, IS THE sha256 OF THE DUMP (.gsa) THAT YtoefekkdjcflmaaGreatDoorProg.lean LOADS. Nothing in Lean hashes anything: it is a label: what it is worth is what the hold of that sum in a sandbox is worth. -/
noncomputable def Tryz.pinned : Pinned := { name := "ytoefekkdjcflmaagreatdoor", sum := "a2831778ab6e3a8c2e5a772c96c0d71212a9a615da8e67c7c3fcf3d2e8a5c55a", checked := Tryz.checked }
namespace Rows
def none {H : Type} : Left H := { results := [], args := [] }

/- WHAT THE LISTED PACKAGE-LEVEL VARIABLES READ AS WHEN THE CALL BEGINS. Each datum BY PROGRAM (the guide's laid-datum.mjs) off the statement by which the dump's own 'gosem.cut.vars' lays the variable. In a bare row this is a premise. The card (YtoefekkdjcflmaaGreatDoorCards.lean) ties it to the program's text. -/
def laid_alidade_quat_less {H : Type} : DataW H := .agg [.agg [.lit (.bool false), .lit (.bool true), .lit (.bool true), .lit (.bool true)], .agg [.lit (.bool false), .lit (.bool false), .lit (.bool false), .lit (.bool true)], .agg [.lit (.bool false), .lit (.bool true), .lit (.bool false), .lit (.bool false)], .agg [.lit (.bool false), .lit (.bool false), .lit (.bool true), .lit (.bool false)]]

/-- 'alidadelaw06.EstSteps': WHATEVER THE INPUT: true; the input reads as it did. -/
def estStepsSpec : ChangeSpec := { name := "estSteps", fn := fun _ => fun
  | [d1, d2, d3] => { results := [.lit (.bool true)], args := [d1, d2, d3] }
  | _ => none }
def estStepsRow : OpenClaim := { program := "ytoefekkdjcflmaagreatdoor", sum := "a2831778ab6e3a8c2e5a772c96c0d71212a9a615da8e67c7c3fcf3d2e8a5c55a", func := "alidade/alidadelaw06.EstSteps", spec := "estSteps", unfollowed := true, recurses := true, named := ["math/bits.divideError", "math/bits.overflowError", "alidade/quat.less"], apart := false, laid := [("alidade/quat.less", laid_alidade_quat_less)] }
def EstStepsSaid : Prop := estStepsRow.holds Tryz.pinned (OpenSpec.ofChange estStepsSpec)

/-- ITS FALSE NEIGHBOUR: 'it returns false'. Refute it at one input. -/
def estStepsWrong : ChangeSpec := { name := "estSteps", fn := fun _ => fun
  | [d1, d2, d3] => { results := [.lit (.bool false)], args := [d1, d2, d3] }
  | _ => none }
def EstStepsWrongFalsely : Prop := estStepsRow.holds Tryz.pinned (OpenSpec.ofChange estStepsWrong)

/-- 'alidadelaw06.EstForms': WHATEVER THE INPUT: true; the input reads as it did. -/
def estFormsSpec : ChangeSpec := { name := "estForms", fn := fun _ => fun
  | [d1, d2, d3] => { results := [.lit (.bool true)], args := [d1, d2, d3] }
  | _ => none }
def estFormsRow : OpenClaim := { program := "ytoefekkdjcflmaagreatdoor", sum := "a2831778ab6e3a8c2e5a772c96c0d71212a9a615da8e67c7c3fcf3d2e8a5c55a", func := "alidade/alidadelaw06.EstForms", spec := "estForms", unfollowed := true, recurses := true, named := ["math/bits.divideError", "math/bits.overflowError", "alidade/quat.less"], apart := false, laid := [("alidade/quat.less", laid_alidade_quat_less)] }
def EstFormsSaid : Prop := estFormsRow.holds Tryz.pinned (OpenSpec.ofChange estFormsSpec)

/-- ITS FALSE NEIGHBOUR: 'it returns false'. Refute it at one input. -/
def estFormsWrong : ChangeSpec := { name := "estForms", fn := fun _ => fun
  | [d1, d2, d3] => { results := [.lit (.bool false)], args := [d1, d2, d3] }
  | _ => none }
def EstFormsWrongFalsely : Prop := estFormsRow.holds Tryz.pinned (OpenSpec.ofChange estFormsWrong)

/-- 'alidadelaw06.EstWords': WHATEVER THE INPUT: true; the input reads as it did. -/
def estWordsSpec : ChangeSpec := { name := "estWords", fn := fun _ => fun
  | [d1, d2] => { results := [.lit (.bool true)], args := [d1, d2] }
  | _ => none }
def estWordsRow : OpenClaim := { program := "ytoefekkdjcflmaagreatdoor", sum := "a2831778ab6e3a8c2e5a772c96c0d71212a9a615da8e67c7c3fcf3d2e8a5c55a", func := "alidade/alidadelaw06.EstWords", spec := "estWords", unfollowed := true, recurses := true, named := ["math/bits.divideError", "math/bits.overflowError", "alidade/quat.less"], apart := false, laid := [("alidade/quat.less", laid_alidade_quat_less)] }
def EstWordsSaid : Prop := estWordsRow.holds Tryz.pinned (OpenSpec.ofChange estWordsSpec)

/-- ITS FALSE NEIGHBOUR: 'it returns false'. Refute it at one input. -/
def estWordsWrong : ChangeSpec := { name := "estWords", fn := fun _ => fun
  | [d1, d2] => { results := [.lit (.bool false)], args := [d1, d2] }
  | _ => none }
def EstWordsWrongFalsely : Prop := estWordsRow.holds Tryz.pinned (OpenSpec.ofChange estWordsWrong)

/-- 'alidadelaw06.EstStays': WHATEVER THE INPUT: true; the input reads as it did. -/
def estStaysSpec : ChangeSpec := { name := "estStays", fn := fun _ => fun
  | [d1, d2, d3] => { results := [.lit (.bool true)], args := [d1, d2, d3] }
  | _ => none }
def estStaysRow : OpenClaim := { program := "ytoefekkdjcflmaagreatdoor", sum := "a2831778ab6e3a8c2e5a772c96c0d71212a9a615da8e67c7c3fcf3d2e8a5c55a", func := "alidade/alidadelaw06.EstStays", spec := "estStays", unfollowed := true, recurses := true, named := ["math/bits.divideError", "math/bits.overflowError", "alidade/quat.less"], apart := false, laid := [("alidade/quat.less", laid_alidade_quat_less)] }
def EstStaysSaid : Prop := estStaysRow.holds Tryz.pinned (OpenSpec.ofChange estStaysSpec)

/-- ITS FALSE NEIGHBOUR: 'it returns false'. Refute it at one input. -/
def estStaysWrong : ChangeSpec := { name := "estStays", fn := fun _ => fun
  | [d1, d2, d3] => { results := [.lit (.bool false)], args := [d1, d2, d3] }
  | _ => none }
def EstStaysWrongFalsely : Prop := estStaysRow.holds Tryz.pinned (OpenSpec.ofChange estStaysWrong)

/-- 'alidadelaw06.EstBack': WHATEVER THE INPUT: true; the input reads as it did. -/
def estBackSpec : ChangeSpec := { name := "estBack", fn := fun _ => fun
  | [d] => { results := [.lit (.bool true)], args := [d] }
  | _ => none }
def estBackRow : OpenClaim := { program := "ytoefekkdjcflmaagreatdoor", sum := "a2831778ab6e3a8c2e5a772c96c0d71212a9a615da8e67c7c3fcf3d2e8a5c55a", func := "alidade/alidadelaw06.EstBack", spec := "estBack", unfollowed := true, recurses := true, named := ["math/bits.divideError", "math/bits.overflowError", "alidade/quat.less"], apart := false, laid := [("alidade/quat.less", laid_alidade_quat_less)] }
def EstBackSaid : Prop := estBackRow.holds Tryz.pinned (OpenSpec.ofChange estBackSpec)

/-- ITS FALSE NEIGHBOUR: 'it returns false'. Refute it at one input. -/
def estBackWrong : ChangeSpec := { name := "estBack", fn := fun _ => fun
  | [d] => { results := [.lit (.bool false)], args := [d] }
  | _ => none }
def EstBackWrongFalsely : Prop := estBackRow.holds Tryz.pinned (OpenSpec.ofChange estBackWrong)

/-- 'alidadelaw06.EstSteady': WHATEVER THE INPUT: true; the input reads as it did. -/
def estSteadySpec : ChangeSpec := { name := "estSteady", fn := fun _ => fun
  | [d1, d2] => { results := [.lit (.bool true)], args := [d1, d2] }
  | _ => none }
def estSteadyRow : OpenClaim := { program := "ytoefekkdjcflmaagreatdoor", sum := "a2831778ab6e3a8c2e5a772c96c0d71212a9a615da8e67c7c3fcf3d2e8a5c55a", func := "alidade/alidadelaw06.EstSteady", spec := "estSteady", unfollowed := true, recurses := true, named := ["math/bits.divideError", "math/bits.overflowError", "alidade/quat.less"], apart := false, laid := [("alidade/quat.less", laid_alidade_quat_less)] }
def EstSteadySaid : Prop := estSteadyRow.holds Tryz.pinned (OpenSpec.ofChange estSteadySpec)

/-- ITS FALSE NEIGHBOUR: 'it returns false'. Refute it at one input. -/
def estSteadyWrong : ChangeSpec := { name := "estSteady", fn := fun _ => fun
  | [d1, d2] => { results := [.lit (.bool false)], args := [d1, d2] }
  | _ => none }
def EstSteadyWrongFalsely : Prop := estSteadyRow.holds Tryz.pinned (OpenSpec.ofChange estSteadyWrong)

/-- 'alidadelaw06.EstCounts': WHATEVER THE INPUT: true; the input reads as it did. -/
def estCountsSpec : ChangeSpec := { name := "estCounts", fn := fun _ => fun
  | [d1, d2, d3] => { results := [.lit (.bool true)], args := [d1, d2, d3] }
  | _ => none }
def estCountsRow : OpenClaim := { program := "ytoefekkdjcflmaagreatdoor", sum := "a2831778ab6e3a8c2e5a772c96c0d71212a9a615da8e67c7c3fcf3d2e8a5c55a", func := "alidade/alidadelaw06.EstCounts", spec := "estCounts", unfollowed := true, recurses := true, named := ["math/bits.divideError", "math/bits.overflowError", "alidade/quat.less"], apart := false, laid := [("alidade/quat.less", laid_alidade_quat_less)] }
def EstCountsSaid : Prop := estCountsRow.holds Tryz.pinned (OpenSpec.ofChange estCountsSpec)

/-- ITS FALSE NEIGHBOUR: 'it returns false'. Refute it at one input. -/
def estCountsWrong : ChangeSpec := { name := "estCounts", fn := fun _ => fun
  | [d1, d2, d3] => { results := [.lit (.bool false)], args := [d1, d2, d3] }
  | _ => none }
def EstCountsWrongFalsely : Prop := estCountsRow.holds Tryz.pinned (OpenSpec.ofChange estCountsWrong)

/-- 'alidadelaw06.EstAlone': WHATEVER THE INPUT: true; the input reads as it did. -/
def estAloneSpec : ChangeSpec := { name := "estAlone", fn := fun _ => fun
  | [d1, d2, d3] => { results := [.lit (.bool true)], args := [d1, d2, d3] }
  | _ => none }
def estAloneRow : OpenClaim := { program := "ytoefekkdjcflmaagreatdoor", sum := "a2831778ab6e3a8c2e5a772c96c0d71212a9a615da8e67c7c3fcf3d2e8a5c55a", func := "alidade/alidadelaw06.EstAlone", spec := "estAlone", unfollowed := true, recurses := true, named := ["math/bits.divideError", "math/bits.overflowError", "alidade/quat.less"], apart := false, laid := [("alidade/quat.less", laid_alidade_quat_less)] }
def EstAloneSaid : Prop := estAloneRow.holds Tryz.pinned (OpenSpec.ofChange estAloneSpec)

/-- ITS FALSE NEIGHBOUR: 'it returns false'. Refute it at one input. -/
def estAloneWrong : ChangeSpec := { name := "estAlone", fn := fun _ => fun
  | [d1, d2, d3] => { results := [.lit (.bool false)], args := [d1, d2, d3] }
  | _ => none }
def EstAloneWrongFalsely : Prop := estAloneRow.holds Tryz.pinned (OpenSpec.ofChange estAloneWrong)

/- THE SECOND FORM. 'bulk': how many values and letters a reading holds, each counted each time it is reached (what is shared counts as often as it is met; a slice's spare places count too). A statement '..UptoSaid' is the law's where the arguments, and the package variables that the reading takes, are together of bulk at most 1048576: NARROWER than '..Said'. Prove '..Said' where nothing that the law and all that it calls make is longer than what came in: it says more and counts as full. Else prove '..UptoSaid'. A law counts once. -/
mutual
def uptoBulk {H : Type} : DataW H → Nat
  | .lit (.string bytes) => bytes.length + 1
  | .lit _ => 1
  | .nil => 1
  | .ptr d => uptoBulk d + 1
  | .slice elems spare => uptoBulkAll elems + uptoBulkAll spare + 1
  | .agg parts => uptoBulkAll parts + 1
  | .iface _ d => uptoBulk d + 1
  | .map entries => uptoBulkEntries entries + 1
  | .held _ => 1
def uptoBulkAll {H : Type} : List (DataW H) → Nat
  | [] => 0
  | d :: r => uptoBulk d + uptoBulkAll r
def uptoBulkEntries {H : Type} : List (Lit × DataW H) → Nat
  | [] => 0
  | x :: r => uptoBulkEntry x + uptoBulkEntries r
def uptoBulkEntry {H : Type} : Lit × DataW H → Nat
  | (.string bytes, d) => bytes.length + uptoBulk d + 1
  | (_, d) => uptoBulk d + 1
 end
def uptoSmall : (H : Type) → List (DataW H) → Bool := fun _ ds => decide (uptoBulkAll ds ≤ 1048576)
def OpenSpec.upto (s : _root_.Go.ChangeSpec) : _root_.Go.OpenSpec := { _root_.Go.OpenSpec.ofChange s with cond := some uptoSmall }

/-- 'alidadelaw06.EstSteps', WHERE WHAT IT READS IS OF BULK AT MOST 1048576: true; the input reads as it did. -/
def estStepsUptoRow : OpenClaim := { program := "ytoefekkdjcflmaagreatdoor", sum := "a2831778ab6e3a8c2e5a772c96c0d71212a9a615da8e67c7c3fcf3d2e8a5c55a", func := "alidade/alidadelaw06.EstSteps", spec := "estSteps", unfollowed := true, recurses := true, named := ["math/bits.divideError", "math/bits.overflowError", "alidade/quat.less"], apart := false, laid := [("alidade/quat.less", laid_alidade_quat_less)], narrowed := true }
def EstStepsUptoSaid : Prop := estStepsUptoRow.holds Tryz.pinned (OpenSpec.upto estStepsSpec)

/-- 'alidadelaw06.EstForms', WHERE WHAT IT READS IS OF BULK AT MOST 1048576: true; the input reads as it did. -/
def estFormsUptoRow : OpenClaim := { program := "ytoefekkdjcflmaagreatdoor", sum := "a2831778ab6e3a8c2e5a772c96c0d71212a9a615da8e67c7c3fcf3d2e8a5c55a", func := "alidade/alidadelaw06.EstForms", spec := "estForms", unfollowed := true, recurses := true, named := ["math/bits.divideError", "math/bits.overflowError", "alidade/quat.less"], apart := false, laid := [("alidade/quat.less", laid_alidade_quat_less)], narrowed := true }
def EstFormsUptoSaid : Prop := estFormsUptoRow.holds Tryz.pinned (OpenSpec.upto estFormsSpec)

/-- 'alidadelaw06.EstWords', WHERE WHAT IT READS IS OF BULK AT MOST 1048576: true; the input reads as it did. -/
def estWordsUptoRow : OpenClaim := { program := "ytoefekkdjcflmaagreatdoor", sum := "a2831778ab6e3a8c2e5a772c96c0d71212a9a615da8e67c7c3fcf3d2e8a5c55a", func := "alidade/alidadelaw06.EstWords", spec := "estWords", unfollowed := true, recurses := true, named := ["math/bits.divideError", "math/bits.overflowError", "alidade/quat.less"], apart := false, laid := [("alidade/quat.less", laid_alidade_quat_less)], narrowed := true }
def EstWordsUptoSaid : Prop := estWordsUptoRow.holds Tryz.pinned (OpenSpec.upto estWordsSpec)

/-- 'alidadelaw06.EstStays', WHERE WHAT IT READS IS OF BULK AT MOST 1048576: true; the input reads as it did. -/
def estStaysUptoRow : OpenClaim := { program := "ytoefekkdjcflmaagreatdoor", sum := "a2831778ab6e3a8c2e5a772c96c0d71212a9a615da8e67c7c3fcf3d2e8a5c55a", func := "alidade/alidadelaw06.EstStays", spec := "estStays", unfollowed := true, recurses := true, named := ["math/bits.divideError", "math/bits.overflowError", "alidade/quat.less"], apart := false, laid := [("alidade/quat.less", laid_alidade_quat_less)], narrowed := true }
def EstStaysUptoSaid : Prop := estStaysUptoRow.holds Tryz.pinned (OpenSpec.upto estStaysSpec)

/-- 'alidadelaw06.EstBack', WHERE WHAT IT READS IS OF BULK AT MOST 1048576: true; the input reads as it did. -/
def estBackUptoRow : OpenClaim := { program := "ytoefekkdjcflmaagreatdoor", sum := "a2831778ab6e3a8c2e5a772c96c0d71212a9a615da8e67c7c3fcf3d2e8a5c55a", func := "alidade/alidadelaw06.EstBack", spec := "estBack", unfollowed := true, recurses := true, named := ["math/bits.divideError", "math/bits.overflowError", "alidade/quat.less"], apart := false, laid := [("alidade/quat.less", laid_alidade_quat_less)], narrowed := true }
def EstBackUptoSaid : Prop := estBackUptoRow.holds Tryz.pinned (OpenSpec.upto estBackSpec)

/-- 'alidadelaw06.EstSteady', WHERE WHAT IT READS IS OF BULK AT MOST 1048576: true; the input reads as it did. -/
def estSteadyUptoRow : OpenClaim := { program := "ytoefekkdjcflmaagreatdoor", sum := "a2831778ab6e3a8c2e5a772c96c0d71212a9a615da8e67c7c3fcf3d2e8a5c55a", func := "alidade/alidadelaw06.EstSteady", spec := "estSteady", unfollowed := true, recurses := true, named := ["math/bits.divideError", "math/bits.overflowError", "alidade/quat.less"], apart := false, laid := [("alidade/quat.less", laid_alidade_quat_less)], narrowed := true }
def EstSteadyUptoSaid : Prop := estSteadyUptoRow.holds Tryz.pinned (OpenSpec.upto estSteadySpec)

/-- 'alidadelaw06.EstCounts', WHERE WHAT IT READS IS OF BULK AT MOST 1048576: true; the input reads as it did. -/
def estCountsUptoRow : OpenClaim := { program := "ytoefekkdjcflmaagreatdoor", sum := "a2831778ab6e3a8c2e5a772c96c0d71212a9a615da8e67c7c3fcf3d2e8a5c55a", func := "alidade/alidadelaw06.EstCounts", spec := "estCounts", unfollowed := true, recurses := true, named := ["math/bits.divideError", "math/bits.overflowError", "alidade/quat.less"], apart := false, laid := [("alidade/quat.less", laid_alidade_quat_less)], narrowed := true }
def EstCountsUptoSaid : Prop := estCountsUptoRow.holds Tryz.pinned (OpenSpec.upto estCountsSpec)

/-- 'alidadelaw06.EstAlone', WHERE WHAT IT READS IS OF BULK AT MOST 1048576: true; the input reads as it did. -/
def estAloneUptoRow : OpenClaim := { program := "ytoefekkdjcflmaagreatdoor", sum := "a2831778ab6e3a8c2e5a772c96c0d71212a9a615da8e67c7c3fcf3d2e8a5c55a", func := "alidade/alidadelaw06.EstAlone", spec := "estAlone", unfollowed := true, recurses := true, named := ["math/bits.divideError", "math/bits.overflowError", "alidade/quat.less"], apart := false, laid := [("alidade/quat.less", laid_alidade_quat_less)], narrowed := true }
def EstAloneUptoSaid : Prop := estAloneUptoRow.holds Tryz.pinned (OpenSpec.upto estAloneSpec)

end Rows
end Go.Proofs.YtoefekkdjcflmaaGreatDoor
