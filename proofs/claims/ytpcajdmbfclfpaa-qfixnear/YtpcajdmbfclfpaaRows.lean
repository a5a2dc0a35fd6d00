/-
  No cell of these rows narrows 'for every input' (looked for: loops, veiled, ifaces, maps, wideKeys, modest, calm, conditions, laid).
  DERIVED. THE GIVEN ROWS OF THIS SEAT. 9 by the template 'for every input the law returns true; each argument reads behind the call as it read before'; 0 by the template 'total and deterministic' (their statements: YtpcajdmbfclfpaaTotals.lean).
  GIVEN WITH THE SEED: the statements are not yours to turn. If you find one false, say at which input.
  Laid BY PROGRAM, IN A SANDBOX (cutbox-rows.mjs): the forced cells as the released guide's own fill.sh prints them over the translation 72908e1cd6f8587d… (all of the seat's roots in one cut). By AI agents, Wed Nov 11 2026. No macro, syntax, notation, axiom, sorry.
-/
import Derived.Test.YtpcajdmbfclfpaaChecked
import GoSem.Claim
import GoSem.ClaimJoined
import GoSem.ClaimMapViews
import Derived.JoinedTies
import Derived.KernelRfl
namespace Go.Proofs.Ytpcajdmbfclfpaa
/- THE CELL 'sum', in the pinned program and in every row, IS THE sha256 OF THE DUMP (.gsa) THAT YtpcajdmbfclfpaaProg.lean LOADS. Nothing in Lean hashes anything: it is a label: what it is worth is what the hold of that sum in a sandbox is worth. -/
noncomputable def Try.pinned : Pinned := { name := "ytpcajdmbfclfpaa", sum := "72908e1cd6f8587d7b8caf1352623874263d44ffd76b0aa509649e3c8e8eae06", checked := Try.checked }
namespace Rows
def none {H : Type} : Left H := { results := [], args := [] }

/-- 'alidadelaw01.QfixReckons': WHATEVER THE INPUT: true; the input reads as it did. -/
def qfixReckonsSpec : ChangeSpec := { name := "qfixReckons", fn := fun _ => fun
  | [d1, d2] => { results := [.lit (.bool true)], args := [d1, d2] }
  | _ => none }
def qfixReckonsRow : OpenClaim := { program := "ytpcajdmbfclfpaa", sum := "72908e1cd6f8587d7b8caf1352623874263d44ffd76b0aa509649e3c8e8eae06", func := "alidade/alidadelaw01.QfixReckons", spec := "qfixReckons", unfollowed := true, recurses := true, named := ["math/bits.divideError", "math/bits.overflowError"], apart := false }
def QfixReckonsSaid : Prop := qfixReckonsRow.holds Try.pinned (OpenSpec.ofChange qfixReckonsSpec)

/-- ITS FALSE NEIGHBOUR: 'it returns false'. Refute it at one input. -/
def qfixReckonsWrong : ChangeSpec := { name := "qfixReckons", fn := fun _ => fun
  | [d1, d2] => { results := [.lit (.bool false)], args := [d1, d2] }
  | _ => none }
def QfixReckonsWrongFalsely : Prop := qfixReckonsRow.holds Try.pinned (OpenSpec.ofChange qfixReckonsWrong)

/-- 'alidadelaw01.QfixWholes': WHATEVER THE INPUT: true; the input reads as it did. -/
def qfixWholesSpec : ChangeSpec := { name := "qfixWholes", fn := fun _ => fun
  | [d1, d2, d3] => { results := [.lit (.bool true)], args := [d1, d2, d3] }
  | _ => none }
def qfixWholesRow : OpenClaim := { program := "ytpcajdmbfclfpaa", sum := "72908e1cd6f8587d7b8caf1352623874263d44ffd76b0aa509649e3c8e8eae06", func := "alidade/alidadelaw01.QfixWholes", spec := "qfixWholes", unfollowed := true, recurses := true, named := ["math/bits.divideError", "math/bits.overflowError"], apart := false }
def QfixWholesSaid : Prop := qfixWholesRow.holds Try.pinned (OpenSpec.ofChange qfixWholesSpec)

/-- ITS FALSE NEIGHBOUR: 'it returns false'. Refute it at one input. -/
def qfixWholesWrong : ChangeSpec := { name := "qfixWholes", fn := fun _ => fun
  | [d1, d2, d3] => { results := [.lit (.bool false)], args := [d1, d2, d3] }
  | _ => none }
def QfixWholesWrongFalsely : Prop := qfixWholesRow.holds Try.pinned (OpenSpec.ofChange qfixWholesWrong)

/-- 'alidadelaw01.QfixBounds': WHATEVER THE INPUT: true; the input reads as it did. -/
def qfixBoundsSpec : ChangeSpec := { name := "qfixBounds", fn := fun _ => fun
  | [d1, d2, d3] => { results := [.lit (.bool true)], args := [d1, d2, d3] }
  | _ => none }
def qfixBoundsRow : OpenClaim := { program := "ytpcajdmbfclfpaa", sum := "72908e1cd6f8587d7b8caf1352623874263d44ffd76b0aa509649e3c8e8eae06", func := "alidade/alidadelaw01.QfixBounds", spec := "qfixBounds", unfollowed := true, recurses := true, named := ["math/bits.divideError", "math/bits.overflowError"], apart := false }
def QfixBoundsSaid : Prop := qfixBoundsRow.holds Try.pinned (OpenSpec.ofChange qfixBoundsSpec)

/-- ITS FALSE NEIGHBOUR: 'it returns false'. Refute it at one input. -/
def qfixBoundsWrong : ChangeSpec := { name := "qfixBounds", fn := fun _ => fun
  | [d1, d2, d3] => { results := [.lit (.bool false)], args := [d1, d2, d3] }
  | _ => none }
def QfixBoundsWrongFalsely : Prop := qfixBoundsRow.holds Try.pinned (OpenSpec.ofChange qfixBoundsWrong)

/-- 'alidadelaw01.QfixOrders': WHATEVER THE INPUT: true; the input reads as it did. -/
def qfixOrdersSpec : ChangeSpec := { name := "qfixOrders", fn := fun _ => fun
  | [d1, d2] => { results := [.lit (.bool true)], args := [d1, d2] }
  | _ => none }
def qfixOrdersRow : OpenClaim := { program := "ytpcajdmbfclfpaa", sum := "72908e1cd6f8587d7b8caf1352623874263d44ffd76b0aa509649e3c8e8eae06", func := "alidade/alidadelaw01.QfixOrders", spec := "qfixOrders", unfollowed := true, recurses := true, named := ["math/bits.divideError", "math/bits.overflowError"], apart := false }
def QfixOrdersSaid : Prop := qfixOrdersRow.holds Try.pinned (OpenSpec.ofChange qfixOrdersSpec)

/-- ITS FALSE NEIGHBOUR: 'it returns false'. Refute it at one input. -/
def qfixOrdersWrong : ChangeSpec := { name := "qfixOrders", fn := fun _ => fun
  | [d1, d2] => { results := [.lit (.bool false)], args := [d1, d2] }
  | _ => none }
def QfixOrdersWrongFalsely : Prop := qfixOrdersRow.holds Try.pinned (OpenSpec.ofChange qfixOrdersWrong)

/-- 'alidadelaw01.QfixRises': WHATEVER THE INPUT: true; the input reads as it did. -/
def qfixRisesSpec : ChangeSpec := { name := "qfixRises", fn := fun _ => fun
  | [d1, d2, d3] => { results := [.lit (.bool true)], args := [d1, d2, d3] }
  | _ => none }
def qfixRisesRow : OpenClaim := { program := "ytpcajdmbfclfpaa", sum := "72908e1cd6f8587d7b8caf1352623874263d44ffd76b0aa509649e3c8e8eae06", func := "alidade/alidadelaw01.QfixRises", spec := "qfixRises", unfollowed := true, recurses := true, named := ["math/bits.divideError", "math/bits.overflowError"], apart := false }
def QfixRisesSaid : Prop := qfixRisesRow.holds Try.pinned (OpenSpec.ofChange qfixRisesSpec)

/-- ITS FALSE NEIGHBOUR: 'it returns false'. Refute it at one input. -/
def qfixRisesWrong : ChangeSpec := { name := "qfixRises", fn := fun _ => fun
  | [d1, d2, d3] => { results := [.lit (.bool false)], args := [d1, d2, d3] }
  | _ => none }
def QfixRisesWrongFalsely : Prop := qfixRisesRow.holds Try.pinned (OpenSpec.ofChange qfixRisesWrong)

/-- 'alidadelaw01.QfixNear': WHATEVER THE INPUT: true; the input reads as it did. -/
def qfixNearSpec : ChangeSpec := { name := "qfixNear", fn := fun _ => fun
  | [d1, d2] => { results := [.lit (.bool true)], args := [d1, d2] }
  | _ => none }
def qfixNearRow : OpenClaim := { program := "ytpcajdmbfclfpaa", sum := "72908e1cd6f8587d7b8caf1352623874263d44ffd76b0aa509649e3c8e8eae06", func := "alidade/alidadelaw01.QfixNear", spec := "qfixNear", unfollowed := true, recurses := true, named := ["math/bits.divideError", "math/bits.overflowError"], apart := false }
def QfixNearSaid : Prop := qfixNearRow.holds Try.pinned (OpenSpec.ofChange qfixNearSpec)

/-- ITS FALSE NEIGHBOUR: 'it returns false'. Refute it at one input. -/
def qfixNearWrong : ChangeSpec := { name := "qfixNear", fn := fun _ => fun
  | [d1, d2] => { results := [.lit (.bool false)], args := [d1, d2] }
  | _ => none }
def QfixNearWrongFalsely : Prop := qfixNearRow.holds Try.pinned (OpenSpec.ofChange qfixNearWrong)

/-- 'alidadelaw01.QfixSigns': WHATEVER THE INPUT: true; the input reads as it did. -/
def qfixSignsSpec : ChangeSpec := { name := "qfixSigns", fn := fun _ => fun
  | [d1, d2] => { results := [.lit (.bool true)], args := [d1, d2] }
  | _ => none }
def qfixSignsRow : OpenClaim := { program := "ytpcajdmbfclfpaa", sum := "72908e1cd6f8587d7b8caf1352623874263d44ffd76b0aa509649e3c8e8eae06", func := "alidade/alidadelaw01.QfixSigns", spec := "qfixSigns", unfollowed := true, recurses := true, named := ["math/bits.divideError", "math/bits.overflowError"], apart := false }
def QfixSignsSaid : Prop := qfixSignsRow.holds Try.pinned (OpenSpec.ofChange qfixSignsSpec)

/-- ITS FALSE NEIGHBOUR: 'it returns false'. Refute it at one input. -/
def qfixSignsWrong : ChangeSpec := { name := "qfixSigns", fn := fun _ => fun
  | [d1, d2] => { results := [.lit (.bool false)], args := [d1, d2] }
  | _ => none }
def QfixSignsWrongFalsely : Prop := qfixSignsRow.holds Try.pinned (OpenSpec.ofChange qfixSignsWrong)

/-- 'alidadelaw01.QfixRoots': WHATEVER THE INPUT: true; the input reads as it did. -/
def qfixRootsSpec : ChangeSpec := { name := "qfixRoots", fn := fun _ => fun
  | [d1, d2] => { results := [.lit (.bool true)], args := [d1, d2] }
  | _ => none }
def qfixRootsRow : OpenClaim := { program := "ytpcajdmbfclfpaa", sum := "72908e1cd6f8587d7b8caf1352623874263d44ffd76b0aa509649e3c8e8eae06", func := "alidade/alidadelaw01.QfixRoots", spec := "qfixRoots", unfollowed := true, recurses := true, named := ["math/bits.divideError", "math/bits.overflowError"], apart := false }
def QfixRootsSaid : Prop := qfixRootsRow.holds Try.pinned (OpenSpec.ofChange qfixRootsSpec)

/-- ITS FALSE NEIGHBOUR: 'it returns false'. Refute it at one input. -/
def qfixRootsWrong : ChangeSpec := { name := "qfixRoots", fn := fun _ => fun
  | [d1, d2] => { results := [.lit (.bool false)], args := [d1, d2] }
  | _ => none }
def QfixRootsWrongFalsely : Prop := qfixRootsRow.holds Try.pinned (OpenSpec.ofChange qfixRootsWrong)

/-- 'alidadelaw01.QfixHalves': WHATEVER THE INPUT: true; the input reads as it did. -/
def qfixHalvesSpec : ChangeSpec := { name := "qfixHalves", fn := fun _ => fun
  | [d1, d2] => { results := [.lit (.bool true)], args := [d1, d2] }
  | _ => none }
def qfixHalvesRow : OpenClaim := { program := "ytpcajdmbfclfpaa", sum := "72908e1cd6f8587d7b8caf1352623874263d44ffd76b0aa509649e3c8e8eae06", func := "alidade/alidadelaw01.QfixHalves", spec := "qfixHalves", unfollowed := true, recurses := true, named := ["math/bits.divideError", "math/bits.overflowError"], apart := false }
def QfixHalvesSaid : Prop := qfixHalvesRow.holds Try.pinned (OpenSpec.ofChange qfixHalvesSpec)

/-- ITS FALSE NEIGHBOUR: 'it returns false'. Refute it at one input. -/
def qfixHalvesWrong : ChangeSpec := { name := "qfixHalves", fn := fun _ => fun
  | [d1, d2] => { results := [.lit (.bool false)], args := [d1, d2] }
  | _ => none }
def QfixHalvesWrongFalsely : Prop := qfixHalvesRow.holds Try.pinned (OpenSpec.ofChange qfixHalvesWrong)

/- THE SECOND FORM. 'bulk': how many values and letters a reading holds, each counted each time it is reached (what is shared counts as often as it is met; a slice's spare places count too). A statement '..UptoSaid' is the law's where the arguments, and the package variables that the reading takes, are together of bulk at most 1048576: NARROWER than '..Said'. Prove '..Said' where nothing that the law and all that it calls make is longer than what came in: it says more and counts as full. Else prove '..UptoSaid'. A law counts once. -/
mutual
def uptoBulk {H : Type} : DataW H → Nat
  | .lit (.string bytes) => bytes.length + 1
  | .lit _ => 1
  | .nil => 1
  | .ptr d => uptoBulk d + 1
  | .slice elems spare => uptoBulkAll elems + uptoBulkAll spare + 1
  | .agg parts => uptoBulkAll parts + 1
  | .iface _ d => uptoBulk d + 1
  | .map entries => uptoBulkEntries entries + 1
  | .held _ => 1
def uptoBulkAll {H : Type} : List (DataW H) → Nat
  | [] => 0
  | d :: r => uptoBulk d + uptoBulkAll r
def uptoBulkEntries {H : Type} : List (Lit × DataW H) → Nat
  | [] => 0
  | x :: r => uptoBulkEntry x + uptoBulkEntries r
def uptoBulkEntry {H : Type} : Lit × DataW H → Nat
  | (.string bytes, d) => bytes.length + uptoBulk d + 1
  | (_, d) => uptoBulk d + 1
 end
def uptoSmall : (H : Type) → List (DataW H) → Bool := fun _ ds => decide (uptoBulkAll ds ≤ 1048576)
def OpenSpec.upto (s : _root_.Go.ChangeSpec) : _root_.Go.OpenSpec := { _root_.Go.OpenSpec.ofChange s with cond := some uptoSmall }

/-- 'alidadelaw01.QfixReckons', WHERE WHAT IT READS IS OF BULK AT MOST 1048576: true; the input reads as it did. -/
def qfixReckonsUptoRow : OpenClaim := { program := "ytpcajdmbfclfpaa", sum := "72908e1cd6f8587d7b8caf1352623874263d44ffd76b0aa509649e3c8e8eae06", func := "alidade/alidadelaw01.QfixReckons", spec := "qfixReckons", unfollowed := true, recurses := true, named := ["math/bits.divideError", "math/bits.overflowError"], apart := false, narrowed := true }
def QfixReckonsUptoSaid : Prop := qfixReckonsUptoRow.holds Try.pinned (OpenSpec.upto qfixReckonsSpec)

/-- 'alidadelaw01.QfixWholes', WHERE WHAT IT READS IS OF BULK AT MOST 1048576: true; the input reads as it did. -/
def qfixWholesUptoRow : OpenClaim := { program := "ytpcajdmbfclfpaa", sum := "72908e1cd6f8587d7b8caf1352623874263d44ffd76b0aa509649e3c8e8eae06", func := "alidade/alidadelaw01.QfixWholes", spec := "qfixWholes", unfollowed := true, recurses := true, named := ["math/bits.divideError", "math/bits.overflowError"], apart := false, narrowed := true }
def QfixWholesUptoSaid : Prop := qfixWholesUptoRow.holds Try.pinned (OpenSpec.upto qfixWholesSpec)

/-- 'alidadelaw01.QfixBounds', WHERE WHAT IT READS IS OF BULK AT MOST 1048576: true; the input reads as it did. -/
def qfixBoundsUptoRow : OpenClaim := { program := "ytpcajdmbfclfpaa", sum := "72908e1cd6f8587d7b8caf1352623874263d44ffd76b0aa509649e3c8e8eae06", func := "alidade/alidadelaw01.QfixBounds", spec := "qfixBounds", unfollowed := true, recurses := true, named := ["math/bits.divideError", "math/bits.overflowError"], apart := false, narrowed := true }
def QfixBoundsUptoSaid : Prop := qfixBoundsUptoRow.holds Try.pinned (OpenSpec.upto qfixBoundsSpec)

/-- 'alidadelaw01.QfixOrders', WHERE WHAT IT READS IS OF BULK AT MOST 1048576: true; the input reads as it did. -/
def qfixOrdersUptoRow : OpenClaim := { program := "ytpcajdmbfclfpaa", sum := "72908e1cd6f8587d7b8caf1352623874263d44ffd76b0aa509649e3c8e8eae06", func := "alidade/alidadelaw01.QfixOrders", spec := "qfixOrders", unfollowed := true, recurses := true, named := ["math/bits.divideError", "math/bits.overflowError"], apart := false, narrowed := true }
def QfixOrdersUptoSaid : Prop := qfixOrdersUptoRow.holds Try.pinned (OpenSpec.upto qfixOrdersSpec)

/-- 'alidadelaw01.QfixRises', WHERE WHAT IT READS IS OF BULK AT MOST 1048576: true; the input reads as it did. -/
def qfixRisesUptoRow : OpenClaim := { program := "ytpcajdmbfclfpaa", sum := "72908e1cd6f8587d7b8caf1352623874263d44ffd76b0aa509649e3c8e8eae06", func := "alidade/alidadelaw01.QfixRises", spec := "qfixRises", unfollowed := true, recurses := true, named := ["math/bits.divideError", "math/bits.overflowError"], apart := false, narrowed := true }
def QfixRisesUptoSaid : Prop := qfixRisesUptoRow.holds Try.pinned (OpenSpec.upto qfixRisesSpec)

/-- 'alidadelaw01.QfixNear', WHERE WHAT IT READS IS OF BULK AT MOST 1048576: true; the input reads as it did. -/
def qfixNearUptoRow : OpenClaim := { program := "ytpcajdmbfclfpaa", sum := "72908e1cd6f8587d7b8caf1352623874263d44ffd76b0aa509649e3c8e8eae06", func := "alidade/alidadelaw01.QfixNear", spec := "qfixNear", unfollowed := true, recurses := true, named := ["math/bits.divideError", "math/bits.overflowError"], apart := false, narrowed := true }
def QfixNearUptoSaid : Prop := qfixNearUptoRow.holds Try.pinned (OpenSpec.upto qfixNearSpec)

/-- 'alidadelaw01.QfixSigns', WHERE WHAT IT READS IS OF BULK AT MOST 1048576: true; the input reads as it did. -/
def qfixSignsUptoRow : OpenClaim := { program := "ytpcajdmbfclfpaa", sum := "72908e1cd6f8587d7b8caf1352623874263d44ffd76b0aa509649e3c8e8eae06", func := "alidade/alidadelaw01.QfixSigns", spec := "qfixSigns", unfollowed := true, recurses := true, named := ["math/bits.divideError", "math/bits.overflowError"], apart := false, narrowed := true }
def QfixSignsUptoSaid : Prop := qfixSignsUptoRow.holds Try.pinned (OpenSpec.upto qfixSignsSpec)

/-- 'alidadelaw01.QfixRoots', WHERE WHAT IT READS IS OF BULK AT MOST 1048576: true; the input reads as it did. -/
def qfixRootsUptoRow : OpenClaim := { program := "ytpcajdmbfclfpaa", sum := "72908e1cd6f8587d7b8caf1352623874263d44ffd76b0aa509649e3c8e8eae06", func := "alidade/alidadelaw01.QfixRoots", spec := "qfixRoots", unfollowed := true, recurses := true, named := ["math/bits.divideError", "math/bits.overflowError"], apart := false, narrowed := true }
def QfixRootsUptoSaid : Prop := qfixRootsUptoRow.holds Try.pinned (OpenSpec.upto qfixRootsSpec)

/-- 'alidadelaw01.QfixHalves', WHERE WHAT IT READS IS OF BULK AT MOST 1048576: true; the input reads as it did. -/
def qfixHalvesUptoRow : OpenClaim := { program := "ytpcajdmbfclfpaa", sum := "72908e1cd6f8587d7b8caf1352623874263d44ffd76b0aa509649e3c8e8eae06", func := "alidade/alidadelaw01.QfixHalves", spec := "qfixHalves", unfollowed := true, recurses := true, named := ["math/bits.divideError", "math/bits.overflowError"], apart := false, narrowed := true }
def QfixHalvesUptoSaid : Prop := qfixHalvesUptoRow.holds Try.pinned (OpenSpec.upto qfixHalvesSpec)

end Rows
end Go.Proofs.Ytpcajdmbfclfpaa
