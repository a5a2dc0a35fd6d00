/-
  DERIVED. GIVEN WITH THE SEED: THE CARDS: each row of YtoefekkdjcflmaaGreatDoorRows.lean that lists a variable, with what it lists TIED to the program's text (the seventh form; the later family's looks); each row that meets fmt, with fmt's text TOLD by the authors' own Lean function (tested against real Go, not proved from fmt's source: count such statements apart). THE CARD IS WHAT COUNTS. Prove the row's statement (the work); the ties are given (YtoefekkdjcflmaaGreatDoorTie.lean); close each card by the builder's one call (the guide's Derived/Test/ToyasCard.lean, 'card_holds'). Laid BY PROGRAM, IN A SANDBOX (cutbox-door.mjs). By AI agents, Wed Nov 11 2026. No macro, syntax, notation, axiom, sorry.
-/
import Derived.Test.YtoefekkdjcflmaaGreatDoorRows
import GoSem.ClaimSeven
namespace Go.Proofs.YtoefekkdjcflmaaGreatDoor
namespace Rows

/-- THE TIED CARD OF 'alidadelaw06.EstSteps'. -/
def estStepsCard : Claim7 := { stood := { row := estStepsRow, standIns := [], harness := (true, "3b49dbcb74f5bc9cd2fe34d016c3e727bcf1a14883b8e05a45440cfa73958c38"), looks := false }, kinds := [], alts := [], laidByText := true, laidKinds := [.data], laidTests := true, laidLooks := .later }
def EstStepsCardSaid : Prop := Claim7.holds Tryz.pinned (.plain (OpenSpec.ofChange estStepsSpec)) estStepsCard

/-- THE TIED CARD OF 'alidadelaw06.EstForms'. -/
def estFormsCard : Claim7 := { stood := { row := estFormsRow, standIns := [], harness := (true, "3b49dbcb74f5bc9cd2fe34d016c3e727bcf1a14883b8e05a45440cfa73958c38"), looks := false }, kinds := [], alts := [], laidByText := true, laidKinds := [.data], laidTests := true, laidLooks := .later }
def EstFormsCardSaid : Prop := Claim7.holds Tryz.pinned (.plain (OpenSpec.ofChange estFormsSpec)) estFormsCard

/-- THE TIED CARD OF 'alidadelaw06.EstWords'. -/
def estWordsCard : Claim7 := { stood := { row := estWordsRow, standIns := [], harness := (true, "3b49dbcb74f5bc9cd2fe34d016c3e727bcf1a14883b8e05a45440cfa73958c38"), looks := false }, kinds := [], alts := [], laidByText := true, laidKinds := [.data], laidTests := true, laidLooks := .later }
def EstWordsCardSaid : Prop := Claim7.holds Tryz.pinned (.plain (OpenSpec.ofChange estWordsSpec)) estWordsCard

/-- THE TIED CARD OF 'alidadelaw06.EstStays'. -/
def estStaysCard : Claim7 := { stood := { row := estStaysRow, standIns := [], harness := (true, "3b49dbcb74f5bc9cd2fe34d016c3e727bcf1a14883b8e05a45440cfa73958c38"), looks := false }, kinds := [], alts := [], laidByText := true, laidKinds := [.data], laidTests := true, laidLooks := .later }
def EstStaysCardSaid : Prop := Claim7.holds Tryz.pinned (.plain (OpenSpec.ofChange estStaysSpec)) estStaysCard

/-- THE TIED CARD OF 'alidadelaw06.EstBack'. -/
def estBackCard : Claim7 := { stood := { row := estBackRow, standIns := [], harness := (true, "3b49dbcb74f5bc9cd2fe34d016c3e727bcf1a14883b8e05a45440cfa73958c38"), looks := false }, kinds := [], alts := [], laidByText := true, laidKinds := [.data], laidTests := true, laidLooks := .later }
def EstBackCardSaid : Prop := Claim7.holds Tryz.pinned (.plain (OpenSpec.ofChange estBackSpec)) estBackCard

/-- THE TIED CARD OF 'alidadelaw06.EstSteady'. -/
def estSteadyCard : Claim7 := { stood := { row := estSteadyRow, standIns := [], harness := (true, "3b49dbcb74f5bc9cd2fe34d016c3e727bcf1a14883b8e05a45440cfa73958c38"), looks := false }, kinds := [], alts := [], laidByText := true, laidKinds := [.data], laidTests := true, laidLooks := .later }
def EstSteadyCardSaid : Prop := Claim7.holds Tryz.pinned (.plain (OpenSpec.ofChange estSteadySpec)) estSteadyCard

/-- THE TIED CARD OF 'alidadelaw06.EstCounts'. -/
def estCountsCard : Claim7 := { stood := { row := estCountsRow, standIns := [], harness := (true, "3b49dbcb74f5bc9cd2fe34d016c3e727bcf1a14883b8e05a45440cfa73958c38"), looks := false }, kinds := [], alts := [], laidByText := true, laidKinds := [.data], laidTests := true, laidLooks := .later }
def EstCountsCardSaid : Prop := Claim7.holds Tryz.pinned (.plain (OpenSpec.ofChange estCountsSpec)) estCountsCard

/-- THE TIED CARD OF 'alidadelaw06.EstAlone'. -/
def estAloneCard : Claim7 := { stood := { row := estAloneRow, standIns := [], harness := (true, "3b49dbcb74f5bc9cd2fe34d016c3e727bcf1a14883b8e05a45440cfa73958c38"), looks := false }, kinds := [], alts := [], laidByText := true, laidKinds := [.data], laidTests := true, laidLooks := .later }
def EstAloneCardSaid : Prop := Claim7.holds Tryz.pinned (.plain (OpenSpec.ofChange estAloneSpec)) estAloneCard

/-- THE SECOND FORM's CARD OF 'alidadelaw06.EstSteps'. -/
def estStepsUptoCard : Claim7 := { stood := { row := estStepsUptoRow, standIns := [], harness := (true, "3b49dbcb74f5bc9cd2fe34d016c3e727bcf1a14883b8e05a45440cfa73958c38"), looks := false }, kinds := [], alts := [], laidByText := true, laidKinds := [.data], laidTests := true, laidLooks := .later }
def EstStepsUptoCardSaid : Prop := Claim7.holds Tryz.pinned (.plain (OpenSpec.upto estStepsSpec)) estStepsUptoCard

/-- THE SECOND FORM's CARD OF 'alidadelaw06.EstForms'. -/
def estFormsUptoCard : Claim7 := { stood := { row := estFormsUptoRow, standIns := [], harness := (true, "3b49dbcb74f5bc9cd2fe34d016c3e727bcf1a14883b8e05a45440cfa73958c38"), looks := false }, kinds := [], alts := [], laidByText := true, laidKinds := [.data], laidTests := true, laidLooks := .later }
def EstFormsUptoCardSaid : Prop := Claim7.holds Tryz.pinned (.plain (OpenSpec.upto estFormsSpec)) estFormsUptoCard

/-- THE SECOND FORM's CARD OF 'alidadelaw06.EstWords'. -/
def estWordsUptoCard : Claim7 := { stood := { row := estWordsUptoRow, standIns := [], harness := (true, "3b49dbcb74f5bc9cd2fe34d016c3e727bcf1a14883b8e05a45440cfa73958c38"), looks := false }, kinds := [], alts := [], laidByText := true, laidKinds := [.data], laidTests := true, laidLooks := .later }
def EstWordsUptoCardSaid : Prop := Claim7.holds Tryz.pinned (.plain (OpenSpec.upto estWordsSpec)) estWordsUptoCard

/-- THE SECOND FORM's CARD OF 'alidadelaw06.EstStays'. -/
def estStaysUptoCard : Claim7 := { stood := { row := estStaysUptoRow, standIns := [], harness := (true, "3b49dbcb74f5bc9cd2fe34d016c3e727bcf1a14883b8e05a45440cfa73958c38"), looks := false }, kinds := [], alts := [], laidByText := true, laidKinds := [.data], laidTests := true, laidLooks := .later }
def EstStaysUptoCardSaid : Prop := Claim7.holds Tryz.pinned (.plain (OpenSpec.upto estStaysSpec)) estStaysUptoCard

/-- THE SECOND FORM's CARD OF 'alidadelaw06.EstBack'. -/
def estBackUptoCard : Claim7 := { stood := { row := estBackUptoRow, standIns := [], harness := (true, "3b49dbcb74f5bc9cd2fe34d016c3e727bcf1a14883b8e05a45440cfa73958c38"), looks := false }, kinds := [], alts := [], laidByText := true, laidKinds := [.data], laidTests := true, laidLooks := .later }
def EstBackUptoCardSaid : Prop := Claim7.holds Tryz.pinned (.plain (OpenSpec.upto estBackSpec)) estBackUptoCard

/-- THE SECOND FORM's CARD OF 'alidadelaw06.EstSteady'. -/
def estSteadyUptoCard : Claim7 := { stood := { row := estSteadyUptoRow, standIns := [], harness := (true, "3b49dbcb74f5bc9cd2fe34d016c3e727bcf1a14883b8e05a45440cfa73958c38"), looks := false }, kinds := [], alts := [], laidByText := true, laidKinds := [.data], laidTests := true, laidLooks := .later }
def EstSteadyUptoCardSaid : Prop := Claim7.holds Tryz.pinned (.plain (OpenSpec.upto estSteadySpec)) estSteadyUptoCard

/-- THE SECOND FORM's CARD OF 'alidadelaw06.EstCounts'. -/
def estCountsUptoCard : Claim7 := { stood := { row := estCountsUptoRow, standIns := [], harness := (true, "3b49dbcb74f5bc9cd2fe34d016c3e727bcf1a14883b8e05a45440cfa73958c38"), looks := false }, kinds := [], alts := [], laidByText := true, laidKinds := [.data], laidTests := true, laidLooks := .later }
def EstCountsUptoCardSaid : Prop := Claim7.holds Tryz.pinned (.plain (OpenSpec.upto estCountsSpec)) estCountsUptoCard

/-- THE SECOND FORM's CARD OF 'alidadelaw06.EstAlone'. -/
def estAloneUptoCard : Claim7 := { stood := { row := estAloneUptoRow, standIns := [], harness := (true, "3b49dbcb74f5bc9cd2fe34d016c3e727bcf1a14883b8e05a45440cfa73958c38"), looks := false }, kinds := [], alts := [], laidByText := true, laidKinds := [.data], laidTests := true, laidLooks := .later }
def EstAloneUptoCardSaid : Prop := Claim7.holds Tryz.pinned (.plain (OpenSpec.upto estAloneSpec)) estAloneUptoCard
end Rows
end Go.Proofs.YtoefekkdjcflmaaGreatDoor
