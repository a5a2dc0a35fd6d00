/-
  DERIVED. GIVEN WITH THE SEED: THE CARDS: each row of YtgekignonjfaiaaDoorRows.lean that lists a variable, with what it lists TIED to the program's text (the seventh form; the later family's looks); each row that meets fmt, with fmt's text TOLD by the authors' own Lean function (tested against real Go, not proved from fmt's source: count such statements apart). THE CARD IS WHAT COUNTS. Prove the row's statement (the work); the ties are given (YtgekignonjfaiaaDoorTie.lean); close each card by the builder's one call (the guide's Derived/Test/ToyasCard.lean, 'card_holds'). Laid BY PROGRAM, IN A SANDBOX (cutbox-door.mjs). By AI agents, Wed Nov 11 2026. No macro, syntax, notation, axiom, sorry.
-/
import Derived.Test.YtgekignonjfaiaaDoorRows
import GoSem.ClaimSeven
namespace Go.Proofs.YtgekignonjfaiaaDoor
namespace Rows

/-- THE TIED CARD OF 'alidadelaw04.QuatTells'. -/
def quatTellsCard : Claim7 := { stood := { row := quatTellsRow, standIns := [], harness := (true, "3d273660c965229deac7cff86ebbe9bf33404c51bd3a556f1337693e7973b750"), looks := false }, kinds := [], alts := [], laidByText := true, laidKinds := [.data], laidTests := true, laidLooks := .later }
def QuatTellsCardSaid : Prop := Claim7.holds Tryd.pinned (.plain (OpenSpec.ofChange quatTellsSpec)) quatTellsCard

/-- THE TIED CARD OF 'alidadelaw04.QuatTurns'. -/
def quatTurnsCard : Claim7 := { stood := { row := quatTurnsRow, standIns := [], harness := (true, "3d273660c965229deac7cff86ebbe9bf33404c51bd3a556f1337693e7973b750"), looks := false }, kinds := [], alts := [], laidByText := true, laidKinds := [.data], laidTests := true, laidLooks := .later }
def QuatTurnsCardSaid : Prop := Claim7.holds Tryd.pinned (.plain (OpenSpec.ofChange quatTurnsSpec)) quatTurnsCard

/-- THE TIED CARD OF 'alidadelaw04.QuatUnits'. -/
def quatUnitsCard : Claim7 := { stood := { row := quatUnitsRow, standIns := [], harness := (true, "3d273660c965229deac7cff86ebbe9bf33404c51bd3a556f1337693e7973b750"), looks := false }, kinds := [], alts := [], laidByText := true, laidKinds := [.data], laidTests := true, laidLooks := .later }
def QuatUnitsCardSaid : Prop := Claim7.holds Tryd.pinned (.plain (OpenSpec.ofChange quatUnitsSpec)) quatUnitsCard

/-- THE TIED CARD OF 'alidadelaw04.QuatRounds'. -/
def quatRoundsCard : Claim7 := { stood := { row := quatRoundsRow, standIns := [], harness := (true, "3d273660c965229deac7cff86ebbe9bf33404c51bd3a556f1337693e7973b750"), looks := false }, kinds := [], alts := [], laidByText := true, laidKinds := [.data], laidTests := true, laidLooks := .later }
def QuatRoundsCardSaid : Prop := Claim7.holds Tryd.pinned (.plain (OpenSpec.ofChange quatRoundsSpec)) quatRoundsCard

/-- THE TIED CARD OF 'alidadelaw04.QuatWholes'. -/
def quatWholesCard : Claim7 := { stood := { row := quatWholesRow, standIns := [], harness := (true, "3d273660c965229deac7cff86ebbe9bf33404c51bd3a556f1337693e7973b750"), looks := false }, kinds := [], alts := [], laidByText := true, laidKinds := [.data], laidTests := true, laidLooks := .later }
def QuatWholesCardSaid : Prop := Claim7.holds Tryd.pinned (.plain (OpenSpec.ofChange quatWholesSpec)) quatWholesCard

/-- THE TIED CARD OF 'alidadelaw04.QuatConjs'. -/
def quatConjsCard : Claim7 := { stood := { row := quatConjsRow, standIns := [], harness := (true, "3d273660c965229deac7cff86ebbe9bf33404c51bd3a556f1337693e7973b750"), looks := false }, kinds := [], alts := [], laidByText := true, laidKinds := [.data], laidTests := true, laidLooks := .later }
def QuatConjsCardSaid : Prop := Claim7.holds Tryd.pinned (.plain (OpenSpec.ofChange quatConjsSpec)) quatConjsCard

/-- THE TIED CARD OF 'alidadelaw04.QuatSmalls'. -/
def quatSmallsCard : Claim7 := { stood := { row := quatSmallsRow, standIns := [], harness := (true, "3d273660c965229deac7cff86ebbe9bf33404c51bd3a556f1337693e7973b750"), looks := false }, kinds := [], alts := [], laidByText := true, laidKinds := [.data], laidTests := true, laidLooks := .later }
def QuatSmallsCardSaid : Prop := Claim7.holds Tryd.pinned (.plain (OpenSpec.ofChange quatSmallsSpec)) quatSmallsCard

/-- THE SECOND FORM's CARD OF 'alidadelaw04.QuatTells'. -/
def quatTellsUptoCard : Claim7 := { stood := { row := quatTellsUptoRow, standIns := [], harness := (true, "3d273660c965229deac7cff86ebbe9bf33404c51bd3a556f1337693e7973b750"), looks := false }, kinds := [], alts := [], laidByText := true, laidKinds := [.data], laidTests := true, laidLooks := .later }
def QuatTellsUptoCardSaid : Prop := Claim7.holds Tryd.pinned (.plain (OpenSpec.upto quatTellsSpec)) quatTellsUptoCard

/-- THE SECOND FORM's CARD OF 'alidadelaw04.QuatTurns'. -/
def quatTurnsUptoCard : Claim7 := { stood := { row := quatTurnsUptoRow, standIns := [], harness := (true, "3d273660c965229deac7cff86ebbe9bf33404c51bd3a556f1337693e7973b750"), looks := false }, kinds := [], alts := [], laidByText := true, laidKinds := [.data], laidTests := true, laidLooks := .later }
def QuatTurnsUptoCardSaid : Prop := Claim7.holds Tryd.pinned (.plain (OpenSpec.upto quatTurnsSpec)) quatTurnsUptoCard

/-- THE SECOND FORM's CARD OF 'alidadelaw04.QuatUnits'. -/
def quatUnitsUptoCard : Claim7 := { stood := { row := quatUnitsUptoRow, standIns := [], harness := (true, "3d273660c965229deac7cff86ebbe9bf33404c51bd3a556f1337693e7973b750"), looks := false }, kinds := [], alts := [], laidByText := true, laidKinds := [.data], laidTests := true, laidLooks := .later }
def QuatUnitsUptoCardSaid : Prop := Claim7.holds Tryd.pinned (.plain (OpenSpec.upto quatUnitsSpec)) quatUnitsUptoCard

/-- THE SECOND FORM's CARD OF 'alidadelaw04.QuatRounds'. -/
def quatRoundsUptoCard : Claim7 := { stood := { row := quatRoundsUptoRow, standIns := [], harness := (true, "3d273660c965229deac7cff86ebbe9bf33404c51bd3a556f1337693e7973b750"), looks := false }, kinds := [], alts := [], laidByText := true, laidKinds := [.data], laidTests := true, laidLooks := .later }
def QuatRoundsUptoCardSaid : Prop := Claim7.holds Tryd.pinned (.plain (OpenSpec.upto quatRoundsSpec)) quatRoundsUptoCard

/-- THE SECOND FORM's CARD OF 'alidadelaw04.QuatWholes'. -/
def quatWholesUptoCard : Claim7 := { stood := { row := quatWholesUptoRow, standIns := [], harness := (true, "3d273660c965229deac7cff86ebbe9bf33404c51bd3a556f1337693e7973b750"), looks := false }, kinds := [], alts := [], laidByText := true, laidKinds := [.data], laidTests := true, laidLooks := .later }
def QuatWholesUptoCardSaid : Prop := Claim7.holds Tryd.pinned (.plain (OpenSpec.upto quatWholesSpec)) quatWholesUptoCard

/-- THE SECOND FORM's CARD OF 'alidadelaw04.QuatConjs'. -/
def quatConjsUptoCard : Claim7 := { stood := { row := quatConjsUptoRow, standIns := [], harness := (true, "3d273660c965229deac7cff86ebbe9bf33404c51bd3a556f1337693e7973b750"), looks := false }, kinds := [], alts := [], laidByText := true, laidKinds := [.data], laidTests := true, laidLooks := .later }
def QuatConjsUptoCardSaid : Prop := Claim7.holds Tryd.pinned (.plain (OpenSpec.upto quatConjsSpec)) quatConjsUptoCard

/-- THE SECOND FORM's CARD OF 'alidadelaw04.QuatSmalls'. -/
def quatSmallsUptoCard : Claim7 := { stood := { row := quatSmallsUptoRow, standIns := [], harness := (true, "3d273660c965229deac7cff86ebbe9bf33404c51bd3a556f1337693e7973b750"), looks := false }, kinds := [], alts := [], laidByText := true, laidKinds := [.data], laidTests := true, laidLooks := .later }
def QuatSmallsUptoCardSaid : Prop := Claim7.holds Tryd.pinned (.plain (OpenSpec.upto quatSmallsSpec)) quatSmallsUptoCard
end Rows
end Go.Proofs.YtgekignonjfaiaaDoor
