/-
  DERIVED. GIVEN WITH THE SEED: THE CARDS: each row of YtbdfjboojokgdaaGreatDoorRows.lean that lists a variable, with what it lists TIED to the program's text (the seventh form; the later family's looks); each row that meets fmt, with fmt's text TOLD by the authors' own Lean function (tested against real Go, not proved from fmt's source: count such statements apart). THE CARD IS WHAT COUNTS. Prove the row's statement (the work); the ties are given (YtbdfjboojokgdaaGreatDoorTie.lean); close each card by the builder's one call (the guide's Derived/Test/ToyasCard.lean, 'card_holds'). Laid BY PROGRAM, IN A SANDBOX (cutbox-door.mjs). By AI agents, Wed Nov 11 2026. No macro, syntax, notation, axiom, sorry.
-/
import Derived.Test.YtbdfjboojokgdaaGreatDoorRows
import GoSem.ClaimSeven
namespace Go.Proofs.YtbdfjboojokgdaaGreatDoor
namespace Rows

/-- THE TIED CARD OF 'fuguelaw05.TreadTypes'. -/
def treadTypesCard : Claim7 := { stood := { row := treadTypesRow, standIns := [], harness := (true, "0c84a605b43b20cf69b23dd0953eac8f9bed9d33e7f249a23ceed4d89639d77f"), looks := false }, kinds := [], alts := [], laidByText := true, laidKinds := [.data], laidTests := true, laidLooks := .later }
def TreadTypesCardSaid : Prop := Claim7.holds Tryz.pinned (.plain (OpenSpec.ofChange treadTypesSpec)) treadTypesCard

/-- THE TIED CARD OF 'fuguelaw05.TreadSchemes'. -/
def treadSchemesCard : Claim7 := { stood := { row := treadSchemesRow, standIns := [], harness := (true, "0c84a605b43b20cf69b23dd0953eac8f9bed9d33e7f249a23ceed4d89639d77f"), looks := false }, kinds := [], alts := [], laidByText := true, laidKinds := [.data], laidTests := true, laidLooks := .later }
def TreadSchemesCardSaid : Prop := Claim7.holds Tryz.pinned (.plain (OpenSpec.ofChange treadSchemesSpec)) treadSchemesCard

/-- THE TIED CARD OF 'fuguelaw05.TreadRound'. -/
def treadRoundCard : Claim7 := { stood := { row := treadRoundRow, standIns := [], harness := (true, "0c84a605b43b20cf69b23dd0953eac8f9bed9d33e7f249a23ceed4d89639d77f"), looks := false }, kinds := [], alts := [], laidByText := true, laidKinds := [.data, .data, .data, .data], laidTests := true, laidLooks := .later }
def TreadRoundCardSaid : Prop := Claim7.holds Tryz.pinned (.plain (OpenSpec.ofChange treadRoundSpec)) treadRoundCard

/-- THE SECOND FORM's CARD OF 'fuguelaw05.TreadTypes'. -/
def treadTypesUptoCard : Claim7 := { stood := { row := treadTypesUptoRow, standIns := [], harness := (true, "0c84a605b43b20cf69b23dd0953eac8f9bed9d33e7f249a23ceed4d89639d77f"), looks := false }, kinds := [], alts := [], laidByText := true, laidKinds := [.data], laidTests := true, laidLooks := .later }
def TreadTypesUptoCardSaid : Prop := Claim7.holds Tryz.pinned (.plain (OpenSpec.upto treadTypesSpec)) treadTypesUptoCard

/-- THE SECOND FORM's CARD OF 'fuguelaw05.TreadSchemes'. -/
def treadSchemesUptoCard : Claim7 := { stood := { row := treadSchemesUptoRow, standIns := [], harness := (true, "0c84a605b43b20cf69b23dd0953eac8f9bed9d33e7f249a23ceed4d89639d77f"), looks := false }, kinds := [], alts := [], laidByText := true, laidKinds := [.data], laidTests := true, laidLooks := .later }
def TreadSchemesUptoCardSaid : Prop := Claim7.holds Tryz.pinned (.plain (OpenSpec.upto treadSchemesSpec)) treadSchemesUptoCard

/-- THE SECOND FORM's CARD OF 'fuguelaw05.TreadRound'. -/
def treadRoundUptoCard : Claim7 := { stood := { row := treadRoundUptoRow, standIns := [], harness := (true, "0c84a605b43b20cf69b23dd0953eac8f9bed9d33e7f249a23ceed4d89639d77f"), looks := false }, kinds := [], alts := [], laidByText := true, laidKinds := [.data, .data, .data, .data], laidTests := true, laidLooks := .later }
def TreadRoundUptoCardSaid : Prop := Claim7.holds Tryz.pinned (.plain (OpenSpec.upto treadRoundSpec)) treadRoundUptoCard
end Rows
end Go.Proofs.YtbdfjboojokgdaaGreatDoor
