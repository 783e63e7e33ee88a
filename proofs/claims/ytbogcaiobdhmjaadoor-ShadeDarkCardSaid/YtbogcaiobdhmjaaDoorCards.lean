/-
  DERIVED. GIVEN WITH THE SEED: THE CARDS: each row of YtbogcaiobdhmjaaDoorRows.lean that lists a variable, with what it lists TIED to the program's text (the seventh form; the later family's looks); each row that meets fmt, with fmt's text TOLD by the authors' own Lean function (tested against real Go, not proved from fmt's source: count such statements apart). THE CARD IS WHAT COUNTS. Prove the row's statement (the work); the ties are given (YtbogcaiobdhmjaaDoorTie.lean); close each card by the builder's one call (the guide's Derived/Test/ToyasCard.lean, 'card_holds'). Laid BY PROGRAM, IN A SANDBOX (cutbox-door.mjs). By AI agents, Wed Nov 11 2026. No macro, syntax, notation, axiom, sorry.
-/
import Derived.Test.YtbogcaiobdhmjaaDoorRows
import GoSem.ClaimSeven
namespace Go.Proofs.YtbogcaiobdhmjaaDoor
namespace Rows

/-- THE TIED CARD OF 'wainscotlaw28.ShadeTells'. -/
def shadeTellsCard : Claim7 := { stood := { row := shadeTellsRow, standIns := [], harness := (true, "2f2dbb0668b6c2420a931b531d470076169832c3f28aa36885c17c074773e4e7"), looks := false }, kinds := [], alts := [], laidByText := true, laidKinds := [.data], laidTests := true, laidLooks := .later }
def ShadeTellsCardSaid : Prop := Claim7.holds Tryd.pinned (.plain (OpenSpec.ofChange shadeTellsSpec)) shadeTellsCard

/-- THE TIED CARD OF 'wainscotlaw28.ShadeHangs'. -/
def shadeHangsCard : Claim7 := { stood := { row := shadeHangsRow, standIns := [], harness := (true, "2f2dbb0668b6c2420a931b531d470076169832c3f28aa36885c17c074773e4e7"), looks := false }, kinds := [], alts := [], laidByText := true, laidKinds := [.data], laidTests := true, laidLooks := .later }
def ShadeHangsCardSaid : Prop := Claim7.holds Tryd.pinned (.plain (OpenSpec.ofChange shadeHangsSpec)) shadeHangsCard

/-- THE TIED CARD OF 'wainscotlaw28.ShadeDark'. -/
def shadeDarkCard : Claim7 := { stood := { row := shadeDarkRow, standIns := [], harness := (true, "2f2dbb0668b6c2420a931b531d470076169832c3f28aa36885c17c074773e4e7"), looks := false }, kinds := [], alts := [], laidByText := true, laidKinds := [.data], laidTests := true, laidLooks := .later }
def ShadeDarkCardSaid : Prop := Claim7.holds Tryd.pinned (.plain (OpenSpec.ofChange shadeDarkSpec)) shadeDarkCard

/-- THE SECOND FORM's CARD OF 'wainscotlaw28.ShadeTells'. -/
def shadeTellsUptoCard : Claim7 := { stood := { row := shadeTellsUptoRow, standIns := [], harness := (true, "2f2dbb0668b6c2420a931b531d470076169832c3f28aa36885c17c074773e4e7"), looks := false }, kinds := [], alts := [], laidByText := true, laidKinds := [.data], laidTests := true, laidLooks := .later }
def ShadeTellsUptoCardSaid : Prop := Claim7.holds Tryd.pinned (.plain (OpenSpec.upto shadeTellsSpec)) shadeTellsUptoCard

/-- THE SECOND FORM's CARD OF 'wainscotlaw28.ShadeHangs'. -/
def shadeHangsUptoCard : Claim7 := { stood := { row := shadeHangsUptoRow, standIns := [], harness := (true, "2f2dbb0668b6c2420a931b531d470076169832c3f28aa36885c17c074773e4e7"), looks := false }, kinds := [], alts := [], laidByText := true, laidKinds := [.data], laidTests := true, laidLooks := .later }
def ShadeHangsUptoCardSaid : Prop := Claim7.holds Tryd.pinned (.plain (OpenSpec.upto shadeHangsSpec)) shadeHangsUptoCard

/-- THE SECOND FORM's CARD OF 'wainscotlaw28.ShadeDark'. -/
def shadeDarkUptoCard : Claim7 := { stood := { row := shadeDarkUptoRow, standIns := [], harness := (true, "2f2dbb0668b6c2420a931b531d470076169832c3f28aa36885c17c074773e4e7"), looks := false }, kinds := [], alts := [], laidByText := true, laidKinds := [.data], laidTests := true, laidLooks := .later }
def ShadeDarkUptoCardSaid : Prop := Claim7.holds Tryd.pinned (.plain (OpenSpec.upto shadeDarkSpec)) shadeDarkUptoCard
end Rows
end Go.Proofs.YtbogcaiobdhmjaaDoor
