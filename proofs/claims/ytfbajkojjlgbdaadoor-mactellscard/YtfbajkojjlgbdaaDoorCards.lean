/-
  DERIVED. GIVEN WITH THE SEED: THE CARDS: each row of YtfbajkojjlgbdaaDoorRows.lean that lists a variable, with what it lists TIED to the program's text (the seventh form; the later family's looks); each row that meets fmt, with fmt's text TOLD by the authors' own Lean function (tested against real Go, not proved from fmt's source: count such statements apart). THE CARD IS WHAT COUNTS. Prove the row's statement (the work); the ties are given (YtfbajkojjlgbdaaDoorTie.lean); close each card by the builder's one call (the guide's Derived/Test/ToyasCard.lean, 'card_holds'). Laid BY PROGRAM, IN A SANDBOX (cutbox-door.mjs). By AI agents, Wed Nov 11 2026. No macro, syntax, notation, axiom, sorry.
-/
import Derived.Test.YtfbajkojjlgbdaaDoorRows
import GoSem.ClaimSeven
namespace Go.Proofs.YtfbajkojjlgbdaaDoor
namespace Rows

/-- THE TIED CARD OF 'timeballlaw03.MacTells'. -/
def macTellsCard : Claim7 := { stood := { row := macTellsRow, standIns := [], harness := (true, "7f72007d10962547daee13e4310a513c48e62a46396415e3409f0dc1d34edbab"), looks := false }, kinds := [], alts := [], laidByText := true, laidKinds := [.data, .data], laidTests := true, laidLooks := .later }
def MacTellsCardSaid : Prop := Claim7.holds Tryd.pinned (.plain (OpenSpec.ofChange macTellsSpec)) macTellsCard

/-- THE TIED CARD OF 'timeballlaw03.MacWith'. -/
def macWithCard : Claim7 := { stood := { row := macWithRow, standIns := [], harness := (true, "7f72007d10962547daee13e4310a513c48e62a46396415e3409f0dc1d34edbab"), looks := false }, kinds := [], alts := [], laidByText := true, laidKinds := [.data, .data], laidTests := true, laidLooks := .later }
def MacWithCardSaid : Prop := Claim7.holds Tryd.pinned (.plain (OpenSpec.ofChange macWithSpec)) macWithCard

/-- THE TIED CARD OF 'timeballlaw03.MacShort'. -/
def macShortCard : Claim7 := { stood := { row := macShortRow, standIns := [], harness := (true, "7f72007d10962547daee13e4310a513c48e62a46396415e3409f0dc1d34edbab"), looks := false }, kinds := [], alts := [], laidByText := true, laidKinds := [.data, .data], laidTests := true, laidLooks := .later }
def MacShortCardSaid : Prop := Claim7.holds Tryd.pinned (.plain (OpenSpec.ofChange macShortSpec)) macShortCard

/-- THE TIED CARD OF 'timeballlaw03.MacPads'. -/
def macPadsCard : Claim7 := { stood := { row := macPadsRow, standIns := [], harness := (true, "7f72007d10962547daee13e4310a513c48e62a46396415e3409f0dc1d34edbab"), looks := false }, kinds := [], alts := [], laidByText := true, laidKinds := [.data, .data], laidTests := true, laidLooks := .later }
def MacPadsCardSaid : Prop := Claim7.holds Tryd.pinned (.plain (OpenSpec.ofChange macPadsSpec)) macPadsCard

/-- THE TIED CARD OF 'timeballlaw03.MacNames'. -/
def macNamesCard : Claim7 := { stood := { row := macNamesRow, standIns := [], harness := (true, "7f72007d10962547daee13e4310a513c48e62a46396415e3409f0dc1d34edbab"), looks := false }, kinds := [], alts := [], laidByText := true, laidKinds := [.data, .data], laidTests := true, laidLooks := .later }
def MacNamesCardSaid : Prop := Claim7.holds Tryd.pinned (.plain (OpenSpec.ofChange macNamesSpec)) macNamesCard

/-- THE TIED CARD OF 'timeballlaw03.MacBegins'. -/
def macBeginsCard : Claim7 := { stood := { row := macBeginsRow, standIns := [], harness := (true, "7f72007d10962547daee13e4310a513c48e62a46396415e3409f0dc1d34edbab"), looks := false }, kinds := [], alts := [], laidByText := true, laidKinds := [.data, .data], laidTests := true, laidLooks := .later }
def MacBeginsCardSaid : Prop := Claim7.holds Tryd.pinned (.plain (OpenSpec.ofChange macBeginsSpec)) macBeginsCard

/-- THE SECOND FORM's CARD OF 'timeballlaw03.MacTells'. -/
def macTellsUptoCard : Claim7 := { stood := { row := macTellsUptoRow, standIns := [], harness := (true, "7f72007d10962547daee13e4310a513c48e62a46396415e3409f0dc1d34edbab"), looks := false }, kinds := [], alts := [], laidByText := true, laidKinds := [.data, .data], laidTests := true, laidLooks := .later }
def MacTellsUptoCardSaid : Prop := Claim7.holds Tryd.pinned (.plain (OpenSpec.upto macTellsSpec)) macTellsUptoCard

/-- THE SECOND FORM's CARD OF 'timeballlaw03.MacWith'. -/
def macWithUptoCard : Claim7 := { stood := { row := macWithUptoRow, standIns := [], harness := (true, "7f72007d10962547daee13e4310a513c48e62a46396415e3409f0dc1d34edbab"), looks := false }, kinds := [], alts := [], laidByText := true, laidKinds := [.data, .data], laidTests := true, laidLooks := .later }
def MacWithUptoCardSaid : Prop := Claim7.holds Tryd.pinned (.plain (OpenSpec.upto macWithSpec)) macWithUptoCard

/-- THE SECOND FORM's CARD OF 'timeballlaw03.MacShort'. -/
def macShortUptoCard : Claim7 := { stood := { row := macShortUptoRow, standIns := [], harness := (true, "7f72007d10962547daee13e4310a513c48e62a46396415e3409f0dc1d34edbab"), looks := false }, kinds := [], alts := [], laidByText := true, laidKinds := [.data, .data], laidTests := true, laidLooks := .later }
def MacShortUptoCardSaid : Prop := Claim7.holds Tryd.pinned (.plain (OpenSpec.upto macShortSpec)) macShortUptoCard

/-- THE SECOND FORM's CARD OF 'timeballlaw03.MacPads'. -/
def macPadsUptoCard : Claim7 := { stood := { row := macPadsUptoRow, standIns := [], harness := (true, "7f72007d10962547daee13e4310a513c48e62a46396415e3409f0dc1d34edbab"), looks := false }, kinds := [], alts := [], laidByText := true, laidKinds := [.data, .data], laidTests := true, laidLooks := .later }
def MacPadsUptoCardSaid : Prop := Claim7.holds Tryd.pinned (.plain (OpenSpec.upto macPadsSpec)) macPadsUptoCard

/-- THE SECOND FORM's CARD OF 'timeballlaw03.MacNames'. -/
def macNamesUptoCard : Claim7 := { stood := { row := macNamesUptoRow, standIns := [], harness := (true, "7f72007d10962547daee13e4310a513c48e62a46396415e3409f0dc1d34edbab"), looks := false }, kinds := [], alts := [], laidByText := true, laidKinds := [.data, .data], laidTests := true, laidLooks := .later }
def MacNamesUptoCardSaid : Prop := Claim7.holds Tryd.pinned (.plain (OpenSpec.upto macNamesSpec)) macNamesUptoCard

/-- THE SECOND FORM's CARD OF 'timeballlaw03.MacBegins'. -/
def macBeginsUptoCard : Claim7 := { stood := { row := macBeginsUptoRow, standIns := [], harness := (true, "7f72007d10962547daee13e4310a513c48e62a46396415e3409f0dc1d34edbab"), looks := false }, kinds := [], alts := [], laidByText := true, laidKinds := [.data, .data], laidTests := true, laidLooks := .later }
def MacBeginsUptoCardSaid : Prop := Claim7.holds Tryd.pinned (.plain (OpenSpec.upto macBeginsSpec)) macBeginsUptoCard
end Rows
end Go.Proofs.YtfbajkojjlgbdaaDoor
