/-
  DERIVED. GIVEN WITH THE SEED: THE CARDS: each row of YtdfpnicpcndkjaaDoorRows.lean that lists a variable, with what it lists TIED to the program's text (the seventh form; the later family's looks); each row that meets fmt, with fmt's text TOLD by the authors' own Lean function (tested against real Go, not proved from fmt's source: count such statements apart). THE CARD IS WHAT COUNTS. Prove the row's statement (the work); the ties are given (YtdfpnicpcndkjaaDoorTie.lean); close each card by the builder's one call (the guide's Derived/Test/ToyasCard.lean, 'card_holds'). Laid BY PROGRAM, IN A SANDBOX (cutbox-door.mjs). By AI agents, Wed Nov 11 2026. No macro, syntax, notation, axiom, sorry.
-/
import Derived.Test.YtdfpnicpcndkjaaDoorRows
import GoSem.ClaimSeven
namespace Go.Proofs.YtdfpnicpcndkjaaDoor
namespace Rows

/-- THE TIED CARD OF 'timeballlaw09.PebbleDoes'. -/
def pebbleDoesCard : Claim7 := { stood := { row := pebbleDoesRow, standIns := [], harness := (true, "94afaeade294cb821a54bcc868d09869ef37e71673ebcdac40c8e1a9397363af"), looks := false }, kinds := [], alts := [], laidByText := true, laidKinds := [.data, .data], laidTests := true, laidLooks := .later }
def PebbleDoesCardSaid : Prop := Claim7.holds Tryd.pinned (.plain (OpenSpec.ofChange pebbleDoesSpec)) pebbleDoesCard

/-- THE TIED CARD OF 'timeballlaw09.PebbleAll'. -/
def pebbleAllCard : Claim7 := { stood := { row := pebbleAllRow, standIns := [], harness := (true, "94afaeade294cb821a54bcc868d09869ef37e71673ebcdac40c8e1a9397363af"), looks := false }, kinds := [], alts := [], laidByText := true, laidKinds := [.data, .data], laidTests := true, laidLooks := .later }
def PebbleAllCardSaid : Prop := Claim7.holds Tryd.pinned (.plain (OpenSpec.ofChange pebbleAllSpec)) pebbleAllCard

/-- THE TIED CARD OF 'timeballlaw09.PebbleFew'. -/
def pebbleFewCard : Claim7 := { stood := { row := pebbleFewRow, standIns := [], harness := (true, "94afaeade294cb821a54bcc868d09869ef37e71673ebcdac40c8e1a9397363af"), looks := false }, kinds := [], alts := [], laidByText := true, laidKinds := [.data, .data], laidTests := true, laidLooks := .later }
def PebbleFewCardSaid : Prop := Claim7.holds Tryd.pinned (.plain (OpenSpec.ofChange pebbleFewSpec)) pebbleFewCard

/-- THE TIED CARD OF 'timeballlaw09.PebbleSkips'. -/
def pebbleSkipsCard : Claim7 := { stood := { row := pebbleSkipsRow, standIns := [], harness := (true, "94afaeade294cb821a54bcc868d09869ef37e71673ebcdac40c8e1a9397363af"), looks := false }, kinds := [], alts := [], laidByText := true, laidKinds := [.data, .data], laidTests := true, laidLooks := .later }
def PebbleSkipsCardSaid : Prop := Claim7.holds Tryd.pinned (.plain (OpenSpec.ofChange pebbleSkipsSpec)) pebbleSkipsCard

/-- THE TIED CARD OF 'timeballlaw09.PebbleTwo'. -/
def pebbleTwoCard : Claim7 := { stood := { row := pebbleTwoRow, standIns := [], harness := (true, "94afaeade294cb821a54bcc868d09869ef37e71673ebcdac40c8e1a9397363af"), looks := false }, kinds := [], alts := [], laidByText := true, laidKinds := [.data, .data], laidTests := true, laidLooks := .later }
def PebbleTwoCardSaid : Prop := Claim7.holds Tryd.pinned (.plain (OpenSpec.ofChange pebbleTwoSpec)) pebbleTwoCard

/-- THE TIED CARD OF 'timeballlaw09.PebbleEnds'. -/
def pebbleEndsCard : Claim7 := { stood := { row := pebbleEndsRow, standIns := [], harness := (true, "94afaeade294cb821a54bcc868d09869ef37e71673ebcdac40c8e1a9397363af"), looks := false }, kinds := [], alts := [], laidByText := true, laidKinds := [.data, .data], laidTests := true, laidLooks := .later }
def PebbleEndsCardSaid : Prop := Claim7.holds Tryd.pinned (.plain (OpenSpec.ofChange pebbleEndsSpec)) pebbleEndsCard

/-- THE SECOND FORM's CARD OF 'timeballlaw09.PebbleDoes'. -/
def pebbleDoesUptoCard : Claim7 := { stood := { row := pebbleDoesUptoRow, standIns := [], harness := (true, "94afaeade294cb821a54bcc868d09869ef37e71673ebcdac40c8e1a9397363af"), looks := false }, kinds := [], alts := [], laidByText := true, laidKinds := [.data, .data], laidTests := true, laidLooks := .later }
def PebbleDoesUptoCardSaid : Prop := Claim7.holds Tryd.pinned (.plain (OpenSpec.upto pebbleDoesSpec)) pebbleDoesUptoCard

/-- THE SECOND FORM's CARD OF 'timeballlaw09.PebbleAll'. -/
def pebbleAllUptoCard : Claim7 := { stood := { row := pebbleAllUptoRow, standIns := [], harness := (true, "94afaeade294cb821a54bcc868d09869ef37e71673ebcdac40c8e1a9397363af"), looks := false }, kinds := [], alts := [], laidByText := true, laidKinds := [.data, .data], laidTests := true, laidLooks := .later }
def PebbleAllUptoCardSaid : Prop := Claim7.holds Tryd.pinned (.plain (OpenSpec.upto pebbleAllSpec)) pebbleAllUptoCard

/-- THE SECOND FORM's CARD OF 'timeballlaw09.PebbleFew'. -/
def pebbleFewUptoCard : Claim7 := { stood := { row := pebbleFewUptoRow, standIns := [], harness := (true, "94afaeade294cb821a54bcc868d09869ef37e71673ebcdac40c8e1a9397363af"), looks := false }, kinds := [], alts := [], laidByText := true, laidKinds := [.data, .data], laidTests := true, laidLooks := .later }
def PebbleFewUptoCardSaid : Prop := Claim7.holds Tryd.pinned (.plain (OpenSpec.upto pebbleFewSpec)) pebbleFewUptoCard

/-- THE SECOND FORM's CARD OF 'timeballlaw09.PebbleSkips'. -/
def pebbleSkipsUptoCard : Claim7 := { stood := { row := pebbleSkipsUptoRow, standIns := [], harness := (true, "94afaeade294cb821a54bcc868d09869ef37e71673ebcdac40c8e1a9397363af"), looks := false }, kinds := [], alts := [], laidByText := true, laidKinds := [.data, .data], laidTests := true, laidLooks := .later }
def PebbleSkipsUptoCardSaid : Prop := Claim7.holds Tryd.pinned (.plain (OpenSpec.upto pebbleSkipsSpec)) pebbleSkipsUptoCard

/-- THE SECOND FORM's CARD OF 'timeballlaw09.PebbleTwo'. -/
def pebbleTwoUptoCard : Claim7 := { stood := { row := pebbleTwoUptoRow, standIns := [], harness := (true, "94afaeade294cb821a54bcc868d09869ef37e71673ebcdac40c8e1a9397363af"), looks := false }, kinds := [], alts := [], laidByText := true, laidKinds := [.data, .data], laidTests := true, laidLooks := .later }
def PebbleTwoUptoCardSaid : Prop := Claim7.holds Tryd.pinned (.plain (OpenSpec.upto pebbleTwoSpec)) pebbleTwoUptoCard

/-- THE SECOND FORM's CARD OF 'timeballlaw09.PebbleEnds'. -/
def pebbleEndsUptoCard : Claim7 := { stood := { row := pebbleEndsUptoRow, standIns := [], harness := (true, "94afaeade294cb821a54bcc868d09869ef37e71673ebcdac40c8e1a9397363af"), looks := false }, kinds := [], alts := [], laidByText := true, laidKinds := [.data, .data], laidTests := true, laidLooks := .later }
def PebbleEndsUptoCardSaid : Prop := Claim7.holds Tryd.pinned (.plain (OpenSpec.upto pebbleEndsSpec)) pebbleEndsUptoCard
end Rows
end Go.Proofs.YtdfpnicpcndkjaaDoor
