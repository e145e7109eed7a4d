/-
  DERIVED. GIVEN WITH THE SEED: THE CARDS: each row of YthbnlidfgjgncaaDoorRows.lean that lists a variable, with what it lists TIED to the program's text (the seventh form; the later family's looks); each row that meets fmt, with fmt's text TOLD by the authors' own Lean function (tested against real Go, not proved from fmt's source: count such statements apart). THE CARD IS WHAT COUNTS. Prove the row's statement (the work); the ties are given (YthbnlidfgjgncaaDoorTie.lean); close each card by the builder's one call (the guide's Derived/Test/ToyasCard.lean, 'card_holds'). Laid BY PROGRAM, IN A SANDBOX (cutbox-door.mjs). By AI agents, Wed Nov 11 2026. No macro, syntax, notation, axiom, sorry.
-/
import Derived.Test.YthbnlidfgjgncaaDoorRows
import GoSem.ClaimSeven
namespace Go.Proofs.YthbnlidfgjgncaaDoor
namespace Rows

/-- THE TIED CARD OF 'timeballlaw02.ShaTells'. -/
def shaTellsCard : Claim7 := { stood := { row := shaTellsRow, standIns := [], harness := (true, "e0b46e54076e2d1bb3e0584759dd58468db85973b4a8b69c182fef4f16cce094"), looks := false }, kinds := [], alts := [], laidByText := true, laidKinds := [.data, .data], laidTests := true, laidLooks := .later }
def ShaTellsCardSaid : Prop := Claim7.holds Tryd.pinned (.plain (OpenSpec.ofChange shaTellsSpec)) shaTellsCard

/-- THE TIED CARD OF 'timeballlaw02.ShaWalks'. -/
def shaWalksCard : Claim7 := { stood := { row := shaWalksRow, standIns := [], harness := (true, "e0b46e54076e2d1bb3e0584759dd58468db85973b4a8b69c182fef4f16cce094"), looks := false }, kinds := [], alts := [], laidByText := true, laidKinds := [.data, .data], laidTests := true, laidLooks := .later }
def ShaWalksCardSaid : Prop := Claim7.holds Tryd.pinned (.plain (OpenSpec.ofChange shaWalksSpec)) shaWalksCard

/-- THE TIED CARD OF 'timeballlaw02.ShaPieces'. -/
def shaPiecesCard : Claim7 := { stood := { row := shaPiecesRow, standIns := [], harness := (true, "e0b46e54076e2d1bb3e0584759dd58468db85973b4a8b69c182fef4f16cce094"), looks := false }, kinds := [], alts := [], laidByText := true, laidKinds := [.data, .data], laidTests := true, laidLooks := .later }
def ShaPiecesCardSaid : Prop := Claim7.holds Tryd.pinned (.plain (OpenSpec.ofChange shaPiecesSpec)) shaPiecesCard

/-- THE TIED CARD OF 'timeballlaw02.ShaBranches'. -/
def shaBranchesCard : Claim7 := { stood := { row := shaBranchesRow, standIns := [], harness := (true, "e0b46e54076e2d1bb3e0584759dd58468db85973b4a8b69c182fef4f16cce094"), looks := false }, kinds := [], alts := [], laidByText := true, laidKinds := [.data, .data], laidTests := true, laidLooks := .later }
def ShaBranchesCardSaid : Prop := Claim7.holds Tryd.pinned (.plain (OpenSpec.ofChange shaBranchesSpec)) shaBranchesCard

/-- THE TIED CARD OF 'timeballlaw02.ShaAdds'. -/
def shaAddsCard : Claim7 := { stood := { row := shaAddsRow, standIns := [], harness := (true, "e0b46e54076e2d1bb3e0584759dd58468db85973b4a8b69c182fef4f16cce094"), looks := false }, kinds := [], alts := [], laidByText := true, laidKinds := [.data, .data], laidTests := true, laidLooks := .later }
def ShaAddsCardSaid : Prop := Claim7.holds Tryd.pinned (.plain (OpenSpec.ofChange shaAddsSpec)) shaAddsCard

/-- THE TIED CARD OF 'timeballlaw02.ShaHex'. -/
def shaHexCard : Claim7 := { stood := { row := shaHexRow, standIns := [], harness := (true, "e0b46e54076e2d1bb3e0584759dd58468db85973b4a8b69c182fef4f16cce094"), looks := false }, kinds := [], alts := [], laidByText := true, laidKinds := [.data, .data], laidTests := true, laidLooks := .later }
def ShaHexCardSaid : Prop := Claim7.holds Tryd.pinned (.plain (OpenSpec.ofChange shaHexSpec)) shaHexCard

/-- THE TIED CARD OF 'timeballlaw02.ShaZero'. -/
def shaZeroCard : Claim7 := { stood := { row := shaZeroRow, standIns := [], harness := (true, "e0b46e54076e2d1bb3e0584759dd58468db85973b4a8b69c182fef4f16cce094"), looks := false }, kinds := [], alts := [], laidByText := true, laidKinds := [.data, .data], laidTests := true, laidLooks := .later }
def ShaZeroCardSaid : Prop := Claim7.holds Tryd.pinned (.plain (OpenSpec.ofChange shaZeroSpec)) shaZeroCard

/-- THE SECOND FORM's CARD OF 'timeballlaw02.ShaTells'. -/
def shaTellsUptoCard : Claim7 := { stood := { row := shaTellsUptoRow, standIns := [], harness := (true, "e0b46e54076e2d1bb3e0584759dd58468db85973b4a8b69c182fef4f16cce094"), looks := false }, kinds := [], alts := [], laidByText := true, laidKinds := [.data, .data], laidTests := true, laidLooks := .later }
def ShaTellsUptoCardSaid : Prop := Claim7.holds Tryd.pinned (.plain (OpenSpec.upto shaTellsSpec)) shaTellsUptoCard

/-- THE SECOND FORM's CARD OF 'timeballlaw02.ShaWalks'. -/
def shaWalksUptoCard : Claim7 := { stood := { row := shaWalksUptoRow, standIns := [], harness := (true, "e0b46e54076e2d1bb3e0584759dd58468db85973b4a8b69c182fef4f16cce094"), looks := false }, kinds := [], alts := [], laidByText := true, laidKinds := [.data, .data], laidTests := true, laidLooks := .later }
def ShaWalksUptoCardSaid : Prop := Claim7.holds Tryd.pinned (.plain (OpenSpec.upto shaWalksSpec)) shaWalksUptoCard

/-- THE SECOND FORM's CARD OF 'timeballlaw02.ShaPieces'. -/
def shaPiecesUptoCard : Claim7 := { stood := { row := shaPiecesUptoRow, standIns := [], harness := (true, "e0b46e54076e2d1bb3e0584759dd58468db85973b4a8b69c182fef4f16cce094"), looks := false }, kinds := [], alts := [], laidByText := true, laidKinds := [.data, .data], laidTests := true, laidLooks := .later }
def ShaPiecesUptoCardSaid : Prop := Claim7.holds Tryd.pinned (.plain (OpenSpec.upto shaPiecesSpec)) shaPiecesUptoCard

/-- THE SECOND FORM's CARD OF 'timeballlaw02.ShaBranches'. -/
def shaBranchesUptoCard : Claim7 := { stood := { row := shaBranchesUptoRow, standIns := [], harness := (true, "e0b46e54076e2d1bb3e0584759dd58468db85973b4a8b69c182fef4f16cce094"), looks := false }, kinds := [], alts := [], laidByText := true, laidKinds := [.data, .data], laidTests := true, laidLooks := .later }
def ShaBranchesUptoCardSaid : Prop := Claim7.holds Tryd.pinned (.plain (OpenSpec.upto shaBranchesSpec)) shaBranchesUptoCard

/-- THE SECOND FORM's CARD OF 'timeballlaw02.ShaAdds'. -/
def shaAddsUptoCard : Claim7 := { stood := { row := shaAddsUptoRow, standIns := [], harness := (true, "e0b46e54076e2d1bb3e0584759dd58468db85973b4a8b69c182fef4f16cce094"), looks := false }, kinds := [], alts := [], laidByText := true, laidKinds := [.data, .data], laidTests := true, laidLooks := .later }
def ShaAddsUptoCardSaid : Prop := Claim7.holds Tryd.pinned (.plain (OpenSpec.upto shaAddsSpec)) shaAddsUptoCard

/-- THE SECOND FORM's CARD OF 'timeballlaw02.ShaHex'. -/
def shaHexUptoCard : Claim7 := { stood := { row := shaHexUptoRow, standIns := [], harness := (true, "e0b46e54076e2d1bb3e0584759dd58468db85973b4a8b69c182fef4f16cce094"), looks := false }, kinds := [], alts := [], laidByText := true, laidKinds := [.data, .data], laidTests := true, laidLooks := .later }
def ShaHexUptoCardSaid : Prop := Claim7.holds Tryd.pinned (.plain (OpenSpec.upto shaHexSpec)) shaHexUptoCard

/-- THE SECOND FORM's CARD OF 'timeballlaw02.ShaZero'. -/
def shaZeroUptoCard : Claim7 := { stood := { row := shaZeroUptoRow, standIns := [], harness := (true, "e0b46e54076e2d1bb3e0584759dd58468db85973b4a8b69c182fef4f16cce094"), looks := false }, kinds := [], alts := [], laidByText := true, laidKinds := [.data, .data], laidTests := true, laidLooks := .later }
def ShaZeroUptoCardSaid : Prop := Claim7.holds Tryd.pinned (.plain (OpenSpec.upto shaZeroSpec)) shaZeroUptoCard
end Rows
end Go.Proofs.YthbnlidfgjgncaaDoor
