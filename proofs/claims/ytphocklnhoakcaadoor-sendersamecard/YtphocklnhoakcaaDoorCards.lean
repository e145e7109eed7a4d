/-
  DERIVED. GIVEN WITH THE SEED: THE CARDS: each row of YtphocklnhoakcaaDoorRows.lean that lists a variable, with what it lists TIED to the program's text (the seventh form; the later family's looks); each row that meets fmt, with fmt's text TOLD by the authors' own Lean function (tested against real Go, not proved from fmt's source: count such statements apart). THE CARD IS WHAT COUNTS. Prove the row's statement (the work); the ties are given (YtphocklnhoakcaaDoorTie.lean); close each card by the builder's one call (the guide's Derived/Test/ToyasCard.lean, 'card_holds'). Laid BY PROGRAM, IN A SANDBOX (cutbox-door.mjs). By AI agents, Wed Nov 11 2026. No macro, syntax, notation, axiom, sorry.
-/
import Derived.Test.YtphocklnhoakcaaDoorRows
import GoSem.ClaimSeven
namespace Go.Proofs.YtphocklnhoakcaaDoor
namespace Rows

/-- THE TIED CARD OF 'timeballlaw12.SenderSends'. -/
def senderSendsCard : Claim7 := { stood := { row := senderSendsRow, standIns := [], harness := (true, "965787ba06ef81ee632b1ceece21ba1ef4917c23bd11385d736d0ff1ba67b753"), looks := false }, kinds := [], alts := [], laidByText := true, laidKinds := [.data, .data], laidTests := true, laidLooks := .later }
def SenderSendsCardSaid : Prop := Claim7.holds Tryd.pinned (.plain (OpenSpec.ofChange senderSendsSpec)) senderSendsCard

/-- THE TIED CARD OF 'timeballlaw12.SenderTags'. -/
def senderTagsCard : Claim7 := { stood := { row := senderTagsRow, standIns := [], harness := (true, "965787ba06ef81ee632b1ceece21ba1ef4917c23bd11385d736d0ff1ba67b753"), looks := false }, kinds := [], alts := [], laidByText := true, laidKinds := [.data, .data], laidTests := true, laidLooks := .later }
def SenderTagsCardSaid : Prop := Claim7.holds Tryd.pinned (.plain (OpenSpec.ofChange senderTagsSpec)) senderTagsCard

/-- THE TIED CARD OF 'timeballlaw12.SenderTells'. -/
def senderTellsCard : Claim7 := { stood := { row := senderTellsRow, standIns := [], harness := (true, "965787ba06ef81ee632b1ceece21ba1ef4917c23bd11385d736d0ff1ba67b753"), looks := false }, kinds := [], alts := [], laidByText := true, laidKinds := [.data, .data], laidTests := true, laidLooks := .later }
def SenderTellsCardSaid : Prop := Claim7.holds Tryd.pinned (.plain (OpenSpec.ofChange senderTellsSpec)) senderTellsCard

/-- THE TIED CARD OF 'timeballlaw12.SenderRises'. -/
def senderRisesCard : Claim7 := { stood := { row := senderRisesRow, standIns := [], harness := (true, "965787ba06ef81ee632b1ceece21ba1ef4917c23bd11385d736d0ff1ba67b753"), looks := false }, kinds := [], alts := [], laidByText := true, laidKinds := [.data, .data], laidTests := true, laidLooks := .later }
def SenderRisesCardSaid : Prop := Claim7.holds Tryd.pinned (.plain (OpenSpec.ofChange senderRisesSpec)) senderRisesCard

/-- THE TIED CARD OF 'timeballlaw12.SenderRenews'. -/
def senderRenewsCard : Claim7 := { stood := { row := senderRenewsRow, standIns := [], harness := (true, "965787ba06ef81ee632b1ceece21ba1ef4917c23bd11385d736d0ff1ba67b753"), looks := false }, kinds := [], alts := [], laidByText := true, laidKinds := [.data, .data], laidTests := true, laidLooks := .later }
def SenderRenewsCardSaid : Prop := Claim7.holds Tryd.pinned (.plain (OpenSpec.ofChange senderRenewsSpec)) senderRenewsCard

/-- THE TIED CARD OF 'timeballlaw12.SenderSame'. -/
def senderSameCard : Claim7 := { stood := { row := senderSameRow, standIns := [], harness := (true, "965787ba06ef81ee632b1ceece21ba1ef4917c23bd11385d736d0ff1ba67b753"), looks := false }, kinds := [], alts := [], laidByText := true, laidKinds := [.data, .data], laidTests := true, laidLooks := .later }
def SenderSameCardSaid : Prop := Claim7.holds Tryd.pinned (.plain (OpenSpec.ofChange senderSameSpec)) senderSameCard

/-- THE SECOND FORM's CARD OF 'timeballlaw12.SenderSends'. -/
def senderSendsUptoCard : Claim7 := { stood := { row := senderSendsUptoRow, standIns := [], harness := (true, "965787ba06ef81ee632b1ceece21ba1ef4917c23bd11385d736d0ff1ba67b753"), looks := false }, kinds := [], alts := [], laidByText := true, laidKinds := [.data, .data], laidTests := true, laidLooks := .later }
def SenderSendsUptoCardSaid : Prop := Claim7.holds Tryd.pinned (.plain (OpenSpec.upto senderSendsSpec)) senderSendsUptoCard

/-- THE SECOND FORM's CARD OF 'timeballlaw12.SenderTags'. -/
def senderTagsUptoCard : Claim7 := { stood := { row := senderTagsUptoRow, standIns := [], harness := (true, "965787ba06ef81ee632b1ceece21ba1ef4917c23bd11385d736d0ff1ba67b753"), looks := false }, kinds := [], alts := [], laidByText := true, laidKinds := [.data, .data], laidTests := true, laidLooks := .later }
def SenderTagsUptoCardSaid : Prop := Claim7.holds Tryd.pinned (.plain (OpenSpec.upto senderTagsSpec)) senderTagsUptoCard

/-- THE SECOND FORM's CARD OF 'timeballlaw12.SenderTells'. -/
def senderTellsUptoCard : Claim7 := { stood := { row := senderTellsUptoRow, standIns := [], harness := (true, "965787ba06ef81ee632b1ceece21ba1ef4917c23bd11385d736d0ff1ba67b753"), looks := false }, kinds := [], alts := [], laidByText := true, laidKinds := [.data, .data], laidTests := true, laidLooks := .later }
def SenderTellsUptoCardSaid : Prop := Claim7.holds Tryd.pinned (.plain (OpenSpec.upto senderTellsSpec)) senderTellsUptoCard

/-- THE SECOND FORM's CARD OF 'timeballlaw12.SenderRises'. -/
def senderRisesUptoCard : Claim7 := { stood := { row := senderRisesUptoRow, standIns := [], harness := (true, "965787ba06ef81ee632b1ceece21ba1ef4917c23bd11385d736d0ff1ba67b753"), looks := false }, kinds := [], alts := [], laidByText := true, laidKinds := [.data, .data], laidTests := true, laidLooks := .later }
def SenderRisesUptoCardSaid : Prop := Claim7.holds Tryd.pinned (.plain (OpenSpec.upto senderRisesSpec)) senderRisesUptoCard

/-- THE SECOND FORM's CARD OF 'timeballlaw12.SenderRenews'. -/
def senderRenewsUptoCard : Claim7 := { stood := { row := senderRenewsUptoRow, standIns := [], harness := (true, "965787ba06ef81ee632b1ceece21ba1ef4917c23bd11385d736d0ff1ba67b753"), looks := false }, kinds := [], alts := [], laidByText := true, laidKinds := [.data, .data], laidTests := true, laidLooks := .later }
def SenderRenewsUptoCardSaid : Prop := Claim7.holds Tryd.pinned (.plain (OpenSpec.upto senderRenewsSpec)) senderRenewsUptoCard

/-- THE SECOND FORM's CARD OF 'timeballlaw12.SenderSame'. -/
def senderSameUptoCard : Claim7 := { stood := { row := senderSameUptoRow, standIns := [], harness := (true, "965787ba06ef81ee632b1ceece21ba1ef4917c23bd11385d736d0ff1ba67b753"), looks := false }, kinds := [], alts := [], laidByText := true, laidKinds := [.data, .data], laidTests := true, laidLooks := .later }
def SenderSameUptoCardSaid : Prop := Claim7.holds Tryd.pinned (.plain (OpenSpec.upto senderSameSpec)) senderSameUptoCard
end Rows
end Go.Proofs.YtphocklnhoakcaaDoor
