/-
  DERIVED. GIVEN WITH THE SEED: THE CARDS: each row of YtcclcemdodoiiaaGreatDoorRows.lean that lists a variable, with what it lists TIED to the program's text (the seventh form; the later family's looks); each row that meets fmt, with fmt's text TOLD by the authors' own Lean function (tested against real Go, not proved from fmt's source: count such statements apart). THE CARD IS WHAT COUNTS. Prove the row's statement (the work); the ties are given (YtcclcemdodoiiaaGreatDoorTie.lean); close each card by the builder's one call (the guide's Derived/Test/ToyasCard.lean, 'card_holds'). Laid BY PROGRAM, IN A SANDBOX (cutbox-door.mjs). By AI agents, Wed Nov 11 2026. No macro, syntax, notation, axiom, sorry.
-/
import Derived.Test.YtcclcemdodoiiaaGreatDoorRows
import GoSem.ClaimSeven
namespace Go.Proofs.YtcclcemdodoiiaaGreatDoor
namespace Rows

/-- THE TIED CARD OF 'timeballlaw13.ReceiverDoes'. -/
def receiverDoesCard : Claim7 := { stood := { row := receiverDoesRow, standIns := [], harness := (true, "889c9e619f215395e9a512063b1dfcb863ca7837ee611ef5a734a26384b0e56b"), looks := false }, kinds := [], alts := [], laidByText := true, laidKinds := [.data, .data], laidTests := true, laidLooks := .later }
def ReceiverDoesCardSaid : Prop := Claim7.holds Tryz.pinned (.plain (OpenSpec.ofChange receiverDoesSpec)) receiverDoesCard

/-- THE TIED CARD OF 'timeballlaw13.ReceiverHears'. -/
def receiverHearsCard : Claim7 := { stood := { row := receiverHearsRow, standIns := [], harness := (true, "889c9e619f215395e9a512063b1dfcb863ca7837ee611ef5a734a26384b0e56b"), looks := false }, kinds := [], alts := [], laidByText := true, laidKinds := [.data, .data], laidTests := true, laidLooks := .later }
def ReceiverHearsCardSaid : Prop := Claim7.holds Tryz.pinned (.plain (OpenSpec.ofChange receiverHearsSpec)) receiverHearsCard

/-- THE TIED CARD OF 'timeballlaw13.ReceiverLate'. -/
def receiverLateCard : Claim7 := { stood := { row := receiverLateRow, standIns := [], harness := (true, "889c9e619f215395e9a512063b1dfcb863ca7837ee611ef5a734a26384b0e56b"), looks := false }, kinds := [], alts := [], laidByText := true, laidKinds := [.data, .data], laidTests := true, laidLooks := .later }
def ReceiverLateCardSaid : Prop := Claim7.holds Tryz.pinned (.plain (OpenSpec.ofChange receiverLateSpec)) receiverLateCard

/-- THE TIED CARD OF 'timeballlaw13.ReceiverOnce'. -/
def receiverOnceCard : Claim7 := { stood := { row := receiverOnceRow, standIns := [], harness := (true, "889c9e619f215395e9a512063b1dfcb863ca7837ee611ef5a734a26384b0e56b"), looks := false }, kinds := [], alts := [], laidByText := true, laidKinds := [.data, .data], laidTests := true, laidLooks := .later }
def ReceiverOnceCardSaid : Prop := Claim7.holds Tryz.pinned (.plain (OpenSpec.ofChange receiverOnceSpec)) receiverOnceCard

/-- THE TIED CARD OF 'timeballlaw13.ReceiverWaits'. -/
def receiverWaitsCard : Claim7 := { stood := { row := receiverWaitsRow, standIns := [], harness := (true, "889c9e619f215395e9a512063b1dfcb863ca7837ee611ef5a734a26384b0e56b"), looks := false }, kinds := [], alts := [], laidByText := true, laidKinds := [.data, .data], laidTests := true, laidLooks := .later }
def ReceiverWaitsCardSaid : Prop := Claim7.holds Tryz.pinned (.plain (OpenSpec.ofChange receiverWaitsSpec)) receiverWaitsCard

/-- THE TIED CARD OF 'timeballlaw13.ReceiverMissed'. -/
def receiverMissedCard : Claim7 := { stood := { row := receiverMissedRow, standIns := [], harness := (true, "889c9e619f215395e9a512063b1dfcb863ca7837ee611ef5a734a26384b0e56b"), looks := false }, kinds := [], alts := [], laidByText := true, laidKinds := [.data, .data], laidTests := true, laidLooks := .later }
def ReceiverMissedCardSaid : Prop := Claim7.holds Tryz.pinned (.plain (OpenSpec.ofChange receiverMissedSpec)) receiverMissedCard

/-- THE TIED CARD OF 'timeballlaw13.ReceiverRefuses'. -/
def receiverRefusesCard : Claim7 := { stood := { row := receiverRefusesRow, standIns := [], harness := (true, "889c9e619f215395e9a512063b1dfcb863ca7837ee611ef5a734a26384b0e56b"), looks := false }, kinds := [], alts := [], laidByText := true, laidKinds := [.data, .data], laidTests := true, laidLooks := .later }
def ReceiverRefusesCardSaid : Prop := Claim7.holds Tryz.pinned (.plain (OpenSpec.ofChange receiverRefusesSpec)) receiverRefusesCard

/-- THE SECOND FORM's CARD OF 'timeballlaw13.ReceiverDoes'. -/
def receiverDoesUptoCard : Claim7 := { stood := { row := receiverDoesUptoRow, standIns := [], harness := (true, "889c9e619f215395e9a512063b1dfcb863ca7837ee611ef5a734a26384b0e56b"), looks := false }, kinds := [], alts := [], laidByText := true, laidKinds := [.data, .data], laidTests := true, laidLooks := .later }
def ReceiverDoesUptoCardSaid : Prop := Claim7.holds Tryz.pinned (.plain (OpenSpec.upto receiverDoesSpec)) receiverDoesUptoCard

/-- THE SECOND FORM's CARD OF 'timeballlaw13.ReceiverHears'. -/
def receiverHearsUptoCard : Claim7 := { stood := { row := receiverHearsUptoRow, standIns := [], harness := (true, "889c9e619f215395e9a512063b1dfcb863ca7837ee611ef5a734a26384b0e56b"), looks := false }, kinds := [], alts := [], laidByText := true, laidKinds := [.data, .data], laidTests := true, laidLooks := .later }
def ReceiverHearsUptoCardSaid : Prop := Claim7.holds Tryz.pinned (.plain (OpenSpec.upto receiverHearsSpec)) receiverHearsUptoCard

/-- THE SECOND FORM's CARD OF 'timeballlaw13.ReceiverLate'. -/
def receiverLateUptoCard : Claim7 := { stood := { row := receiverLateUptoRow, standIns := [], harness := (true, "889c9e619f215395e9a512063b1dfcb863ca7837ee611ef5a734a26384b0e56b"), looks := false }, kinds := [], alts := [], laidByText := true, laidKinds := [.data, .data], laidTests := true, laidLooks := .later }
def ReceiverLateUptoCardSaid : Prop := Claim7.holds Tryz.pinned (.plain (OpenSpec.upto receiverLateSpec)) receiverLateUptoCard

/-- THE SECOND FORM's CARD OF 'timeballlaw13.ReceiverOnce'. -/
def receiverOnceUptoCard : Claim7 := { stood := { row := receiverOnceUptoRow, standIns := [], harness := (true, "889c9e619f215395e9a512063b1dfcb863ca7837ee611ef5a734a26384b0e56b"), looks := false }, kinds := [], alts := [], laidByText := true, laidKinds := [.data, .data], laidTests := true, laidLooks := .later }
def ReceiverOnceUptoCardSaid : Prop := Claim7.holds Tryz.pinned (.plain (OpenSpec.upto receiverOnceSpec)) receiverOnceUptoCard

/-- THE SECOND FORM's CARD OF 'timeballlaw13.ReceiverWaits'. -/
def receiverWaitsUptoCard : Claim7 := { stood := { row := receiverWaitsUptoRow, standIns := [], harness := (true, "889c9e619f215395e9a512063b1dfcb863ca7837ee611ef5a734a26384b0e56b"), looks := false }, kinds := [], alts := [], laidByText := true, laidKinds := [.data, .data], laidTests := true, laidLooks := .later }
def ReceiverWaitsUptoCardSaid : Prop := Claim7.holds Tryz.pinned (.plain (OpenSpec.upto receiverWaitsSpec)) receiverWaitsUptoCard

/-- THE SECOND FORM's CARD OF 'timeballlaw13.ReceiverMissed'. -/
def receiverMissedUptoCard : Claim7 := { stood := { row := receiverMissedUptoRow, standIns := [], harness := (true, "889c9e619f215395e9a512063b1dfcb863ca7837ee611ef5a734a26384b0e56b"), looks := false }, kinds := [], alts := [], laidByText := true, laidKinds := [.data, .data], laidTests := true, laidLooks := .later }
def ReceiverMissedUptoCardSaid : Prop := Claim7.holds Tryz.pinned (.plain (OpenSpec.upto receiverMissedSpec)) receiverMissedUptoCard

/-- THE SECOND FORM's CARD OF 'timeballlaw13.ReceiverRefuses'. -/
def receiverRefusesUptoCard : Claim7 := { stood := { row := receiverRefusesUptoRow, standIns := [], harness := (true, "889c9e619f215395e9a512063b1dfcb863ca7837ee611ef5a734a26384b0e56b"), looks := false }, kinds := [], alts := [], laidByText := true, laidKinds := [.data, .data], laidTests := true, laidLooks := .later }
def ReceiverRefusesUptoCardSaid : Prop := Claim7.holds Tryz.pinned (.plain (OpenSpec.upto receiverRefusesSpec)) receiverRefusesUptoCard
end Rows
end Go.Proofs.YtcclcemdodoiiaaGreatDoor
