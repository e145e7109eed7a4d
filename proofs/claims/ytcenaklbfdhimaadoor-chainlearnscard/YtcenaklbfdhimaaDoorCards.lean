/-
  DERIVED. GIVEN WITH THE SEED: THE CARDS: each row of YtcenaklbfdhimaaDoorRows.lean that lists a variable, with what it lists TIED to the program's text (the seventh form; the later family's looks); each row that meets fmt, with fmt's text TOLD by the authors' own Lean function (tested against real Go, not proved from fmt's source: count such statements apart). THE CARD IS WHAT COUNTS. Prove the row's statement (the work); the ties are given (YtcenaklbfdhimaaDoorTie.lean); close each card by the builder's one call (the guide's Derived/Test/ToyasCard.lean, 'card_holds'). Laid BY PROGRAM, IN A SANDBOX (cutbox-door.mjs). By AI agents, Wed Nov 11 2026. No macro, syntax, notation, axiom, sorry.
-/
import Derived.Test.YtcenaklbfdhimaaDoorRows
import GoSem.ClaimSeven
namespace Go.Proofs.YtcenaklbfdhimaaDoor
namespace Rows

/-- THE TIED CARD OF 'timeballlaw08.ChainTells'. -/
def chainTellsCard : Claim7 := { stood := { row := chainTellsRow, standIns := [], harness := (true, "bb439a13d0a7fd33de7a7484ecc5981da8d8a1756e6e41fca9449fd8abb78eae"), looks := false }, kinds := [], alts := [], laidByText := true, laidKinds := [.data, .data], laidTests := true, laidLooks := .later }
def ChainTellsCardSaid : Prop := Claim7.holds Tryd.pinned (.plain (OpenSpec.ofChange chainTellsSpec)) chainTellsCard

/-- THE TIED CARD OF 'timeballlaw08.ChainChecks'. -/
def chainChecksCard : Claim7 := { stood := { row := chainChecksRow, standIns := [], harness := (true, "bb439a13d0a7fd33de7a7484ecc5981da8d8a1756e6e41fca9449fd8abb78eae"), looks := false }, kinds := [], alts := [], laidByText := true, laidKinds := [.data, .data], laidTests := true, laidLooks := .later }
def ChainChecksCardSaid : Prop := Claim7.holds Tryd.pinned (.plain (OpenSpec.ofChange chainChecksSpec)) chainChecksCard

/-- THE TIED CARD OF 'timeballlaw08.ChainLearns'. -/
def chainLearnsCard : Claim7 := { stood := { row := chainLearnsRow, standIns := [], harness := (true, "bb439a13d0a7fd33de7a7484ecc5981da8d8a1756e6e41fca9449fd8abb78eae"), looks := false }, kinds := [], alts := [], laidByText := true, laidKinds := [.data, .data], laidTests := true, laidLooks := .later }
def ChainLearnsCardSaid : Prop := Claim7.holds Tryd.pinned (.plain (OpenSpec.ofChange chainLearnsSpec)) chainLearnsCard

/-- THE TIED CARD OF 'timeballlaw08.ChainFar'. -/
def chainFarCard : Claim7 := { stood := { row := chainFarRow, standIns := [], harness := (true, "bb439a13d0a7fd33de7a7484ecc5981da8d8a1756e6e41fca9449fd8abb78eae"), looks := false }, kinds := [], alts := [], laidByText := true, laidKinds := [.data, .data], laidTests := true, laidLooks := .later }
def ChainFarCardSaid : Prop := Claim7.holds Tryd.pinned (.plain (OpenSpec.ofChange chainFarSpec)) chainFarCard

/-- THE TIED CARD OF 'timeballlaw08.ChainJoins'. -/
def chainJoinsCard : Claim7 := { stood := { row := chainJoinsRow, standIns := [], harness := (true, "bb439a13d0a7fd33de7a7484ecc5981da8d8a1756e6e41fca9449fd8abb78eae"), looks := false }, kinds := [], alts := [], laidByText := true, laidKinds := [.data, .data], laidTests := true, laidLooks := .later }
def ChainJoinsCardSaid : Prop := Claim7.holds Tryd.pinned (.plain (OpenSpec.ofChange chainJoinsSpec)) chainJoinsCard

/-- THE TIED CARD OF 'timeballlaw08.ChainSteps'. -/
def chainStepsCard : Claim7 := { stood := { row := chainStepsRow, standIns := [], harness := (true, "bb439a13d0a7fd33de7a7484ecc5981da8d8a1756e6e41fca9449fd8abb78eae"), looks := false }, kinds := [], alts := [], laidByText := true, laidKinds := [.data, .data], laidTests := true, laidLooks := .later }
def ChainStepsCardSaid : Prop := Claim7.holds Tryd.pinned (.plain (OpenSpec.ofChange chainStepsSpec)) chainStepsCard

/-- THE SECOND FORM's CARD OF 'timeballlaw08.ChainTells'. -/
def chainTellsUptoCard : Claim7 := { stood := { row := chainTellsUptoRow, standIns := [], harness := (true, "bb439a13d0a7fd33de7a7484ecc5981da8d8a1756e6e41fca9449fd8abb78eae"), looks := false }, kinds := [], alts := [], laidByText := true, laidKinds := [.data, .data], laidTests := true, laidLooks := .later }
def ChainTellsUptoCardSaid : Prop := Claim7.holds Tryd.pinned (.plain (OpenSpec.upto chainTellsSpec)) chainTellsUptoCard

/-- THE SECOND FORM's CARD OF 'timeballlaw08.ChainChecks'. -/
def chainChecksUptoCard : Claim7 := { stood := { row := chainChecksUptoRow, standIns := [], harness := (true, "bb439a13d0a7fd33de7a7484ecc5981da8d8a1756e6e41fca9449fd8abb78eae"), looks := false }, kinds := [], alts := [], laidByText := true, laidKinds := [.data, .data], laidTests := true, laidLooks := .later }
def ChainChecksUptoCardSaid : Prop := Claim7.holds Tryd.pinned (.plain (OpenSpec.upto chainChecksSpec)) chainChecksUptoCard

/-- THE SECOND FORM's CARD OF 'timeballlaw08.ChainLearns'. -/
def chainLearnsUptoCard : Claim7 := { stood := { row := chainLearnsUptoRow, standIns := [], harness := (true, "bb439a13d0a7fd33de7a7484ecc5981da8d8a1756e6e41fca9449fd8abb78eae"), looks := false }, kinds := [], alts := [], laidByText := true, laidKinds := [.data, .data], laidTests := true, laidLooks := .later }
def ChainLearnsUptoCardSaid : Prop := Claim7.holds Tryd.pinned (.plain (OpenSpec.upto chainLearnsSpec)) chainLearnsUptoCard

/-- THE SECOND FORM's CARD OF 'timeballlaw08.ChainFar'. -/
def chainFarUptoCard : Claim7 := { stood := { row := chainFarUptoRow, standIns := [], harness := (true, "bb439a13d0a7fd33de7a7484ecc5981da8d8a1756e6e41fca9449fd8abb78eae"), looks := false }, kinds := [], alts := [], laidByText := true, laidKinds := [.data, .data], laidTests := true, laidLooks := .later }
def ChainFarUptoCardSaid : Prop := Claim7.holds Tryd.pinned (.plain (OpenSpec.upto chainFarSpec)) chainFarUptoCard

/-- THE SECOND FORM's CARD OF 'timeballlaw08.ChainJoins'. -/
def chainJoinsUptoCard : Claim7 := { stood := { row := chainJoinsUptoRow, standIns := [], harness := (true, "bb439a13d0a7fd33de7a7484ecc5981da8d8a1756e6e41fca9449fd8abb78eae"), looks := false }, kinds := [], alts := [], laidByText := true, laidKinds := [.data, .data], laidTests := true, laidLooks := .later }
def ChainJoinsUptoCardSaid : Prop := Claim7.holds Tryd.pinned (.plain (OpenSpec.upto chainJoinsSpec)) chainJoinsUptoCard

/-- THE SECOND FORM's CARD OF 'timeballlaw08.ChainSteps'. -/
def chainStepsUptoCard : Claim7 := { stood := { row := chainStepsUptoRow, standIns := [], harness := (true, "bb439a13d0a7fd33de7a7484ecc5981da8d8a1756e6e41fca9449fd8abb78eae"), looks := false }, kinds := [], alts := [], laidByText := true, laidKinds := [.data, .data], laidTests := true, laidLooks := .later }
def ChainStepsUptoCardSaid : Prop := Claim7.holds Tryd.pinned (.plain (OpenSpec.upto chainStepsSpec)) chainStepsUptoCard
end Rows
end Go.Proofs.YtcenaklbfdhimaaDoor
