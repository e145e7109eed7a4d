/-
  DERIVED. GIVEN WITH THE SEED: THE CARDS: each row of YtpenicjlpiechaaDoorRows.lean that lists a variable, with what it lists TIED to the program's text (the seventh form; the later family's looks); each row that meets fmt, with fmt's text TOLD by the authors' own Lean function (tested against real Go, not proved from fmt's source: count such statements apart). THE CARD IS WHAT COUNTS. Prove the row's statement (the work); the ties are given (YtpenicjlpiechaaDoorTie.lean); close each card by the builder's one call (the guide's Derived/Test/ToyasCard.lean, 'card_holds'). Laid BY PROGRAM, IN A SANDBOX (cutbox-door.mjs). By AI agents, Wed Nov 11 2026. No macro, syntax, notation, axiom, sorry.
-/
import Derived.Test.YtpenicjlpiechaaDoorRows
import GoSem.ClaimSeven
namespace Go.Proofs.YtpenicjlpiechaaDoor
namespace Rows

/-- THE TIED CARD OF 'timeballlaw14.VolleyRounds'. -/
def volleyRoundsCard : Claim7 := { stood := { row := volleyRoundsRow, standIns := [], harness := (true, "801da1cd06dc58af1a906994723160b913b22f336bfc92aec69339d477a70a73"), looks := false }, kinds := [], alts := [], laidByText := true, laidKinds := [.data, .data], laidTests := true, laidLooks := .later }
def VolleyRoundsCardSaid : Prop := Claim7.holds Tryd.pinned (.plain (OpenSpec.ofChange volleyRoundsSpec)) volleyRoundsCard

/-- THE TIED CARD OF 'timeballlaw14.VolleyBound'. -/
def volleyBoundCard : Claim7 := { stood := { row := volleyBoundRow, standIns := [], harness := (true, "801da1cd06dc58af1a906994723160b913b22f336bfc92aec69339d477a70a73"), looks := false }, kinds := [], alts := [], laidByText := true, laidKinds := [.data, .data], laidTests := true, laidLooks := .later }
def VolleyBoundCardSaid : Prop := Claim7.holds Tryd.pinned (.plain (OpenSpec.ofChange volleyBoundSpec)) volleyBoundCard

/-- THE TIED CARD OF 'timeballlaw14.VolleyOnce'. -/
def volleyOnceCard : Claim7 := { stood := { row := volleyOnceRow, standIns := [], harness := (true, "801da1cd06dc58af1a906994723160b913b22f336bfc92aec69339d477a70a73"), looks := false }, kinds := [], alts := [], laidByText := true, laidKinds := [.data, .data], laidTests := true, laidLooks := .later }
def VolleyOnceCardSaid : Prop := Claim7.holds Tryd.pinned (.plain (OpenSpec.ofChange volleyOnceSpec)) volleyOnceCard

/-- THE TIED CARD OF 'timeballlaw14.VolleySame'. -/
def volleySameCard : Claim7 := { stood := { row := volleySameRow, standIns := [], harness := (true, "801da1cd06dc58af1a906994723160b913b22f336bfc92aec69339d477a70a73"), looks := false }, kinds := [], alts := [], laidByText := true, laidKinds := [.data, .data], laidTests := true, laidLooks := .later }
def VolleySameCardSaid : Prop := Claim7.holds Tryd.pinned (.plain (OpenSpec.ofChange volleySameSpec)) volleySameCard

/-- THE TIED CARD OF 'timeballlaw14.VolleyBytes'. -/
def volleyBytesCard : Claim7 := { stood := { row := volleyBytesRow, standIns := [], harness := (true, "801da1cd06dc58af1a906994723160b913b22f336bfc92aec69339d477a70a73"), looks := false }, kinds := [], alts := [], laidByText := true, laidKinds := [.data, .data], laidTests := true, laidLooks := .later }
def VolleyBytesCardSaid : Prop := Claim7.holds Tryd.pinned (.plain (OpenSpec.ofChange volleyBytesSpec)) volleyBytesCard

/-- THE TIED CARD OF 'timeballlaw14.VolleyWide'. -/
def volleyWideCard : Claim7 := { stood := { row := volleyWideRow, standIns := [], harness := (true, "801da1cd06dc58af1a906994723160b913b22f336bfc92aec69339d477a70a73"), looks := false }, kinds := [], alts := [], laidByText := true, laidKinds := [.data, .data], laidTests := true, laidLooks := .later }
def VolleyWideCardSaid : Prop := Claim7.holds Tryd.pinned (.plain (OpenSpec.ofChange volleyWideSpec)) volleyWideCard

/-- THE TIED CARD OF 'timeballlaw14.VolleyAgrees'. -/
def volleyAgreesCard : Claim7 := { stood := { row := volleyAgreesRow, standIns := [], harness := (true, "801da1cd06dc58af1a906994723160b913b22f336bfc92aec69339d477a70a73"), looks := false }, kinds := [], alts := [], laidByText := true, laidKinds := [.data, .data], laidTests := true, laidLooks := .later }
def VolleyAgreesCardSaid : Prop := Claim7.holds Tryd.pinned (.plain (OpenSpec.ofChange volleyAgreesSpec)) volleyAgreesCard

/-- THE SECOND FORM's CARD OF 'timeballlaw14.VolleyRounds'. -/
def volleyRoundsUptoCard : Claim7 := { stood := { row := volleyRoundsUptoRow, standIns := [], harness := (true, "801da1cd06dc58af1a906994723160b913b22f336bfc92aec69339d477a70a73"), looks := false }, kinds := [], alts := [], laidByText := true, laidKinds := [.data, .data], laidTests := true, laidLooks := .later }
def VolleyRoundsUptoCardSaid : Prop := Claim7.holds Tryd.pinned (.plain (OpenSpec.upto volleyRoundsSpec)) volleyRoundsUptoCard

/-- THE SECOND FORM's CARD OF 'timeballlaw14.VolleyBound'. -/
def volleyBoundUptoCard : Claim7 := { stood := { row := volleyBoundUptoRow, standIns := [], harness := (true, "801da1cd06dc58af1a906994723160b913b22f336bfc92aec69339d477a70a73"), looks := false }, kinds := [], alts := [], laidByText := true, laidKinds := [.data, .data], laidTests := true, laidLooks := .later }
def VolleyBoundUptoCardSaid : Prop := Claim7.holds Tryd.pinned (.plain (OpenSpec.upto volleyBoundSpec)) volleyBoundUptoCard

/-- THE SECOND FORM's CARD OF 'timeballlaw14.VolleyOnce'. -/
def volleyOnceUptoCard : Claim7 := { stood := { row := volleyOnceUptoRow, standIns := [], harness := (true, "801da1cd06dc58af1a906994723160b913b22f336bfc92aec69339d477a70a73"), looks := false }, kinds := [], alts := [], laidByText := true, laidKinds := [.data, .data], laidTests := true, laidLooks := .later }
def VolleyOnceUptoCardSaid : Prop := Claim7.holds Tryd.pinned (.plain (OpenSpec.upto volleyOnceSpec)) volleyOnceUptoCard

/-- THE SECOND FORM's CARD OF 'timeballlaw14.VolleySame'. -/
def volleySameUptoCard : Claim7 := { stood := { row := volleySameUptoRow, standIns := [], harness := (true, "801da1cd06dc58af1a906994723160b913b22f336bfc92aec69339d477a70a73"), looks := false }, kinds := [], alts := [], laidByText := true, laidKinds := [.data, .data], laidTests := true, laidLooks := .later }
def VolleySameUptoCardSaid : Prop := Claim7.holds Tryd.pinned (.plain (OpenSpec.upto volleySameSpec)) volleySameUptoCard

/-- THE SECOND FORM's CARD OF 'timeballlaw14.VolleyBytes'. -/
def volleyBytesUptoCard : Claim7 := { stood := { row := volleyBytesUptoRow, standIns := [], harness := (true, "801da1cd06dc58af1a906994723160b913b22f336bfc92aec69339d477a70a73"), looks := false }, kinds := [], alts := [], laidByText := true, laidKinds := [.data, .data], laidTests := true, laidLooks := .later }
def VolleyBytesUptoCardSaid : Prop := Claim7.holds Tryd.pinned (.plain (OpenSpec.upto volleyBytesSpec)) volleyBytesUptoCard

/-- THE SECOND FORM's CARD OF 'timeballlaw14.VolleyWide'. -/
def volleyWideUptoCard : Claim7 := { stood := { row := volleyWideUptoRow, standIns := [], harness := (true, "801da1cd06dc58af1a906994723160b913b22f336bfc92aec69339d477a70a73"), looks := false }, kinds := [], alts := [], laidByText := true, laidKinds := [.data, .data], laidTests := true, laidLooks := .later }
def VolleyWideUptoCardSaid : Prop := Claim7.holds Tryd.pinned (.plain (OpenSpec.upto volleyWideSpec)) volleyWideUptoCard

/-- THE SECOND FORM's CARD OF 'timeballlaw14.VolleyAgrees'. -/
def volleyAgreesUptoCard : Claim7 := { stood := { row := volleyAgreesUptoRow, standIns := [], harness := (true, "801da1cd06dc58af1a906994723160b913b22f336bfc92aec69339d477a70a73"), looks := false }, kinds := [], alts := [], laidByText := true, laidKinds := [.data, .data], laidTests := true, laidLooks := .later }
def VolleyAgreesUptoCardSaid : Prop := Claim7.holds Tryd.pinned (.plain (OpenSpec.upto volleyAgreesSpec)) volleyAgreesUptoCard
end Rows
end Go.Proofs.YtpenicjlpiechaaDoor
