/-
  NARROWER THAN 'FOR EVERY INPUT', by the rows' own cells (each row's printed sentence says how): ShaTells: laid · ShaWalks: laid · ShaPieces: laid · ShaBranches: laid · ShaAdds: laid · ShaHex: laid · ShaZero: laid.
  DERIVED. THE GIVEN ROWS OF THIS SEAT. 7 by the template 'for every input the law returns true; each argument reads behind the call as it read before'; 0 by the template 'total and deterministic' (their statements: YthbnlidfgjgncaaDoorTotals.lean).
  GIVEN WITH THE SEED: the statements are not yours to turn. If you find one false, say at which input.
  Laid BY PROGRAM, IN A SANDBOX (cutbox-rows.mjs): the forced cells as the released guide's own fill.sh prints them over the translation 6d0c56407d2e7111… (all of the seat's roots in one cut). By AI agents, Wed Nov 11 2026. No macro, syntax, notation, axiom, sorry.
-/
import Derived.Test.YthbnlidfgjgncaaDoorChecked
import GoSem.Claim
import GoSem.ClaimJoined
import GoSem.ClaimMapViews
import Derived.JoinedTies
import Derived.KernelRfl
namespace Go.Proofs.YthbnlidfgjgncaaDoor
/- THE CELL 'sum', in the pinned program and in every row, IS THE sha256 OF THE DUMP (.gsa) THAT YthbnlidfgjgncaaDoorProg.lean LOADS. Nothing in Lean hashes anything: it is a label: what it is worth is what the hold of that sum in a sandbox is worth. -/
noncomputable def Tryd.pinned : Pinned := { name := "ythbnlidfgjgncaadoor", sum := "6d0c56407d2e711162152116b90f749637ea2f4cb633cfa5107dac5e7bda8997", checked := Tryd.checked }
namespace Rows
def none {H : Type} : Left H := { results := [], args := [] }

/- WHAT THE LISTED PACKAGE-LEVEL VARIABLES READ AS WHEN THE CALL BEGINS. Each datum BY PROGRAM (the guide's laid-datum.mjs) off the statement by which the dump's own 'gosem.cut.vars' lays the variable. In a bare row this is a premise. The card (YthbnlidfgjgncaaDoorCards.lean) ties it to the program's text. -/
def laid_timeball_sha_start {H : Type} : DataW H := .agg [.lit (.int .u32 1779033703), .lit (.int .u32 3144134277), .lit (.int .u32 1013904242), .lit (.int .u32 2773480762), .lit (.int .u32 1359893119), .lit (.int .u32 2600822924), .lit (.int .u32 528734635), .lit (.int .u32 1541459225)]
def laid_timeball_sha_constants {H : Type} : DataW H := .agg [.lit (.int .u32 1116352408), .lit (.int .u32 1899447441), .lit (.int .u32 3049323471), .lit (.int .u32 3921009573), .lit (.int .u32 961987163), .lit (.int .u32 1508970993), .lit (.int .u32 2453635748), .lit (.int .u32 2870763221), .lit (.int .u32 3624381080), .lit (.int .u32 310598401), .lit (.int .u32 607225278), .lit (.int .u32 1426881987), .lit (.int .u32 1925078388), .lit (.int .u32 2162078206), .lit (.int .u32 2614888103), .lit (.int .u32 3248222580), .lit (.int .u32 3835390401), .lit (.int .u32 4022224774), .lit (.int .u32 264347078), .lit (.int .u32 604807628), .lit (.int .u32 770255983), .lit (.int .u32 1249150122), .lit (.int .u32 1555081692), .lit (.int .u32 1996064986), .lit (.int .u32 2554220882), .lit (.int .u32 2821834349), .lit (.int .u32 2952996808), .lit (.int .u32 3210313671), .lit (.int .u32 3336571891), .lit (.int .u32 3584528711), .lit (.int .u32 113926993), .lit (.int .u32 338241895), .lit (.int .u32 666307205), .lit (.int .u32 773529912), .lit (.int .u32 1294757372), .lit (.int .u32 1396182291), .lit (.int .u32 1695183700), .lit (.int .u32 1986661051), .lit (.int .u32 2177026350), .lit (.int .u32 2456956037), .lit (.int .u32 2730485921), .lit (.int .u32 2820302411), .lit (.int .u32 3259730800), .lit (.int .u32 3345764771), .lit (.int .u32 3516065817), .lit (.int .u32 3600352804), .lit (.int .u32 4094571909), .lit (.int .u32 275423344), .lit (.int .u32 430227734), .lit (.int .u32 506948616), .lit (.int .u32 659060556), .lit (.int .u32 883997877), .lit (.int .u32 958139571), .lit (.int .u32 1322822218), .lit (.int .u32 1537002063), .lit (.int .u32 1747873779), .lit (.int .u32 1955562222), .lit (.int .u32 2024104815), .lit (.int .u32 2227730452), .lit (.int .u32 2361852424), .lit (.int .u32 2428436474), .lit (.int .u32 2756734187), .lit (.int .u32 3204031479), .lit (.int .u32 3329325298)]

/-- 'timeballlaw02.ShaTells': WHATEVER THE INPUT: true; the input reads as it did. -/
def shaTellsSpec : ChangeSpec := { name := "shaTells", fn := fun _ => fun
  | [d] => { results := [.lit (.bool true)], args := [d] }
  | _ => none }
def shaTellsRow : OpenClaim := { program := "ythbnlidfgjgncaadoor", sum := "6d0c56407d2e711162152116b90f749637ea2f4cb633cfa5107dac5e7bda8997", func := "timeball/timeballlaw02.ShaTells", spec := "shaTells", inPlace := ["internal/abi.NoEscape", "internal/bytealg.MakeNoZero"], named := ["timeball/sha.constants", "timeball/sha.start"], apart := false, laid := [("timeball/sha.start", laid_timeball_sha_start), ("timeball/sha.constants", laid_timeball_sha_constants)] }
def ShaTellsSaid : Prop := shaTellsRow.holds Tryd.pinned (OpenSpec.ofChange shaTellsSpec)

/-- ITS FALSE NEIGHBOUR: 'it returns false'. Refute it at one input. -/
def shaTellsWrong : ChangeSpec := { name := "shaTells", fn := fun _ => fun
  | [d] => { results := [.lit (.bool false)], args := [d] }
  | _ => none }
def ShaTellsWrongFalsely : Prop := shaTellsRow.holds Tryd.pinned (OpenSpec.ofChange shaTellsWrong)

/-- 'timeballlaw02.ShaWalks': WHATEVER THE INPUT: true; the input reads as it did. -/
def shaWalksSpec : ChangeSpec := { name := "shaWalks", fn := fun _ => fun
  | [d1, d2] => { results := [.lit (.bool true)], args := [d1, d2] }
  | _ => none }
def shaWalksRow : OpenClaim := { program := "ythbnlidfgjgncaadoor", sum := "6d0c56407d2e711162152116b90f749637ea2f4cb633cfa5107dac5e7bda8997", func := "timeball/timeballlaw02.ShaWalks", spec := "shaWalks", inPlace := ["internal/abi.NoEscape", "internal/bytealg.MakeNoZero"], named := ["timeball/sha.constants", "timeball/sha.start"], apart := false, laid := [("timeball/sha.start", laid_timeball_sha_start), ("timeball/sha.constants", laid_timeball_sha_constants)] }
def ShaWalksSaid : Prop := shaWalksRow.holds Tryd.pinned (OpenSpec.ofChange shaWalksSpec)

/-- ITS FALSE NEIGHBOUR: 'it returns false'. Refute it at one input. -/
def shaWalksWrong : ChangeSpec := { name := "shaWalks", fn := fun _ => fun
  | [d1, d2] => { results := [.lit (.bool false)], args := [d1, d2] }
  | _ => none }
def ShaWalksWrongFalsely : Prop := shaWalksRow.holds Tryd.pinned (OpenSpec.ofChange shaWalksWrong)

/-- 'timeballlaw02.ShaPieces': WHATEVER THE INPUT: true; the input reads as it did. -/
def shaPiecesSpec : ChangeSpec := { name := "shaPieces", fn := fun _ => fun
  | [d] => { results := [.lit (.bool true)], args := [d] }
  | _ => none }
def shaPiecesRow : OpenClaim := { program := "ythbnlidfgjgncaadoor", sum := "6d0c56407d2e711162152116b90f749637ea2f4cb633cfa5107dac5e7bda8997", func := "timeball/timeballlaw02.ShaPieces", spec := "shaPieces", inPlace := ["internal/abi.NoEscape", "internal/bytealg.MakeNoZero"], named := ["timeball/sha.constants", "timeball/sha.start"], apart := false, laid := [("timeball/sha.start", laid_timeball_sha_start), ("timeball/sha.constants", laid_timeball_sha_constants)] }
def ShaPiecesSaid : Prop := shaPiecesRow.holds Tryd.pinned (OpenSpec.ofChange shaPiecesSpec)

/-- ITS FALSE NEIGHBOUR: 'it returns false'. Refute it at one input. -/
def shaPiecesWrong : ChangeSpec := { name := "shaPieces", fn := fun _ => fun
  | [d] => { results := [.lit (.bool false)], args := [d] }
  | _ => none }
def ShaPiecesWrongFalsely : Prop := shaPiecesRow.holds Tryd.pinned (OpenSpec.ofChange shaPiecesWrong)

/-- 'timeballlaw02.ShaBranches': WHATEVER THE INPUT: true; the input reads as it did. -/
def shaBranchesSpec : ChangeSpec := { name := "shaBranches", fn := fun _ => fun
  | [d1, d2, d3] => { results := [.lit (.bool true)], args := [d1, d2, d3] }
  | _ => none }
def shaBranchesRow : OpenClaim := { program := "ythbnlidfgjgncaadoor", sum := "6d0c56407d2e711162152116b90f749637ea2f4cb633cfa5107dac5e7bda8997", func := "timeball/timeballlaw02.ShaBranches", spec := "shaBranches", inPlace := ["internal/abi.NoEscape", "internal/bytealg.MakeNoZero"], named := ["timeball/sha.constants", "timeball/sha.start"], apart := false, laid := [("timeball/sha.start", laid_timeball_sha_start), ("timeball/sha.constants", laid_timeball_sha_constants)] }
def ShaBranchesSaid : Prop := shaBranchesRow.holds Tryd.pinned (OpenSpec.ofChange shaBranchesSpec)

/-- ITS FALSE NEIGHBOUR: 'it returns false'. Refute it at one input. -/
def shaBranchesWrong : ChangeSpec := { name := "shaBranches", fn := fun _ => fun
  | [d1, d2, d3] => { results := [.lit (.bool false)], args := [d1, d2, d3] }
  | _ => none }
def ShaBranchesWrongFalsely : Prop := shaBranchesRow.holds Tryd.pinned (OpenSpec.ofChange shaBranchesWrong)

/-- 'timeballlaw02.ShaAdds': WHATEVER THE INPUT: true; the input reads as it did. -/
def shaAddsSpec : ChangeSpec := { name := "shaAdds", fn := fun _ => fun
  | [d1, d2, d3] => { results := [.lit (.bool true)], args := [d1, d2, d3] }
  | _ => none }
def shaAddsRow : OpenClaim := { program := "ythbnlidfgjgncaadoor", sum := "6d0c56407d2e711162152116b90f749637ea2f4cb633cfa5107dac5e7bda8997", func := "timeball/timeballlaw02.ShaAdds", spec := "shaAdds", inPlace := ["internal/abi.NoEscape", "internal/bytealg.MakeNoZero"], named := ["timeball/sha.constants", "timeball/sha.start"], apart := false, laid := [("timeball/sha.start", laid_timeball_sha_start), ("timeball/sha.constants", laid_timeball_sha_constants)] }
def ShaAddsSaid : Prop := shaAddsRow.holds Tryd.pinned (OpenSpec.ofChange shaAddsSpec)

/-- ITS FALSE NEIGHBOUR: 'it returns false'. Refute it at one input. -/
def shaAddsWrong : ChangeSpec := { name := "shaAdds", fn := fun _ => fun
  | [d1, d2, d3] => { results := [.lit (.bool false)], args := [d1, d2, d3] }
  | _ => none }
def ShaAddsWrongFalsely : Prop := shaAddsRow.holds Tryd.pinned (OpenSpec.ofChange shaAddsWrong)

/-- 'timeballlaw02.ShaHex': WHATEVER THE INPUT: true; the input reads as it did. -/
def shaHexSpec : ChangeSpec := { name := "shaHex", fn := fun _ => fun
  | [d] => { results := [.lit (.bool true)], args := [d] }
  | _ => none }
def shaHexRow : OpenClaim := { program := "ythbnlidfgjgncaadoor", sum := "6d0c56407d2e711162152116b90f749637ea2f4cb633cfa5107dac5e7bda8997", func := "timeball/timeballlaw02.ShaHex", spec := "shaHex", inPlace := ["internal/abi.NoEscape", "internal/bytealg.MakeNoZero"], named := ["timeball/sha.constants", "timeball/sha.start"], apart := false, laid := [("timeball/sha.start", laid_timeball_sha_start), ("timeball/sha.constants", laid_timeball_sha_constants)] }
def ShaHexSaid : Prop := shaHexRow.holds Tryd.pinned (OpenSpec.ofChange shaHexSpec)

/-- ITS FALSE NEIGHBOUR: 'it returns false'. Refute it at one input. -/
def shaHexWrong : ChangeSpec := { name := "shaHex", fn := fun _ => fun
  | [d] => { results := [.lit (.bool false)], args := [d] }
  | _ => none }
def ShaHexWrongFalsely : Prop := shaHexRow.holds Tryd.pinned (OpenSpec.ofChange shaHexWrong)

/-- 'timeballlaw02.ShaZero': WHATEVER THE INPUT: true; the input reads as it did. -/
def shaZeroSpec : ChangeSpec := { name := "shaZero", fn := fun _ => fun
  | [d] => { results := [.lit (.bool true)], args := [d] }
  | _ => none }
def shaZeroRow : OpenClaim := { program := "ythbnlidfgjgncaadoor", sum := "6d0c56407d2e711162152116b90f749637ea2f4cb633cfa5107dac5e7bda8997", func := "timeball/timeballlaw02.ShaZero", spec := "shaZero", inPlace := ["internal/abi.NoEscape", "internal/bytealg.MakeNoZero"], named := ["timeball/sha.constants", "timeball/sha.start"], apart := false, laid := [("timeball/sha.start", laid_timeball_sha_start), ("timeball/sha.constants", laid_timeball_sha_constants)] }
def ShaZeroSaid : Prop := shaZeroRow.holds Tryd.pinned (OpenSpec.ofChange shaZeroSpec)

/-- ITS FALSE NEIGHBOUR: 'it returns false'. Refute it at one input. -/
def shaZeroWrong : ChangeSpec := { name := "shaZero", fn := fun _ => fun
  | [d] => { results := [.lit (.bool false)], args := [d] }
  | _ => none }
def ShaZeroWrongFalsely : Prop := shaZeroRow.holds Tryd.pinned (OpenSpec.ofChange shaZeroWrong)

/- THE SECOND FORM. 'bulk': how many values and letters a reading holds, each counted each time it is reached (what is shared counts as often as it is met; a slice's spare places count too). A statement '..UptoSaid' is the law's where the arguments, and the package variables that the reading takes, are together of bulk at most 1048576: NARROWER than '..Said'. Prove '..Said' where nothing that the law and all that it calls make is longer than what came in: it says more and counts as full. Else prove '..UptoSaid'. A law counts once. -/
mutual
def uptoBulk {H : Type} : DataW H → Nat
  | .lit (.string bytes) => bytes.length + 1
  | .lit _ => 1
  | .nil => 1
  | .ptr d => uptoBulk d + 1
  | .slice elems spare => uptoBulkAll elems + uptoBulkAll spare + 1
  | .agg parts => uptoBulkAll parts + 1
  | .iface _ d => uptoBulk d + 1
  | .map entries => uptoBulkEntries entries + 1
  | .held _ => 1
def uptoBulkAll {H : Type} : List (DataW H) → Nat
  | [] => 0
  | d :: r => uptoBulk d + uptoBulkAll r
def uptoBulkEntries {H : Type} : List (Lit × DataW H) → Nat
  | [] => 0
  | x :: r => uptoBulkEntry x + uptoBulkEntries r
def uptoBulkEntry {H : Type} : Lit × DataW H → Nat
  | (.string bytes, d) => bytes.length + uptoBulk d + 1
  | (_, d) => uptoBulk d + 1
 end
def uptoSmall : (H : Type) → List (DataW H) → Bool := fun _ ds => decide (uptoBulkAll ds ≤ 1048576)
def OpenSpec.upto (s : _root_.Go.ChangeSpec) : _root_.Go.OpenSpec := { _root_.Go.OpenSpec.ofChange s with cond := some uptoSmall }

/-- 'timeballlaw02.ShaTells', WHERE WHAT IT READS IS OF BULK AT MOST 1048576: true; the input reads as it did. -/
def shaTellsUptoRow : OpenClaim := { program := "ythbnlidfgjgncaadoor", sum := "6d0c56407d2e711162152116b90f749637ea2f4cb633cfa5107dac5e7bda8997", func := "timeball/timeballlaw02.ShaTells", spec := "shaTells", inPlace := ["internal/abi.NoEscape", "internal/bytealg.MakeNoZero"], named := ["timeball/sha.constants", "timeball/sha.start"], apart := false, laid := [("timeball/sha.start", laid_timeball_sha_start), ("timeball/sha.constants", laid_timeball_sha_constants)], narrowed := true }
def ShaTellsUptoSaid : Prop := shaTellsUptoRow.holds Tryd.pinned (OpenSpec.upto shaTellsSpec)

/-- 'timeballlaw02.ShaWalks', WHERE WHAT IT READS IS OF BULK AT MOST 1048576: true; the input reads as it did. -/
def shaWalksUptoRow : OpenClaim := { program := "ythbnlidfgjgncaadoor", sum := "6d0c56407d2e711162152116b90f749637ea2f4cb633cfa5107dac5e7bda8997", func := "timeball/timeballlaw02.ShaWalks", spec := "shaWalks", inPlace := ["internal/abi.NoEscape", "internal/bytealg.MakeNoZero"], named := ["timeball/sha.constants", "timeball/sha.start"], apart := false, laid := [("timeball/sha.start", laid_timeball_sha_start), ("timeball/sha.constants", laid_timeball_sha_constants)], narrowed := true }
def ShaWalksUptoSaid : Prop := shaWalksUptoRow.holds Tryd.pinned (OpenSpec.upto shaWalksSpec)

/-- 'timeballlaw02.ShaPieces', WHERE WHAT IT READS IS OF BULK AT MOST 1048576: true; the input reads as it did. -/
def shaPiecesUptoRow : OpenClaim := { program := "ythbnlidfgjgncaadoor", sum := "6d0c56407d2e711162152116b90f749637ea2f4cb633cfa5107dac5e7bda8997", func := "timeball/timeballlaw02.ShaPieces", spec := "shaPieces", inPlace := ["internal/abi.NoEscape", "internal/bytealg.MakeNoZero"], named := ["timeball/sha.constants", "timeball/sha.start"], apart := false, laid := [("timeball/sha.start", laid_timeball_sha_start), ("timeball/sha.constants", laid_timeball_sha_constants)], narrowed := true }
def ShaPiecesUptoSaid : Prop := shaPiecesUptoRow.holds Tryd.pinned (OpenSpec.upto shaPiecesSpec)

/-- 'timeballlaw02.ShaBranches', WHERE WHAT IT READS IS OF BULK AT MOST 1048576: true; the input reads as it did. -/
def shaBranchesUptoRow : OpenClaim := { program := "ythbnlidfgjgncaadoor", sum := "6d0c56407d2e711162152116b90f749637ea2f4cb633cfa5107dac5e7bda8997", func := "timeball/timeballlaw02.ShaBranches", spec := "shaBranches", inPlace := ["internal/abi.NoEscape", "internal/bytealg.MakeNoZero"], named := ["timeball/sha.constants", "timeball/sha.start"], apart := false, laid := [("timeball/sha.start", laid_timeball_sha_start), ("timeball/sha.constants", laid_timeball_sha_constants)], narrowed := true }
def ShaBranchesUptoSaid : Prop := shaBranchesUptoRow.holds Tryd.pinned (OpenSpec.upto shaBranchesSpec)

/-- 'timeballlaw02.ShaAdds', WHERE WHAT IT READS IS OF BULK AT MOST 1048576: true; the input reads as it did. -/
def shaAddsUptoRow : OpenClaim := { program := "ythbnlidfgjgncaadoor", sum := "6d0c56407d2e711162152116b90f749637ea2f4cb633cfa5107dac5e7bda8997", func := "timeball/timeballlaw02.ShaAdds", spec := "shaAdds", inPlace := ["internal/abi.NoEscape", "internal/bytealg.MakeNoZero"], named := ["timeball/sha.constants", "timeball/sha.start"], apart := false, laid := [("timeball/sha.start", laid_timeball_sha_start), ("timeball/sha.constants", laid_timeball_sha_constants)], narrowed := true }
def ShaAddsUptoSaid : Prop := shaAddsUptoRow.holds Tryd.pinned (OpenSpec.upto shaAddsSpec)

/-- 'timeballlaw02.ShaHex', WHERE WHAT IT READS IS OF BULK AT MOST 1048576: true; the input reads as it did. -/
def shaHexUptoRow : OpenClaim := { program := "ythbnlidfgjgncaadoor", sum := "6d0c56407d2e711162152116b90f749637ea2f4cb633cfa5107dac5e7bda8997", func := "timeball/timeballlaw02.ShaHex", spec := "shaHex", inPlace := ["internal/abi.NoEscape", "internal/bytealg.MakeNoZero"], named := ["timeball/sha.constants", "timeball/sha.start"], apart := false, laid := [("timeball/sha.start", laid_timeball_sha_start), ("timeball/sha.constants", laid_timeball_sha_constants)], narrowed := true }
def ShaHexUptoSaid : Prop := shaHexUptoRow.holds Tryd.pinned (OpenSpec.upto shaHexSpec)

/-- 'timeballlaw02.ShaZero', WHERE WHAT IT READS IS OF BULK AT MOST 1048576: true; the input reads as it did. -/
def shaZeroUptoRow : OpenClaim := { program := "ythbnlidfgjgncaadoor", sum := "6d0c56407d2e711162152116b90f749637ea2f4cb633cfa5107dac5e7bda8997", func := "timeball/timeballlaw02.ShaZero", spec := "shaZero", inPlace := ["internal/abi.NoEscape", "internal/bytealg.MakeNoZero"], named := ["timeball/sha.constants", "timeball/sha.start"], apart := false, laid := [("timeball/sha.start", laid_timeball_sha_start), ("timeball/sha.constants", laid_timeball_sha_constants)], narrowed := true }
def ShaZeroUptoSaid : Prop := shaZeroUptoRow.holds Tryd.pinned (OpenSpec.upto shaZeroSpec)

end Rows
end Go.Proofs.YthbnlidfgjgncaaDoor
