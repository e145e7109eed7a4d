/-
  NARROWER THAN 'FOR EVERY INPUT', by the rows' own cells (each row's printed sentence says how): ChainTells: laid · ChainChecks: laid · ChainLearns: laid · ChainFar: laid · ChainJoins: laid · ChainSteps: laid.
  DERIVED. THE GIVEN ROWS OF THIS SEAT. 6 by the template 'for every input the law returns true; each argument reads behind the call as it read before'; 0 by the template 'total and deterministic' (their statements: YtcenaklbfdhimaaDoorTotals.lean).
  GIVEN WITH THE SEED: the statements are not yours to turn. If you find one false, say at which input.
  Laid BY PROGRAM, IN A SANDBOX (cutbox-rows.mjs): the forced cells as the released guide's own fill.sh prints them over the translation c3ba724cfffd36fa… (all of the seat's roots in one cut). By AI agents, Wed Nov 11 2026. No macro, syntax, notation, axiom, sorry.
-/
import Derived.Test.YtcenaklbfdhimaaDoorChecked
import GoSem.Claim
import GoSem.ClaimJoined
import GoSem.ClaimMapViews
import Derived.JoinedTies
import Derived.KernelRfl
namespace Go.Proofs.YtcenaklbfdhimaaDoor
/- THE CELL 'sum', in the pinned program and in every row, IS THE sha256 OF THE DUMP (.gsa) THAT YtcenaklbfdhimaaDoorProg.lean LOADS. Nothing in Lean hashes anything: it is a label: what it is worth is what the hold of that sum in a sandbox is worth. -/
noncomputable def Tryd.pinned : Pinned := { name := "ytcenaklbfdhimaadoor", sum := "c3ba724cfffd36faf354b9477978f0a85d874c473485d91f1f88f69f753b408a", checked := Tryd.checked }
namespace Rows
def none {H : Type} : Left H := { results := [], args := [] }

/- WHAT THE LISTED PACKAGE-LEVEL VARIABLES READ AS WHEN THE CALL BEGINS. Each datum BY PROGRAM (the guide's laid-datum.mjs) off the statement by which the dump's own 'gosem.cut.vars' lays the variable. In a bare row this is a premise. The card (YtcenaklbfdhimaaDoorCards.lean) ties it to the program's text. -/
def laid_timeball_sha_start {H : Type} : DataW H := .agg [.lit (.int .u32 1779033703), .lit (.int .u32 3144134277), .lit (.int .u32 1013904242), .lit (.int .u32 2773480762), .lit (.int .u32 1359893119), .lit (.int .u32 2600822924), .lit (.int .u32 528734635), .lit (.int .u32 1541459225)]
def laid_timeball_sha_constants {H : Type} : DataW H := .agg [.lit (.int .u32 1116352408), .lit (.int .u32 1899447441), .lit (.int .u32 3049323471), .lit (.int .u32 3921009573), .lit (.int .u32 961987163), .lit (.int .u32 1508970993), .lit (.int .u32 2453635748), .lit (.int .u32 2870763221), .lit (.int .u32 3624381080), .lit (.int .u32 310598401), .lit (.int .u32 607225278), .lit (.int .u32 1426881987), .lit (.int .u32 1925078388), .lit (.int .u32 2162078206), .lit (.int .u32 2614888103), .lit (.int .u32 3248222580), .lit (.int .u32 3835390401), .lit (.int .u32 4022224774), .lit (.int .u32 264347078), .lit (.int .u32 604807628), .lit (.int .u32 770255983), .lit (.int .u32 1249150122), .lit (.int .u32 1555081692), .lit (.int .u32 1996064986), .lit (.int .u32 2554220882), .lit (.int .u32 2821834349), .lit (.int .u32 2952996808), .lit (.int .u32 3210313671), .lit (.int .u32 3336571891), .lit (.int .u32 3584528711), .lit (.int .u32 113926993), .lit (.int .u32 338241895), .lit (.int .u32 666307205), .lit (.int .u32 773529912), .lit (.int .u32 1294757372), .lit (.int .u32 1396182291), .lit (.int .u32 1695183700), .lit (.int .u32 1986661051), .lit (.int .u32 2177026350), .lit (.int .u32 2456956037), .lit (.int .u32 2730485921), .lit (.int .u32 2820302411), .lit (.int .u32 3259730800), .lit (.int .u32 3345764771), .lit (.int .u32 3516065817), .lit (.int .u32 3600352804), .lit (.int .u32 4094571909), .lit (.int .u32 275423344), .lit (.int .u32 430227734), .lit (.int .u32 506948616), .lit (.int .u32 659060556), .lit (.int .u32 883997877), .lit (.int .u32 958139571), .lit (.int .u32 1322822218), .lit (.int .u32 1537002063), .lit (.int .u32 1747873779), .lit (.int .u32 1955562222), .lit (.int .u32 2024104815), .lit (.int .u32 2227730452), .lit (.int .u32 2361852424), .lit (.int .u32 2428436474), .lit (.int .u32 2756734187), .lit (.int .u32 3204031479), .lit (.int .u32 3329325298)]

/-- 'timeballlaw08.ChainTells': WHATEVER THE INPUT: true; the input reads as it did. -/
def chainTellsSpec : ChangeSpec := { name := "chainTells", fn := fun _ => fun
  | [d1, d2, d3] => { results := [.lit (.bool true)], args := [d1, d2, d3] }
  | _ => none }
def chainTellsRow : OpenClaim := { program := "ytcenaklbfdhimaadoor", sum := "c3ba724cfffd36faf354b9477978f0a85d874c473485d91f1f88f69f753b408a", func := "timeball/timeballlaw08.ChainTells", spec := "chainTells", inPlace := ["internal/abi.NoEscape", "internal/bytealg.MakeNoZero"], unfollowed := true, recurses := true, named := ["timeball/sha.constants", "timeball/sha.start"], apart := false, laid := [("timeball/sha.start", laid_timeball_sha_start), ("timeball/sha.constants", laid_timeball_sha_constants)] }
def ChainTellsSaid : Prop := chainTellsRow.holds Tryd.pinned (OpenSpec.ofChange chainTellsSpec)

/-- ITS FALSE NEIGHBOUR: 'it returns false'. Refute it at one input. -/
def chainTellsWrong : ChangeSpec := { name := "chainTells", fn := fun _ => fun
  | [d1, d2, d3] => { results := [.lit (.bool false)], args := [d1, d2, d3] }
  | _ => none }
def ChainTellsWrongFalsely : Prop := chainTellsRow.holds Tryd.pinned (OpenSpec.ofChange chainTellsWrong)

/-- 'timeballlaw08.ChainChecks': WHATEVER THE INPUT: true; the input reads as it did. -/
def chainChecksSpec : ChangeSpec := { name := "chainChecks", fn := fun _ => fun
  | [d1, d2, d3, d4, d5, d6] => { results := [.lit (.bool true)], args := [d1, d2, d3, d4, d5, d6] }
  | _ => none }
def chainChecksRow : OpenClaim := { program := "ytcenaklbfdhimaadoor", sum := "c3ba724cfffd36faf354b9477978f0a85d874c473485d91f1f88f69f753b408a", func := "timeball/timeballlaw08.ChainChecks", spec := "chainChecks", inPlace := ["internal/abi.NoEscape", "internal/bytealg.MakeNoZero"], unfollowed := true, recurses := true, named := ["timeball/sha.constants", "timeball/sha.start"], apart := false, laid := [("timeball/sha.start", laid_timeball_sha_start), ("timeball/sha.constants", laid_timeball_sha_constants)] }
def ChainChecksSaid : Prop := chainChecksRow.holds Tryd.pinned (OpenSpec.ofChange chainChecksSpec)

/-- ITS FALSE NEIGHBOUR: 'it returns false'. Refute it at one input. -/
def chainChecksWrong : ChangeSpec := { name := "chainChecks", fn := fun _ => fun
  | [d1, d2, d3, d4, d5, d6] => { results := [.lit (.bool false)], args := [d1, d2, d3, d4, d5, d6] }
  | _ => none }
def ChainChecksWrongFalsely : Prop := chainChecksRow.holds Tryd.pinned (OpenSpec.ofChange chainChecksWrong)

/-- 'timeballlaw08.ChainLearns': WHATEVER THE INPUT: true; the input reads as it did. -/
def chainLearnsSpec : ChangeSpec := { name := "chainLearns", fn := fun _ => fun
  | [d1, d2, d3] => { results := [.lit (.bool true)], args := [d1, d2, d3] }
  | _ => none }
def chainLearnsRow : OpenClaim := { program := "ytcenaklbfdhimaadoor", sum := "c3ba724cfffd36faf354b9477978f0a85d874c473485d91f1f88f69f753b408a", func := "timeball/timeballlaw08.ChainLearns", spec := "chainLearns", inPlace := ["internal/abi.NoEscape", "internal/bytealg.MakeNoZero"], unfollowed := true, recurses := true, named := ["timeball/sha.constants", "timeball/sha.start"], apart := false, laid := [("timeball/sha.start", laid_timeball_sha_start), ("timeball/sha.constants", laid_timeball_sha_constants)] }
def ChainLearnsSaid : Prop := chainLearnsRow.holds Tryd.pinned (OpenSpec.ofChange chainLearnsSpec)

/-- ITS FALSE NEIGHBOUR: 'it returns false'. Refute it at one input. -/
def chainLearnsWrong : ChangeSpec := { name := "chainLearns", fn := fun _ => fun
  | [d1, d2, d3] => { results := [.lit (.bool false)], args := [d1, d2, d3] }
  | _ => none }
def ChainLearnsWrongFalsely : Prop := chainLearnsRow.holds Tryd.pinned (OpenSpec.ofChange chainLearnsWrong)

/-- 'timeballlaw08.ChainFar': WHATEVER THE INPUT: true; the input reads as it did. -/
def chainFarSpec : ChangeSpec := { name := "chainFar", fn := fun _ => fun
  | [d1, d2, d3, d4, d5] => { results := [.lit (.bool true)], args := [d1, d2, d3, d4, d5] }
  | _ => none }
def chainFarRow : OpenClaim := { program := "ytcenaklbfdhimaadoor", sum := "c3ba724cfffd36faf354b9477978f0a85d874c473485d91f1f88f69f753b408a", func := "timeball/timeballlaw08.ChainFar", spec := "chainFar", inPlace := ["internal/abi.NoEscape", "internal/bytealg.MakeNoZero"], unfollowed := true, recurses := true, named := ["timeball/sha.constants", "timeball/sha.start"], apart := false, laid := [("timeball/sha.start", laid_timeball_sha_start), ("timeball/sha.constants", laid_timeball_sha_constants)] }
def ChainFarSaid : Prop := chainFarRow.holds Tryd.pinned (OpenSpec.ofChange chainFarSpec)

/-- ITS FALSE NEIGHBOUR: 'it returns false'. Refute it at one input. -/
def chainFarWrong : ChangeSpec := { name := "chainFar", fn := fun _ => fun
  | [d1, d2, d3, d4, d5] => { results := [.lit (.bool false)], args := [d1, d2, d3, d4, d5] }
  | _ => none }
def ChainFarWrongFalsely : Prop := chainFarRow.holds Tryd.pinned (OpenSpec.ofChange chainFarWrong)

/-- 'timeballlaw08.ChainJoins': WHATEVER THE INPUT: true; the input reads as it did. -/
def chainJoinsSpec : ChangeSpec := { name := "chainJoins", fn := fun _ => fun
  | [d1, d2, d3] => { results := [.lit (.bool true)], args := [d1, d2, d3] }
  | _ => none }
def chainJoinsRow : OpenClaim := { program := "ytcenaklbfdhimaadoor", sum := "c3ba724cfffd36faf354b9477978f0a85d874c473485d91f1f88f69f753b408a", func := "timeball/timeballlaw08.ChainJoins", spec := "chainJoins", inPlace := ["internal/abi.NoEscape", "internal/bytealg.MakeNoZero"], unfollowed := true, recurses := true, named := ["timeball/sha.constants", "timeball/sha.start"], apart := false, laid := [("timeball/sha.start", laid_timeball_sha_start), ("timeball/sha.constants", laid_timeball_sha_constants)] }
def ChainJoinsSaid : Prop := chainJoinsRow.holds Tryd.pinned (OpenSpec.ofChange chainJoinsSpec)

/-- ITS FALSE NEIGHBOUR: 'it returns false'. Refute it at one input. -/
def chainJoinsWrong : ChangeSpec := { name := "chainJoins", fn := fun _ => fun
  | [d1, d2, d3] => { results := [.lit (.bool false)], args := [d1, d2, d3] }
  | _ => none }
def ChainJoinsWrongFalsely : Prop := chainJoinsRow.holds Tryd.pinned (OpenSpec.ofChange chainJoinsWrong)

/-- 'timeballlaw08.ChainSteps': WHATEVER THE INPUT: true; the input reads as it did. -/
def chainStepsSpec : ChangeSpec := { name := "chainSteps", fn := fun _ => fun
  | [d1, d2, d3] => { results := [.lit (.bool true)], args := [d1, d2, d3] }
  | _ => none }
def chainStepsRow : OpenClaim := { program := "ytcenaklbfdhimaadoor", sum := "c3ba724cfffd36faf354b9477978f0a85d874c473485d91f1f88f69f753b408a", func := "timeball/timeballlaw08.ChainSteps", spec := "chainSteps", inPlace := ["internal/abi.NoEscape", "internal/bytealg.MakeNoZero"], unfollowed := true, recurses := true, named := ["timeball/sha.constants", "timeball/sha.start"], apart := false, laid := [("timeball/sha.start", laid_timeball_sha_start), ("timeball/sha.constants", laid_timeball_sha_constants)] }
def ChainStepsSaid : Prop := chainStepsRow.holds Tryd.pinned (OpenSpec.ofChange chainStepsSpec)

/-- ITS FALSE NEIGHBOUR: 'it returns false'. Refute it at one input. -/
def chainStepsWrong : ChangeSpec := { name := "chainSteps", fn := fun _ => fun
  | [d1, d2, d3] => { results := [.lit (.bool false)], args := [d1, d2, d3] }
  | _ => none }
def ChainStepsWrongFalsely : Prop := chainStepsRow.holds Tryd.pinned (OpenSpec.ofChange chainStepsWrong)

/- THE SECOND FORM. 'bulk': how many values and letters a reading holds, each counted each time it is reached (what is shared counts as often as it is met; a slice's spare places count too). A statement '..UptoSaid' is the law's where the arguments, and the package variables that the reading takes, are together of bulk at most 1048576: NARROWER than '..Said'. Prove '..Said' where nothing that the law and all that it calls make is longer than what came in: it says more and counts as full. Else prove '..UptoSaid'. A law counts once. -/
mutual
def uptoBulk {H : Type} : DataW H → Nat
  | .lit (.string bytes) => bytes.length + 1
  | .lit _ => 1
  | .nil => 1
  | .ptr d => uptoBulk d + 1
  | .slice elems spare => uptoBulkAll elems + uptoBulkAll spare + 1
  | .agg parts => uptoBulkAll parts + 1
  | .iface _ d => uptoBulk d + 1
  | .map entries => uptoBulkEntries entries + 1
  | .held _ => 1
def uptoBulkAll {H : Type} : List (DataW H) → Nat
  | [] => 0
  | d :: r => uptoBulk d + uptoBulkAll r
def uptoBulkEntries {H : Type} : List (Lit × DataW H) → Nat
  | [] => 0
  | x :: r => uptoBulkEntry x + uptoBulkEntries r
def uptoBulkEntry {H : Type} : Lit × DataW H → Nat
  | (.string bytes, d) => bytes.length + uptoBulk d + 1
  | (_, d) => uptoBulk d + 1
 end
def uptoSmall : (H : Type) → List (DataW H) → Bool := fun _ ds => decide (uptoBulkAll ds ≤ 1048576)
def OpenSpec.upto (s : _root_.Go.ChangeSpec) : _root_.Go.OpenSpec := { _root_.Go.OpenSpec.ofChange s with cond := some uptoSmall }

/-- 'timeballlaw08.ChainTells', WHERE WHAT IT READS IS OF BULK AT MOST 1048576: true; the input reads as it did. -/
def chainTellsUptoRow : OpenClaim := { program := "ytcenaklbfdhimaadoor", sum := "c3ba724cfffd36faf354b9477978f0a85d874c473485d91f1f88f69f753b408a", func := "timeball/timeballlaw08.ChainTells", spec := "chainTells", inPlace := ["internal/abi.NoEscape", "internal/bytealg.MakeNoZero"], unfollowed := true, recurses := true, named := ["timeball/sha.constants", "timeball/sha.start"], apart := false, laid := [("timeball/sha.start", laid_timeball_sha_start), ("timeball/sha.constants", laid_timeball_sha_constants)], narrowed := true }
def ChainTellsUptoSaid : Prop := chainTellsUptoRow.holds Tryd.pinned (OpenSpec.upto chainTellsSpec)

/-- 'timeballlaw08.ChainChecks', WHERE WHAT IT READS IS OF BULK AT MOST 1048576: true; the input reads as it did. -/
def chainChecksUptoRow : OpenClaim := { program := "ytcenaklbfdhimaadoor", sum := "c3ba724cfffd36faf354b9477978f0a85d874c473485d91f1f88f69f753b408a", func := "timeball/timeballlaw08.ChainChecks", spec := "chainChecks", inPlace := ["internal/abi.NoEscape", "internal/bytealg.MakeNoZero"], unfollowed := true, recurses := true, named := ["timeball/sha.constants", "timeball/sha.start"], apart := false, laid := [("timeball/sha.start", laid_timeball_sha_start), ("timeball/sha.constants", laid_timeball_sha_constants)], narrowed := true }
def ChainChecksUptoSaid : Prop := chainChecksUptoRow.holds Tryd.pinned (OpenSpec.upto chainChecksSpec)

/-- 'timeballlaw08.ChainLearns', WHERE WHAT IT READS IS OF BULK AT MOST 1048576: true; the input reads as it did. -/
def chainLearnsUptoRow : OpenClaim := { program := "ytcenaklbfdhimaadoor", sum := "c3ba724cfffd36faf354b9477978f0a85d874c473485d91f1f88f69f753b408a", func := "timeball/timeballlaw08.ChainLearns", spec := "chainLearns", inPlace := ["internal/abi.NoEscape", "internal/bytealg.MakeNoZero"], unfollowed := true, recurses := true, named := ["timeball/sha.constants", "timeball/sha.start"], apart := false, laid := [("timeball/sha.start", laid_timeball_sha_start), ("timeball/sha.constants", laid_timeball_sha_constants)], narrowed := true }
def ChainLearnsUptoSaid : Prop := chainLearnsUptoRow.holds Tryd.pinned (OpenSpec.upto chainLearnsSpec)

/-- 'timeballlaw08.ChainFar', WHERE WHAT IT READS IS OF BULK AT MOST 1048576: true; the input reads as it did. -/
def chainFarUptoRow : OpenClaim := { program := "ytcenaklbfdhimaadoor", sum := "c3ba724cfffd36faf354b9477978f0a85d874c473485d91f1f88f69f753b408a", func := "timeball/timeballlaw08.ChainFar", spec := "chainFar", inPlace := ["internal/abi.NoEscape", "internal/bytealg.MakeNoZero"], unfollowed := true, recurses := true, named := ["timeball/sha.constants", "timeball/sha.start"], apart := false, laid := [("timeball/sha.start", laid_timeball_sha_start), ("timeball/sha.constants", laid_timeball_sha_constants)], narrowed := true }
def ChainFarUptoSaid : Prop := chainFarUptoRow.holds Tryd.pinned (OpenSpec.upto chainFarSpec)

/-- 'timeballlaw08.ChainJoins', WHERE WHAT IT READS IS OF BULK AT MOST 1048576: true; the input reads as it did. -/
def chainJoinsUptoRow : OpenClaim := { program := "ytcenaklbfdhimaadoor", sum := "c3ba724cfffd36faf354b9477978f0a85d874c473485d91f1f88f69f753b408a", func := "timeball/timeballlaw08.ChainJoins", spec := "chainJoins", inPlace := ["internal/abi.NoEscape", "internal/bytealg.MakeNoZero"], unfollowed := true, recurses := true, named := ["timeball/sha.constants", "timeball/sha.start"], apart := false, laid := [("timeball/sha.start", laid_timeball_sha_start), ("timeball/sha.constants", laid_timeball_sha_constants)], narrowed := true }
def ChainJoinsUptoSaid : Prop := chainJoinsUptoRow.holds Tryd.pinned (OpenSpec.upto chainJoinsSpec)

/-- 'timeballlaw08.ChainSteps', WHERE WHAT IT READS IS OF BULK AT MOST 1048576: true; the input reads as it did. -/
def chainStepsUptoRow : OpenClaim := { program := "ytcenaklbfdhimaadoor", sum := "c3ba724cfffd36faf354b9477978f0a85d874c473485d91f1f88f69f753b408a", func := "timeball/timeballlaw08.ChainSteps", spec := "chainSteps", inPlace := ["internal/abi.NoEscape", "internal/bytealg.MakeNoZero"], unfollowed := true, recurses := true, named := ["timeball/sha.constants", "timeball/sha.start"], apart := false, laid := [("timeball/sha.start", laid_timeball_sha_start), ("timeball/sha.constants", laid_timeball_sha_constants)], narrowed := true }
def ChainStepsUptoSaid : Prop := chainStepsUptoRow.holds Tryd.pinned (OpenSpec.upto chainStepsSpec)

end Rows
end Go.Proofs.YtcenaklbfdhimaaDoor
