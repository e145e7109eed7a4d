/-
  NARROWER THAN 'FOR EVERY INPUT', by the rows' own cells (each row's printed sentence says how): SenderSends: laid · SenderTags: laid · SenderTells: laid · SenderRises: laid · SenderRenews: laid · SenderSame: laid.
  DERIVED. THE GIVEN ROWS OF THIS SEAT. 6 by the template 'for every input the law returns true; each argument reads behind the call as it read before'; 0 by the template 'total and deterministic' (their statements: YtphocklnhoakcaaDoorTotals.lean).
  GIVEN WITH THE SEED: the statements are not yours to turn. If you find one false, say at which input.
  Laid BY PROGRAM, IN A SANDBOX (cutbox-rows.mjs): the forced cells as the released guide's own fill.sh prints them over the translation 75b8939a9c6d651c… (all of the seat's roots in one cut). By AI agents, Wed Nov 11 2026. No macro, syntax, notation, axiom, sorry.
-/
import Derived.Test.YtphocklnhoakcaaDoorChecked
import GoSem.Claim
import GoSem.ClaimJoined
import GoSem.ClaimMapViews
import Derived.JoinedTies
import Derived.KernelRfl
namespace Go.Proofs.YtphocklnhoakcaaDoor
/- THE CELL 'sum', in the pinned program and in every row, IS THE sha256 OF THE DUMP (.gsa) THAT YtphocklnhoakcaaDoorProg.lean LOADS. Nothing in Lean hashes anything: it is a label: what it is worth is what the hold of that sum in a sandbox is worth. -/
noncomputable def Tryd.pinned : Pinned := { name := "ytphocklnhoakcaadoor", sum := "75b8939a9c6d651c94ad0a7b80871b1238ed1b1040bb72da3c006db89cc9770b", checked := Tryd.checked }
namespace Rows
def none {H : Type} : Left H := { results := [], args := [] }

/- WHAT THE LISTED PACKAGE-LEVEL VARIABLES READ AS WHEN THE CALL BEGINS. Each datum BY PROGRAM (the guide's laid-datum.mjs) off the statement by which the dump's own 'gosem.cut.vars' lays the variable. In a bare row this is a premise. The card (YtphocklnhoakcaaDoorCards.lean) ties it to the program's text. -/
def laid_timeball_sha_start {H : Type} : DataW H := .agg [.lit (.int .u32 1779033703), .lit (.int .u32 3144134277), .lit (.int .u32 1013904242), .lit (.int .u32 2773480762), .lit (.int .u32 1359893119), .lit (.int .u32 2600822924), .lit (.int .u32 528734635), .lit (.int .u32 1541459225)]
def laid_timeball_sha_constants {H : Type} : DataW H := .agg [.lit (.int .u32 1116352408), .lit (.int .u32 1899447441), .lit (.int .u32 3049323471), .lit (.int .u32 3921009573), .lit (.int .u32 961987163), .lit (.int .u32 1508970993), .lit (.int .u32 2453635748), .lit (.int .u32 2870763221), .lit (.int .u32 3624381080), .lit (.int .u32 310598401), .lit (.int .u32 607225278), .lit (.int .u32 1426881987), .lit (.int .u32 1925078388), .lit (.int .u32 2162078206), .lit (.int .u32 2614888103), .lit (.int .u32 3248222580), .lit (.int .u32 3835390401), .lit (.int .u32 4022224774), .lit (.int .u32 264347078), .lit (.int .u32 604807628), .lit (.int .u32 770255983), .lit (.int .u32 1249150122), .lit (.int .u32 1555081692), .lit (.int .u32 1996064986), .lit (.int .u32 2554220882), .lit (.int .u32 2821834349), .lit (.int .u32 2952996808), .lit (.int .u32 3210313671), .lit (.int .u32 3336571891), .lit (.int .u32 3584528711), .lit (.int .u32 113926993), .lit (.int .u32 338241895), .lit (.int .u32 666307205), .lit (.int .u32 773529912), .lit (.int .u32 1294757372), .lit (.int .u32 1396182291), .lit (.int .u32 1695183700), .lit (.int .u32 1986661051), .lit (.int .u32 2177026350), .lit (.int .u32 2456956037), .lit (.int .u32 2730485921), .lit (.int .u32 2820302411), .lit (.int .u32 3259730800), .lit (.int .u32 3345764771), .lit (.int .u32 3516065817), .lit (.int .u32 3600352804), .lit (.int .u32 4094571909), .lit (.int .u32 275423344), .lit (.int .u32 430227734), .lit (.int .u32 506948616), .lit (.int .u32 659060556), .lit (.int .u32 883997877), .lit (.int .u32 958139571), .lit (.int .u32 1322822218), .lit (.int .u32 1537002063), .lit (.int .u32 1747873779), .lit (.int .u32 1955562222), .lit (.int .u32 2024104815), .lit (.int .u32 2227730452), .lit (.int .u32 2361852424), .lit (.int .u32 2428436474), .lit (.int .u32 2756734187), .lit (.int .u32 3204031479), .lit (.int .u32 3329325298)]

/-- 'timeballlaw12.SenderSends': WHATEVER THE INPUT: true; the input reads as it did. -/
def senderSendsSpec : ChangeSpec := { name := "senderSends", fn := fun _ => fun
  | [d1, d2, d3, d4] => { results := [.lit (.bool true)], args := [d1, d2, d3, d4] }
  | _ => none }
def senderSendsRow : OpenClaim := { program := "ytphocklnhoakcaadoor", sum := "75b8939a9c6d651c94ad0a7b80871b1238ed1b1040bb72da3c006db89cc9770b", func := "timeball/timeballlaw12.SenderSends", spec := "senderSends", inPlace := ["internal/abi.NoEscape", "internal/bytealg.MakeNoZero", "math/bits.Sub64"], unfollowed := true, recurses := true, named := ["timeball/sha.constants", "timeball/sha.start"], apart := false, laid := [("timeball/sha.start", laid_timeball_sha_start), ("timeball/sha.constants", laid_timeball_sha_constants)] }
def SenderSendsSaid : Prop := senderSendsRow.holds Tryd.pinned (OpenSpec.ofChange senderSendsSpec)

/-- ITS FALSE NEIGHBOUR: 'it returns false'. Refute it at one input. -/
def senderSendsWrong : ChangeSpec := { name := "senderSends", fn := fun _ => fun
  | [d1, d2, d3, d4] => { results := [.lit (.bool false)], args := [d1, d2, d3, d4] }
  | _ => none }
def SenderSendsWrongFalsely : Prop := senderSendsRow.holds Tryd.pinned (OpenSpec.ofChange senderSendsWrong)

/-- 'timeballlaw12.SenderTags': WHATEVER THE INPUT: true; the input reads as it did. -/
def senderTagsSpec : ChangeSpec := { name := "senderTags", fn := fun _ => fun
  | [d1, d2] => { results := [.lit (.bool true)], args := [d1, d2] }
  | _ => none }
def senderTagsRow : OpenClaim := { program := "ytphocklnhoakcaadoor", sum := "75b8939a9c6d651c94ad0a7b80871b1238ed1b1040bb72da3c006db89cc9770b", func := "timeball/timeballlaw12.SenderTags", spec := "senderTags", inPlace := ["internal/abi.NoEscape", "internal/bytealg.MakeNoZero", "math/bits.Sub64"], unfollowed := true, recurses := true, named := ["timeball/sha.constants", "timeball/sha.start"], apart := false, laid := [("timeball/sha.start", laid_timeball_sha_start), ("timeball/sha.constants", laid_timeball_sha_constants)] }
def SenderTagsSaid : Prop := senderTagsRow.holds Tryd.pinned (OpenSpec.ofChange senderTagsSpec)

/-- ITS FALSE NEIGHBOUR: 'it returns false'. Refute it at one input. -/
def senderTagsWrong : ChangeSpec := { name := "senderTags", fn := fun _ => fun
  | [d1, d2] => { results := [.lit (.bool false)], args := [d1, d2] }
  | _ => none }
def SenderTagsWrongFalsely : Prop := senderTagsRow.holds Tryd.pinned (OpenSpec.ofChange senderTagsWrong)

/-- 'timeballlaw12.SenderTells': WHATEVER THE INPUT: true; the input reads as it did. -/
def senderTellsSpec : ChangeSpec := { name := "senderTells", fn := fun _ => fun
  | [d1, d2, d3] => { results := [.lit (.bool true)], args := [d1, d2, d3] }
  | _ => none }
def senderTellsRow : OpenClaim := { program := "ytphocklnhoakcaadoor", sum := "75b8939a9c6d651c94ad0a7b80871b1238ed1b1040bb72da3c006db89cc9770b", func := "timeball/timeballlaw12.SenderTells", spec := "senderTells", inPlace := ["internal/abi.NoEscape", "internal/bytealg.MakeNoZero", "math/bits.Sub64"], unfollowed := true, recurses := true, named := ["timeball/sha.constants", "timeball/sha.start"], apart := false, laid := [("timeball/sha.start", laid_timeball_sha_start), ("timeball/sha.constants", laid_timeball_sha_constants)] }
def SenderTellsSaid : Prop := senderTellsRow.holds Tryd.pinned (OpenSpec.ofChange senderTellsSpec)

/-- ITS FALSE NEIGHBOUR: 'it returns false'. Refute it at one input. -/
def senderTellsWrong : ChangeSpec := { name := "senderTells", fn := fun _ => fun
  | [d1, d2, d3] => { results := [.lit (.bool false)], args := [d1, d2, d3] }
  | _ => none }
def SenderTellsWrongFalsely : Prop := senderTellsRow.holds Tryd.pinned (OpenSpec.ofChange senderTellsWrong)

/-- 'timeballlaw12.SenderRises': WHATEVER THE INPUT: true; the input reads as it did. -/
def senderRisesSpec : ChangeSpec := { name := "senderRises", fn := fun _ => fun
  | [d1, d2, d3] => { results := [.lit (.bool true)], args := [d1, d2, d3] }
  | _ => none }
def senderRisesRow : OpenClaim := { program := "ytphocklnhoakcaadoor", sum := "75b8939a9c6d651c94ad0a7b80871b1238ed1b1040bb72da3c006db89cc9770b", func := "timeball/timeballlaw12.SenderRises", spec := "senderRises", inPlace := ["internal/abi.NoEscape", "internal/bytealg.MakeNoZero", "math/bits.Sub64"], unfollowed := true, recurses := true, named := ["timeball/sha.constants", "timeball/sha.start"], apart := false, laid := [("timeball/sha.start", laid_timeball_sha_start), ("timeball/sha.constants", laid_timeball_sha_constants)] }
def SenderRisesSaid : Prop := senderRisesRow.holds Tryd.pinned (OpenSpec.ofChange senderRisesSpec)

/-- ITS FALSE NEIGHBOUR: 'it returns false'. Refute it at one input. -/
def senderRisesWrong : ChangeSpec := { name := "senderRises", fn := fun _ => fun
  | [d1, d2, d3] => { results := [.lit (.bool false)], args := [d1, d2, d3] }
  | _ => none }
def SenderRisesWrongFalsely : Prop := senderRisesRow.holds Tryd.pinned (OpenSpec.ofChange senderRisesWrong)

/-- 'timeballlaw12.SenderRenews': WHATEVER THE INPUT: true; the input reads as it did. -/
def senderRenewsSpec : ChangeSpec := { name := "senderRenews", fn := fun _ => fun
  | [d1, d2, d3] => { results := [.lit (.bool true)], args := [d1, d2, d3] }
  | _ => none }
def senderRenewsRow : OpenClaim := { program := "ytphocklnhoakcaadoor", sum := "75b8939a9c6d651c94ad0a7b80871b1238ed1b1040bb72da3c006db89cc9770b", func := "timeball/timeballlaw12.SenderRenews", spec := "senderRenews", inPlace := ["internal/abi.NoEscape", "internal/bytealg.MakeNoZero", "math/bits.Sub64"], unfollowed := true, recurses := true, named := ["timeball/sha.constants", "timeball/sha.start"], apart := false, laid := [("timeball/sha.start", laid_timeball_sha_start), ("timeball/sha.constants", laid_timeball_sha_constants)] }
def SenderRenewsSaid : Prop := senderRenewsRow.holds Tryd.pinned (OpenSpec.ofChange senderRenewsSpec)

/-- ITS FALSE NEIGHBOUR: 'it returns false'. Refute it at one input. -/
def senderRenewsWrong : ChangeSpec := { name := "senderRenews", fn := fun _ => fun
  | [d1, d2, d3] => { results := [.lit (.bool false)], args := [d1, d2, d3] }
  | _ => none }
def SenderRenewsWrongFalsely : Prop := senderRenewsRow.holds Tryd.pinned (OpenSpec.ofChange senderRenewsWrong)

/-- 'timeballlaw12.SenderSame': WHATEVER THE INPUT: true; the input reads as it did. -/
def senderSameSpec : ChangeSpec := { name := "senderSame", fn := fun _ => fun
  | [d1, d2, d3, d4, d5] => { results := [.lit (.bool true)], args := [d1, d2, d3, d4, d5] }
  | _ => none }
def senderSameRow : OpenClaim := { program := "ytphocklnhoakcaadoor", sum := "75b8939a9c6d651c94ad0a7b80871b1238ed1b1040bb72da3c006db89cc9770b", func := "timeball/timeballlaw12.SenderSame", spec := "senderSame", inPlace := ["internal/abi.NoEscape", "internal/bytealg.MakeNoZero", "math/bits.Sub64"], unfollowed := true, recurses := true, named := ["timeball/sha.constants", "timeball/sha.start"], apart := false, laid := [("timeball/sha.start", laid_timeball_sha_start), ("timeball/sha.constants", laid_timeball_sha_constants)] }
def SenderSameSaid : Prop := senderSameRow.holds Tryd.pinned (OpenSpec.ofChange senderSameSpec)

/-- ITS FALSE NEIGHBOUR: 'it returns false'. Refute it at one input. -/
def senderSameWrong : ChangeSpec := { name := "senderSame", fn := fun _ => fun
  | [d1, d2, d3, d4, d5] => { results := [.lit (.bool false)], args := [d1, d2, d3, d4, d5] }
  | _ => none }
def SenderSameWrongFalsely : Prop := senderSameRow.holds Tryd.pinned (OpenSpec.ofChange senderSameWrong)

/- THE SECOND FORM. 'bulk': how many values and letters a reading holds, each counted each time it is reached (what is shared counts as often as it is met; a slice's spare places count too). A statement '..UptoSaid' is the law's where the arguments, and the package variables that the reading takes, are together of bulk at most 1048576: NARROWER than '..Said'. Prove '..Said' where nothing that the law and all that it calls make is longer than what came in: it says more and counts as full. Else prove '..UptoSaid'. A law counts once. -/
mutual
def uptoBulk {H : Type} : DataW H → Nat
  | .lit (.string bytes) => bytes.length + 1
  | .lit _ => 1
  | .nil => 1
  | .ptr d => uptoBulk d + 1
  | .slice elems spare => uptoBulkAll elems + uptoBulkAll spare + 1
  | .agg parts => uptoBulkAll parts + 1
  | .iface _ d => uptoBulk d + 1
  | .map entries => uptoBulkEntries entries + 1
  | .held _ => 1
def uptoBulkAll {H : Type} : List (DataW H) → Nat
  | [] => 0
  | d :: r => uptoBulk d + uptoBulkAll r
def uptoBulkEntries {H : Type} : List (Lit × DataW H) → Nat
  | [] => 0
  | x :: r => uptoBulkEntry x + uptoBulkEntries r
def uptoBulkEntry {H : Type} : Lit × DataW H → Nat
  | (.string bytes, d) => bytes.length + uptoBulk d + 1
  | (_, d) => uptoBulk d + 1
 end
def uptoSmall : (H : Type) → List (DataW H) → Bool := fun _ ds => decide (uptoBulkAll ds ≤ 1048576)
def OpenSpec.upto (s : _root_.Go.ChangeSpec) : _root_.Go.OpenSpec := { _root_.Go.OpenSpec.ofChange s with cond := some uptoSmall }

/-- 'timeballlaw12.SenderSends', WHERE WHAT IT READS IS OF BULK AT MOST 1048576: true; the input reads as it did. -/
def senderSendsUptoRow : OpenClaim := { program := "ytphocklnhoakcaadoor", sum := "75b8939a9c6d651c94ad0a7b80871b1238ed1b1040bb72da3c006db89cc9770b", func := "timeball/timeballlaw12.SenderSends", spec := "senderSends", inPlace := ["internal/abi.NoEscape", "internal/bytealg.MakeNoZero", "math/bits.Sub64"], unfollowed := true, recurses := true, named := ["timeball/sha.constants", "timeball/sha.start"], apart := false, laid := [("timeball/sha.start", laid_timeball_sha_start), ("timeball/sha.constants", laid_timeball_sha_constants)], narrowed := true }
def SenderSendsUptoSaid : Prop := senderSendsUptoRow.holds Tryd.pinned (OpenSpec.upto senderSendsSpec)

/-- 'timeballlaw12.SenderTags', WHERE WHAT IT READS IS OF BULK AT MOST 1048576: true; the input reads as it did. -/
def senderTagsUptoRow : OpenClaim := { program := "ytphocklnhoakcaadoor", sum := "75b8939a9c6d651c94ad0a7b80871b1238ed1b1040bb72da3c006db89cc9770b", func := "timeball/timeballlaw12.SenderTags", spec := "senderTags", inPlace := ["internal/abi.NoEscape", "internal/bytealg.MakeNoZero", "math/bits.Sub64"], unfollowed := true, recurses := true, named := ["timeball/sha.constants", "timeball/sha.start"], apart := false, laid := [("timeball/sha.start", laid_timeball_sha_start), ("timeball/sha.constants", laid_timeball_sha_constants)], narrowed := true }
def SenderTagsUptoSaid : Prop := senderTagsUptoRow.holds Tryd.pinned (OpenSpec.upto senderTagsSpec)

/-- 'timeballlaw12.SenderTells', WHERE WHAT IT READS IS OF BULK AT MOST 1048576: true; the input reads as it did. -/
def senderTellsUptoRow : OpenClaim := { program := "ytphocklnhoakcaadoor", sum := "75b8939a9c6d651c94ad0a7b80871b1238ed1b1040bb72da3c006db89cc9770b", func := "timeball/timeballlaw12.SenderTells", spec := "senderTells", inPlace := ["internal/abi.NoEscape", "internal/bytealg.MakeNoZero", "math/bits.Sub64"], unfollowed := true, recurses := true, named := ["timeball/sha.constants", "timeball/sha.start"], apart := false, laid := [("timeball/sha.start", laid_timeball_sha_start), ("timeball/sha.constants", laid_timeball_sha_constants)], narrowed := true }
def SenderTellsUptoSaid : Prop := senderTellsUptoRow.holds Tryd.pinned (OpenSpec.upto senderTellsSpec)

/-- 'timeballlaw12.SenderRises', WHERE WHAT IT READS IS OF BULK AT MOST 1048576: true; the input reads as it did. -/
def senderRisesUptoRow : OpenClaim := { program := "ytphocklnhoakcaadoor", sum := "75b8939a9c6d651c94ad0a7b80871b1238ed1b1040bb72da3c006db89cc9770b", func := "timeball/timeballlaw12.SenderRises", spec := "senderRises", inPlace := ["internal/abi.NoEscape", "internal/bytealg.MakeNoZero", "math/bits.Sub64"], unfollowed := true, recurses := true, named := ["timeball/sha.constants", "timeball/sha.start"], apart := false, laid := [("timeball/sha.start", laid_timeball_sha_start), ("timeball/sha.constants", laid_timeball_sha_constants)], narrowed := true }
def SenderRisesUptoSaid : Prop := senderRisesUptoRow.holds Tryd.pinned (OpenSpec.upto senderRisesSpec)

/-- 'timeballlaw12.SenderRenews', WHERE WHAT IT READS IS OF BULK AT MOST 1048576: true; the input reads as it did. -/
def senderRenewsUptoRow : OpenClaim := { program := "ytphocklnhoakcaadoor", sum := "75b8939a9c6d651c94ad0a7b80871b1238ed1b1040bb72da3c006db89cc9770b", func := "timeball/timeballlaw12.SenderRenews", spec := "senderRenews", inPlace := ["internal/abi.NoEscape", "internal/bytealg.MakeNoZero", "math/bits.Sub64"], unfollowed := true, recurses := true, named := ["timeball/sha.constants", "timeball/sha.start"], apart := false, laid := [("timeball/sha.start", laid_timeball_sha_start), ("timeball/sha.constants", laid_timeball_sha_constants)], narrowed := true }
def SenderRenewsUptoSaid : Prop := senderRenewsUptoRow.holds Tryd.pinned (OpenSpec.upto senderRenewsSpec)

/-- 'timeballlaw12.SenderSame', WHERE WHAT IT READS IS OF BULK AT MOST 1048576: true; the input reads as it did. -/
def senderSameUptoRow : OpenClaim := { program := "ytphocklnhoakcaadoor", sum := "75b8939a9c6d651c94ad0a7b80871b1238ed1b1040bb72da3c006db89cc9770b", func := "timeball/timeballlaw12.SenderSame", spec := "senderSame", inPlace := ["internal/abi.NoEscape", "internal/bytealg.MakeNoZero", "math/bits.Sub64"], unfollowed := true, recurses := true, named := ["timeball/sha.constants", "timeball/sha.start"], apart := false, laid := [("timeball/sha.start", laid_timeball_sha_start), ("timeball/sha.constants", laid_timeball_sha_constants)], narrowed := true }
def SenderSameUptoSaid : Prop := senderSameUptoRow.holds Tryd.pinned (OpenSpec.upto senderSameSpec)

end Rows
end Go.Proofs.YtphocklnhoakcaaDoor
