/-
  NARROWER THAN 'FOR EVERY INPUT', by the rows' own cells (each row's printed sentence says how): VolleyRounds: laid · VolleyBound: laid · VolleyOnce: laid · VolleySame: laid · VolleyBytes: laid · VolleyWide: laid · VolleyAgrees: laid.
  DERIVED. THE GIVEN ROWS OF THIS SEAT. 7 by the template 'for every input the law returns true; each argument reads behind the call as it read before'; 0 by the template 'total and deterministic' (their statements: YtpenicjlpiechaaDoorTotals.lean).
  GIVEN WITH THE SEED: the statements are not yours to turn. If you find one false, say at which input.
  Laid BY PROGRAM, IN A SANDBOX (cutbox-rows.mjs): the forced cells as the released guide's own fill.sh prints them over the translation 8bce2df2ac7c1fb1… (all of the seat's roots in one cut). By AI agents, Wed Nov 11 2026. No macro, syntax, notation, axiom, sorry.
-/
import Derived.Test.YtpenicjlpiechaaDoorChecked
import GoSem.Claim
import GoSem.ClaimJoined
import GoSem.ClaimMapViews
import Derived.JoinedTies
import Derived.KernelRfl
namespace Go.Proofs.YtpenicjlpiechaaDoor
/- THE CELL 'sum', in the pinned program and in every row, IS THE sha256 OF THE DUMP (.gsa) THAT YtpenicjlpiechaaDoorProg.lean LOADS. Nothing in Lean hashes anything: it is a label: what it is worth is what the hold of that sum in a sandbox is worth. -/
noncomputable def Tryd.pinned : Pinned := { name := "ytpenicjlpiechaadoor", sum := "8bce2df2ac7c1fb15681eb64d734bcc704afa0c22faf7fe6d24f1b61d517319c", checked := Tryd.checked }
namespace Rows
def none {H : Type} : Left H := { results := [], args := [] }

/- WHAT THE LISTED PACKAGE-LEVEL VARIABLES READ AS WHEN THE CALL BEGINS. Each datum BY PROGRAM (the guide's laid-datum.mjs) off the statement by which the dump's own 'gosem.cut.vars' lays the variable. In a bare row this is a premise. The card (YtpenicjlpiechaaDoorCards.lean) ties it to the program's text. -/
def laid_timeball_sha_start {H : Type} : DataW H := .agg [.lit (.int .u32 1779033703), .lit (.int .u32 3144134277), .lit (.int .u32 1013904242), .lit (.int .u32 2773480762), .lit (.int .u32 1359893119), .lit (.int .u32 2600822924), .lit (.int .u32 528734635), .lit (.int .u32 1541459225)]
def laid_timeball_sha_constants {H : Type} : DataW H := .agg [.lit (.int .u32 1116352408), .lit (.int .u32 1899447441), .lit (.int .u32 3049323471), .lit (.int .u32 3921009573), .lit (.int .u32 961987163), .lit (.int .u32 1508970993), .lit (.int .u32 2453635748), .lit (.int .u32 2870763221), .lit (.int .u32 3624381080), .lit (.int .u32 310598401), .lit (.int .u32 607225278), .lit (.int .u32 1426881987), .lit (.int .u32 1925078388), .lit (.int .u32 2162078206), .lit (.int .u32 2614888103), .lit (.int .u32 3248222580), .lit (.int .u32 3835390401), .lit (.int .u32 4022224774), .lit (.int .u32 264347078), .lit (.int .u32 604807628), .lit (.int .u32 770255983), .lit (.int .u32 1249150122), .lit (.int .u32 1555081692), .lit (.int .u32 1996064986), .lit (.int .u32 2554220882), .lit (.int .u32 2821834349), .lit (.int .u32 2952996808), .lit (.int .u32 3210313671), .lit (.int .u32 3336571891), .lit (.int .u32 3584528711), .lit (.int .u32 113926993), .lit (.int .u32 338241895), .lit (.int .u32 666307205), .lit (.int .u32 773529912), .lit (.int .u32 1294757372), .lit (.int .u32 1396182291), .lit (.int .u32 1695183700), .lit (.int .u32 1986661051), .lit (.int .u32 2177026350), .lit (.int .u32 2456956037), .lit (.int .u32 2730485921), .lit (.int .u32 2820302411), .lit (.int .u32 3259730800), .lit (.int .u32 3345764771), .lit (.int .u32 3516065817), .lit (.int .u32 3600352804), .lit (.int .u32 4094571909), .lit (.int .u32 275423344), .lit (.int .u32 430227734), .lit (.int .u32 506948616), .lit (.int .u32 659060556), .lit (.int .u32 883997877), .lit (.int .u32 958139571), .lit (.int .u32 1322822218), .lit (.int .u32 1537002063), .lit (.int .u32 1747873779), .lit (.int .u32 1955562222), .lit (.int .u32 2024104815), .lit (.int .u32 2227730452), .lit (.int .u32 2361852424), .lit (.int .u32 2428436474), .lit (.int .u32 2756734187), .lit (.int .u32 3204031479), .lit (.int .u32 3329325298)]

/-- 'timeballlaw14.VolleyRounds': WHATEVER THE INPUT: true; the input reads as it did. -/
def volleyRoundsSpec : ChangeSpec := { name := "volleyRounds", fn := fun _ => fun
  | [d1, d2, d3, d4, d5, d6, d7] => { results := [.lit (.bool true)], args := [d1, d2, d3, d4, d5, d6, d7] }
  | _ => none }
def volleyRoundsRow : OpenClaim := { program := "ytpenicjlpiechaadoor", sum := "8bce2df2ac7c1fb15681eb64d734bcc704afa0c22faf7fe6d24f1b61d517319c", func := "timeball/timeballlaw14.VolleyRounds", spec := "volleyRounds", inPlace := ["math/bits.Sub64", "math/bits.Add64", "internal/abi.NoEscape", "internal/bytealg.MakeNoZero"], unfollowed := true, recurses := true, named := ["timeball/sha.constants", "timeball/sha.start"], plainKeys := false, apart := false, laid := [("timeball/sha.start", laid_timeball_sha_start), ("timeball/sha.constants", laid_timeball_sha_constants)] }
def VolleyRoundsSaid : Prop := volleyRoundsRow.holds Tryd.pinned (OpenSpec.ofChange volleyRoundsSpec)

/-- ITS FALSE NEIGHBOUR: 'it returns false'. Refute it at one input. -/
def volleyRoundsWrong : ChangeSpec := { name := "volleyRounds", fn := fun _ => fun
  | [d1, d2, d3, d4, d5, d6, d7] => { results := [.lit (.bool false)], args := [d1, d2, d3, d4, d5, d6, d7] }
  | _ => none }
def VolleyRoundsWrongFalsely : Prop := volleyRoundsRow.holds Tryd.pinned (OpenSpec.ofChange volleyRoundsWrong)

/-- 'timeballlaw14.VolleyBound': WHATEVER THE INPUT: true; the input reads as it did. -/
def volleyBoundSpec : ChangeSpec := { name := "volleyBound", fn := fun _ => fun
  | [d1, d2, d3, d4, d5, d6, d7] => { results := [.lit (.bool true)], args := [d1, d2, d3, d4, d5, d6, d7] }
  | _ => none }
def volleyBoundRow : OpenClaim := { program := "ytpenicjlpiechaadoor", sum := "8bce2df2ac7c1fb15681eb64d734bcc704afa0c22faf7fe6d24f1b61d517319c", func := "timeball/timeballlaw14.VolleyBound", spec := "volleyBound", inPlace := ["math/bits.Sub64", "math/bits.Add64", "internal/abi.NoEscape", "internal/bytealg.MakeNoZero"], unfollowed := true, recurses := true, named := ["timeball/sha.constants", "timeball/sha.start"], plainKeys := false, apart := false, laid := [("timeball/sha.start", laid_timeball_sha_start), ("timeball/sha.constants", laid_timeball_sha_constants)] }
def VolleyBoundSaid : Prop := volleyBoundRow.holds Tryd.pinned (OpenSpec.ofChange volleyBoundSpec)

/-- ITS FALSE NEIGHBOUR: 'it returns false'. Refute it at one input. -/
def volleyBoundWrong : ChangeSpec := { name := "volleyBound", fn := fun _ => fun
  | [d1, d2, d3, d4, d5, d6, d7] => { results := [.lit (.bool false)], args := [d1, d2, d3, d4, d5, d6, d7] }
  | _ => none }
def VolleyBoundWrongFalsely : Prop := volleyBoundRow.holds Tryd.pinned (OpenSpec.ofChange volleyBoundWrong)

/-- 'timeballlaw14.VolleyOnce': WHATEVER THE INPUT: true; the input reads as it did. -/
def volleyOnceSpec : ChangeSpec := { name := "volleyOnce", fn := fun _ => fun
  | [d1, d2, d3, d4, d5, d6] => { results := [.lit (.bool true)], args := [d1, d2, d3, d4, d5, d6] }
  | _ => none }
def volleyOnceRow : OpenClaim := { program := "ytpenicjlpiechaadoor", sum := "8bce2df2ac7c1fb15681eb64d734bcc704afa0c22faf7fe6d24f1b61d517319c", func := "timeball/timeballlaw14.VolleyOnce", spec := "volleyOnce", inPlace := ["math/bits.Sub64", "math/bits.Add64", "internal/abi.NoEscape", "internal/bytealg.MakeNoZero"], unfollowed := true, recurses := true, named := ["timeball/sha.constants", "timeball/sha.start"], plainKeys := false, apart := false, laid := [("timeball/sha.start", laid_timeball_sha_start), ("timeball/sha.constants", laid_timeball_sha_constants)] }
def VolleyOnceSaid : Prop := volleyOnceRow.holds Tryd.pinned (OpenSpec.ofChange volleyOnceSpec)

/-- ITS FALSE NEIGHBOUR: 'it returns false'. Refute it at one input. -/
def volleyOnceWrong : ChangeSpec := { name := "volleyOnce", fn := fun _ => fun
  | [d1, d2, d3, d4, d5, d6] => { results := [.lit (.bool false)], args := [d1, d2, d3, d4, d5, d6] }
  | _ => none }
def VolleyOnceWrongFalsely : Prop := volleyOnceRow.holds Tryd.pinned (OpenSpec.ofChange volleyOnceWrong)

/-- 'timeballlaw14.VolleySame': WHATEVER THE INPUT: true; the input reads as it did. -/
def volleySameSpec : ChangeSpec := { name := "volleySame", fn := fun _ => fun
  | [d1, d2, d3, d4, d5, d6] => { results := [.lit (.bool true)], args := [d1, d2, d3, d4, d5, d6] }
  | _ => none }
def volleySameRow : OpenClaim := { program := "ytpenicjlpiechaadoor", sum := "8bce2df2ac7c1fb15681eb64d734bcc704afa0c22faf7fe6d24f1b61d517319c", func := "timeball/timeballlaw14.VolleySame", spec := "volleySame", inPlace := ["math/bits.Sub64", "math/bits.Add64", "internal/abi.NoEscape", "internal/bytealg.MakeNoZero"], unfollowed := true, recurses := true, named := ["timeball/sha.constants", "timeball/sha.start"], plainKeys := false, apart := false, laid := [("timeball/sha.start", laid_timeball_sha_start), ("timeball/sha.constants", laid_timeball_sha_constants)] }
def VolleySameSaid : Prop := volleySameRow.holds Tryd.pinned (OpenSpec.ofChange volleySameSpec)

/-- ITS FALSE NEIGHBOUR: 'it returns false'. Refute it at one input. -/
def volleySameWrong : ChangeSpec := { name := "volleySame", fn := fun _ => fun
  | [d1, d2, d3, d4, d5, d6] => { results := [.lit (.bool false)], args := [d1, d2, d3, d4, d5, d6] }
  | _ => none }
def VolleySameWrongFalsely : Prop := volleySameRow.holds Tryd.pinned (OpenSpec.ofChange volleySameWrong)

/-- 'timeballlaw14.VolleyBytes': WHATEVER THE INPUT: true; the input reads as it did. -/
def volleyBytesSpec : ChangeSpec := { name := "volleyBytes", fn := fun _ => fun
  | [d1, d2, d3, d4] => { results := [.lit (.bool true)], args := [d1, d2, d3, d4] }
  | _ => none }
def volleyBytesRow : OpenClaim := { program := "ytpenicjlpiechaadoor", sum := "8bce2df2ac7c1fb15681eb64d734bcc704afa0c22faf7fe6d24f1b61d517319c", func := "timeball/timeballlaw14.VolleyBytes", spec := "volleyBytes", inPlace := ["math/bits.Sub64", "math/bits.Add64", "internal/abi.NoEscape", "internal/bytealg.MakeNoZero"], unfollowed := true, recurses := true, named := ["timeball/sha.constants", "timeball/sha.start"], plainKeys := false, apart := false, laid := [("timeball/sha.start", laid_timeball_sha_start), ("timeball/sha.constants", laid_timeball_sha_constants)] }
def VolleyBytesSaid : Prop := volleyBytesRow.holds Tryd.pinned (OpenSpec.ofChange volleyBytesSpec)

/-- ITS FALSE NEIGHBOUR: 'it returns false'. Refute it at one input. -/
def volleyBytesWrong : ChangeSpec := { name := "volleyBytes", fn := fun _ => fun
  | [d1, d2, d3, d4] => { results := [.lit (.bool false)], args := [d1, d2, d3, d4] }
  | _ => none }
def VolleyBytesWrongFalsely : Prop := volleyBytesRow.holds Tryd.pinned (OpenSpec.ofChange volleyBytesWrong)

/-- 'timeballlaw14.VolleyWide': WHATEVER THE INPUT: true; the input reads as it did. -/
def volleyWideSpec : ChangeSpec := { name := "volleyWide", fn := fun _ => fun
  | [d1, d2, d3, d4] => { results := [.lit (.bool true)], args := [d1, d2, d3, d4] }
  | _ => none }
def volleyWideRow : OpenClaim := { program := "ytpenicjlpiechaadoor", sum := "8bce2df2ac7c1fb15681eb64d734bcc704afa0c22faf7fe6d24f1b61d517319c", func := "timeball/timeballlaw14.VolleyWide", spec := "volleyWide", inPlace := ["math/bits.Sub64", "math/bits.Add64", "internal/abi.NoEscape", "internal/bytealg.MakeNoZero"], unfollowed := true, recurses := true, named := ["timeball/sha.constants", "timeball/sha.start"], plainKeys := false, apart := false, laid := [("timeball/sha.start", laid_timeball_sha_start), ("timeball/sha.constants", laid_timeball_sha_constants)] }
def VolleyWideSaid : Prop := volleyWideRow.holds Tryd.pinned (OpenSpec.ofChange volleyWideSpec)

/-- ITS FALSE NEIGHBOUR: 'it returns false'. Refute it at one input. -/
def volleyWideWrong : ChangeSpec := { name := "volleyWide", fn := fun _ => fun
  | [d1, d2, d3, d4] => { results := [.lit (.bool false)], args := [d1, d2, d3, d4] }
  | _ => none }
def VolleyWideWrongFalsely : Prop := volleyWideRow.holds Tryd.pinned (OpenSpec.ofChange volleyWideWrong)

/-- 'timeballlaw14.VolleyAgrees': WHATEVER THE INPUT: true; the input reads as it did. -/
def volleyAgreesSpec : ChangeSpec := { name := "volleyAgrees", fn := fun _ => fun
  | [d1, d2, d3] => { results := [.lit (.bool true)], args := [d1, d2, d3] }
  | _ => none }
def volleyAgreesRow : OpenClaim := { program := "ytpenicjlpiechaadoor", sum := "8bce2df2ac7c1fb15681eb64d734bcc704afa0c22faf7fe6d24f1b61d517319c", func := "timeball/timeballlaw14.VolleyAgrees", spec := "volleyAgrees", inPlace := ["math/bits.Sub64", "math/bits.Add64", "internal/abi.NoEscape", "internal/bytealg.MakeNoZero"], unfollowed := true, recurses := true, named := ["timeball/sha.constants", "timeball/sha.start"], plainKeys := false, apart := false, laid := [("timeball/sha.start", laid_timeball_sha_start), ("timeball/sha.constants", laid_timeball_sha_constants)] }
def VolleyAgreesSaid : Prop := volleyAgreesRow.holds Tryd.pinned (OpenSpec.ofChange volleyAgreesSpec)

/-- ITS FALSE NEIGHBOUR: 'it returns false'. Refute it at one input. -/
def volleyAgreesWrong : ChangeSpec := { name := "volleyAgrees", fn := fun _ => fun
  | [d1, d2, d3] => { results := [.lit (.bool false)], args := [d1, d2, d3] }
  | _ => none }
def VolleyAgreesWrongFalsely : Prop := volleyAgreesRow.holds Tryd.pinned (OpenSpec.ofChange volleyAgreesWrong)

/- THE SECOND FORM. 'bulk': how many values and letters a reading holds, each counted each time it is reached (what is shared counts as often as it is met; a slice's spare places count too). A statement '..UptoSaid' is the law's where the arguments, and the package variables that the reading takes, are together of bulk at most 1048576: NARROWER than '..Said'. Prove '..Said' where nothing that the law and all that it calls make is longer than what came in: it says more and counts as full. Else prove '..UptoSaid'. A law counts once. -/
mutual
def uptoBulk {H : Type} : DataW H → Nat
  | .lit (.string bytes) => bytes.length + 1
  | .lit _ => 1
  | .nil => 1
  | .ptr d => uptoBulk d + 1
  | .slice elems spare => uptoBulkAll elems + uptoBulkAll spare + 1
  | .agg parts => uptoBulkAll parts + 1
  | .iface _ d => uptoBulk d + 1
  | .map entries => uptoBulkEntries entries + 1
  | .held _ => 1
def uptoBulkAll {H : Type} : List (DataW H) → Nat
  | [] => 0
  | d :: r => uptoBulk d + uptoBulkAll r
def uptoBulkEntries {H : Type} : List (Lit × DataW H) → Nat
  | [] => 0
  | x :: r => uptoBulkEntry x + uptoBulkEntries r
def uptoBulkEntry {H : Type} : Lit × DataW H → Nat
  | (.string bytes, d) => bytes.length + uptoBulk d + 1
  | (_, d) => uptoBulk d + 1
 end
def uptoSmall : (H : Type) → List (DataW H) → Bool := fun _ ds => decide (uptoBulkAll ds ≤ 1048576)
def OpenSpec.upto (s : _root_.Go.ChangeSpec) : _root_.Go.OpenSpec := { _root_.Go.OpenSpec.ofChange s with cond := some uptoSmall }

/-- 'timeballlaw14.VolleyRounds', WHERE WHAT IT READS IS OF BULK AT MOST 1048576: true; the input reads as it did. -/
def volleyRoundsUptoRow : OpenClaim := { program := "ytpenicjlpiechaadoor", sum := "8bce2df2ac7c1fb15681eb64d734bcc704afa0c22faf7fe6d24f1b61d517319c", func := "timeball/timeballlaw14.VolleyRounds", spec := "volleyRounds", inPlace := ["math/bits.Sub64", "math/bits.Add64", "internal/abi.NoEscape", "internal/bytealg.MakeNoZero"], unfollowed := true, recurses := true, named := ["timeball/sha.constants", "timeball/sha.start"], plainKeys := false, apart := false, laid := [("timeball/sha.start", laid_timeball_sha_start), ("timeball/sha.constants", laid_timeball_sha_constants)], narrowed := true }
def VolleyRoundsUptoSaid : Prop := volleyRoundsUptoRow.holds Tryd.pinned (OpenSpec.upto volleyRoundsSpec)

/-- 'timeballlaw14.VolleyBound', WHERE WHAT IT READS IS OF BULK AT MOST 1048576: true; the input reads as it did. -/
def volleyBoundUptoRow : OpenClaim := { program := "ytpenicjlpiechaadoor", sum := "8bce2df2ac7c1fb15681eb64d734bcc704afa0c22faf7fe6d24f1b61d517319c", func := "timeball/timeballlaw14.VolleyBound", spec := "volleyBound", inPlace := ["math/bits.Sub64", "math/bits.Add64", "internal/abi.NoEscape", "internal/bytealg.MakeNoZero"], unfollowed := true, recurses := true, named := ["timeball/sha.constants", "timeball/sha.start"], plainKeys := false, apart := false, laid := [("timeball/sha.start", laid_timeball_sha_start), ("timeball/sha.constants", laid_timeball_sha_constants)], narrowed := true }
def VolleyBoundUptoSaid : Prop := volleyBoundUptoRow.holds Tryd.pinned (OpenSpec.upto volleyBoundSpec)

/-- 'timeballlaw14.VolleyOnce', WHERE WHAT IT READS IS OF BULK AT MOST 1048576: true; the input reads as it did. -/
def volleyOnceUptoRow : OpenClaim := { program := "ytpenicjlpiechaadoor", sum := "8bce2df2ac7c1fb15681eb64d734bcc704afa0c22faf7fe6d24f1b61d517319c", func := "timeball/timeballlaw14.VolleyOnce", spec := "volleyOnce", inPlace := ["math/bits.Sub64", "math/bits.Add64", "internal/abi.NoEscape", "internal/bytealg.MakeNoZero"], unfollowed := true, recurses := true, named := ["timeball/sha.constants", "timeball/sha.start"], plainKeys := false, apart := false, laid := [("timeball/sha.start", laid_timeball_sha_start), ("timeball/sha.constants", laid_timeball_sha_constants)], narrowed := true }
def VolleyOnceUptoSaid : Prop := volleyOnceUptoRow.holds Tryd.pinned (OpenSpec.upto volleyOnceSpec)

/-- 'timeballlaw14.VolleySame', WHERE WHAT IT READS IS OF BULK AT MOST 1048576: true; the input reads as it did. -/
def volleySameUptoRow : OpenClaim := { program := "ytpenicjlpiechaadoor", sum := "8bce2df2ac7c1fb15681eb64d734bcc704afa0c22faf7fe6d24f1b61d517319c", func := "timeball/timeballlaw14.VolleySame", spec := "volleySame", inPlace := ["math/bits.Sub64", "math/bits.Add64", "internal/abi.NoEscape", "internal/bytealg.MakeNoZero"], unfollowed := true, recurses := true, named := ["timeball/sha.constants", "timeball/sha.start"], plainKeys := false, apart := false, laid := [("timeball/sha.start", laid_timeball_sha_start), ("timeball/sha.constants", laid_timeball_sha_constants)], narrowed := true }
def VolleySameUptoSaid : Prop := volleySameUptoRow.holds Tryd.pinned (OpenSpec.upto volleySameSpec)

/-- 'timeballlaw14.VolleyBytes', WHERE WHAT IT READS IS OF BULK AT MOST 1048576: true; the input reads as it did. -/
def volleyBytesUptoRow : OpenClaim := { program := "ytpenicjlpiechaadoor", sum := "8bce2df2ac7c1fb15681eb64d734bcc704afa0c22faf7fe6d24f1b61d517319c", func := "timeball/timeballlaw14.VolleyBytes", spec := "volleyBytes", inPlace := ["math/bits.Sub64", "math/bits.Add64", "internal/abi.NoEscape", "internal/bytealg.MakeNoZero"], unfollowed := true, recurses := true, named := ["timeball/sha.constants", "timeball/sha.start"], plainKeys := false, apart := false, laid := [("timeball/sha.start", laid_timeball_sha_start), ("timeball/sha.constants", laid_timeball_sha_constants)], narrowed := true }
def VolleyBytesUptoSaid : Prop := volleyBytesUptoRow.holds Tryd.pinned (OpenSpec.upto volleyBytesSpec)

/-- 'timeballlaw14.VolleyWide', WHERE WHAT IT READS IS OF BULK AT MOST 1048576: true; the input reads as it did. -/
def volleyWideUptoRow : OpenClaim := { program := "ytpenicjlpiechaadoor", sum := "8bce2df2ac7c1fb15681eb64d734bcc704afa0c22faf7fe6d24f1b61d517319c", func := "timeball/timeballlaw14.VolleyWide", spec := "volleyWide", inPlace := ["math/bits.Sub64", "math/bits.Add64", "internal/abi.NoEscape", "internal/bytealg.MakeNoZero"], unfollowed := true, recurses := true, named := ["timeball/sha.constants", "timeball/sha.start"], plainKeys := false, apart := false, laid := [("timeball/sha.start", laid_timeball_sha_start), ("timeball/sha.constants", laid_timeball_sha_constants)], narrowed := true }
def VolleyWideUptoSaid : Prop := volleyWideUptoRow.holds Tryd.pinned (OpenSpec.upto volleyWideSpec)

/-- 'timeballlaw14.VolleyAgrees', WHERE WHAT IT READS IS OF BULK AT MOST 1048576: true; the input reads as it did. -/
def volleyAgreesUptoRow : OpenClaim := { program := "ytpenicjlpiechaadoor", sum := "8bce2df2ac7c1fb15681eb64d734bcc704afa0c22faf7fe6d24f1b61d517319c", func := "timeball/timeballlaw14.VolleyAgrees", spec := "volleyAgrees", inPlace := ["math/bits.Sub64", "math/bits.Add64", "internal/abi.NoEscape", "internal/bytealg.MakeNoZero"], unfollowed := true, recurses := true, named := ["timeball/sha.constants", "timeball/sha.start"], plainKeys := false, apart := false, laid := [("timeball/sha.start", laid_timeball_sha_start), ("timeball/sha.constants", laid_timeball_sha_constants)], narrowed := true }
def VolleyAgreesUptoSaid : Prop := volleyAgreesUptoRow.holds Tryd.pinned (OpenSpec.upto volleyAgreesSpec)

end Rows
end Go.Proofs.YtpenicjlpiechaaDoor
