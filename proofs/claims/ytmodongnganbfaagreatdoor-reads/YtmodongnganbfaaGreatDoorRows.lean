/-
  NARROWER THAN 'FOR EVERY INPUT', by the rows' own cells (each row's printed sentence says how): Reads: laid · Pieces: laid.
  DERIVED. THE GIVEN ROWS OF THIS SEAT. 2 by the template 'for every input the law returns true; each argument reads behind the call as it read before'; 0 by the template 'total and deterministic' (their statements: YtmodongnganbfaaGreatDoorTotals.lean).
  GIVEN WITH THE SEED: the statements are not yours to turn. If you find one false, say at which input.
  Laid BY PROGRAM, IN A SANDBOX (cutbox-rows.mjs): the forced cells as the released guide's own fill.sh prints them over the translation 0bf1f9ac94002a85… (all of the seat's roots in one cut). By AI agents, Wed Nov 11 2026. No macro, syntax, notation, axiom, sorry.
-/
import Derived.Test.YtmodongnganbfaaGreatDoorChecked
import GoSem.PinnedTables
import GoSem.Claim
import GoSem.ClaimJoined
import GoSem.ClaimMapViews
import Derived.JoinedTies
import Derived.KernelRfl
namespace Go.Proofs.YtmodongnganbfaaGreatDoor
/- THE CELL 'sum', in the pinned program and in every row, IS THE sha256 OF THE DUMP (.gsa) THAT YtmodongnganbfaaGreatDoorProg.lean LOADS. Nothing in Lean hashes anything: it is a label: what it is worth is what the hold of that sum in a sandbox is worth. -/
noncomputable def Tryz.pinned : Pinned := { name := "ytmodongnganbfaagreatdoor", sum := "0bf1f9ac94002a85948b945a880a361a61ca1d33a2dee69347983dd34ffb8f0b", checked := Tryz.checked }
namespace Rows
def none {H : Type} : Left H := { results := [], args := [] }

/- WHAT THE LISTED PACKAGE-LEVEL VARIABLES READ AS WHEN THE CALL BEGINS. Each datum BY PROGRAM (the guide's laid-datum.mjs) off the statement by which the dump's own 'gosem.cut.vars' lays the variable. In a bare row this is a premise. The card (YtmodongnganbfaaGreatDoorCards.lean) ties it to the program's text. -/
def laid_unicode_utf8_acceptRanges {H : Type} : DataW H := .agg [.agg [.lit (.int .u8 128), .lit (.int .u8 191)], .agg [.lit (.int .u8 160), .lit (.int .u8 191)], .agg [.lit (.int .u8 128), .lit (.int .u8 159)], .agg [.lit (.int .u8 144), .lit (.int .u8 191)], .agg [.lit (.int .u8 128), .lit (.int .u8 143)], .agg [.lit (.int .u8 0), .lit (.int .u8 0)], .agg [.lit (.int .u8 0), .lit (.int .u8 0)], .agg [.lit (.int .u8 0), .lit (.int .u8 0)], .agg [.lit (.int .u8 0), .lit (.int .u8 0)], .agg [.lit (.int .u8 0), .lit (.int .u8 0)], .agg [.lit (.int .u8 0), .lit (.int .u8 0)], .agg [.lit (.int .u8 0), .lit (.int .u8 0)], .agg [.lit (.int .u8 0), .lit (.int .u8 0)], .agg [.lit (.int .u8 0), .lit (.int .u8 0)], .agg [.lit (.int .u8 0), .lit (.int .u8 0)], .agg [.lit (.int .u8 0), .lit (.int .u8 0)]]
def laid_errors_errorType {H : Type} : DataW H := .iface "internal/reflectlite.rtype" (.agg [.ptr (.lit (.string [101, 114, 114, 111, 114]))])
def laid_satchel_reply_errTwice {H : Type} : DataW H := .iface "*errors.errorString" (.ptr (.agg [.lit (.string [97, 32, 102, 105, 101, 108, 100, 32, 116, 104, 97, 116, 32, 105, 115, 32, 116, 104, 101, 114, 101, 32, 116, 119, 105, 99, 101])]))
def laid_satchel_reply_errNumber {H : Type} : DataW H := .iface "*errors.errorString" (.ptr (.agg [.lit (.string [110, 111, 116, 32, 49, 32, 116, 111, 32, 57, 32, 100, 105, 103, 105, 116, 115])]))
def laid_satchel_reply_errCoding {H : Type} : DataW H := .iface "*errors.errorString" (.ptr (.agg [.lit (.string [110, 111, 116, 32, 99, 104, 117, 110, 107, 101, 100])]))
def laid_satchel_reply_errSpan {H : Type} : DataW H := .iface "*errors.errorString" (.ptr (.agg [.lit (.string [110, 111, 32, 114, 97, 110, 103, 101, 32, 111, 102, 32, 98, 121, 116, 101, 115])]))
def laid_satchel_reply_errBoth {H : Type} : DataW H := .iface "*errors.errorString" (.ptr (.agg [.lit (.string [97, 32, 108, 101, 110, 103, 116, 104, 44, 32, 97, 110, 100, 32, 99, 104, 117, 110, 107, 115])]))
def laid_satchel_reply_errNoRange {H : Type} : DataW H := .iface "*errors.errorString" (.ptr (.agg [.lit (.string [97, 32, 112, 97, 114, 116, 32, 111, 102, 32, 110, 111, 116, 104, 105, 110, 103])]))
def laid_satchel_reply_errByte {H : Type} : DataW H := .iface "*errors.errorString" (.ptr (.agg [.lit (.string [97, 32, 98, 121, 116, 101, 32, 116, 104, 97, 116, 32, 99, 97, 110, 110, 111, 116, 32, 115, 116, 97, 110, 100, 32, 116, 104, 101, 114, 101])]))
def laid_satchel_reply_errLong {H : Type} : DataW H := .iface "*errors.errorString" (.ptr (.agg [.lit (.string [109, 111, 114, 101, 32, 98, 121, 116, 101, 115, 32, 111, 102, 32, 108, 105, 110, 101, 115, 32, 116, 104, 97, 110, 32, 116, 104, 101, 114, 101, 32, 109, 97, 121, 32, 98, 101])]))
def laid_satchel_reply_errHead {H : Type} : DataW H := .iface "*errors.errorString" (.ptr (.agg [.lit (.string [97, 32, 119, 114, 111, 110, 103, 32, 104, 101, 97, 100])]))
def laid_satchel_reply_errLimit {H : Type} : DataW H := .iface "*errors.errorString" (.ptr (.agg [.lit (.string [109, 111, 114, 101, 32, 98, 121, 116, 101, 115, 32, 111, 102, 32, 98, 111, 100, 121, 32, 116, 104, 97, 110, 32, 109, 97, 121, 32, 99, 111, 109, 101])]))
def laid_satchel_reply_errPart {H : Type} : DataW H := .iface "*errors.errorString" (.ptr (.agg [.lit (.string [110, 111, 116, 32, 115, 111, 32, 109, 97, 110, 121, 32, 98, 121, 116, 101, 115, 32, 111, 102, 32, 98, 111, 100, 121, 32, 97, 115, 32, 116, 104, 101, 32, 104, 101, 97, 100, 32, 115, 97, 121, 115])]))
def laid_satchel_reply_errAgain {H : Type} : DataW H := .iface "*errors.errorString" (.ptr (.agg [.lit (.string [97, 32, 114, 101, 112, 108, 121, 32, 116, 104, 97, 116, 32, 119, 97, 115, 32, 99, 117, 116, 32, 111, 102, 102])]))
def laid_satchel_reply_errBroken {H : Type} : DataW H := .iface "*errors.errorString" (.ptr (.agg [.lit (.string [110, 111, 32, 114, 101, 112, 108, 121])]))
def laid_satchel_reply_errRefused {H : Type} : DataW H := .iface "*errors.errorString" (.ptr (.agg [.lit (.string [116, 104, 101, 32, 100, 105, 97, 108, 32, 119, 97, 115, 32, 114, 101, 102, 117, 115, 101, 100])]))
def laid_satchel_reply_errLate {H : Type} : DataW H := .iface "*errors.errorString" (.ptr (.agg [.lit (.string [116, 104, 101, 32, 100, 101, 97, 100, 108, 105, 110, 101, 32, 105, 115, 32, 111, 118, 101, 114])]))
def laid_satchel_reply_errReset {H : Type} : DataW H := .iface "*errors.errorString" (.ptr (.agg [.lit (.string [116, 104, 101, 32, 99, 111, 110, 110, 101, 99, 116, 105, 111, 110, 32, 98, 114, 111, 107, 101])]))
def laid_satchel_reply_errClosed {H : Type} : DataW H := .iface "*errors.errorString" (.ptr (.agg [.lit (.string [116, 104, 101, 32, 111, 116, 104, 101, 114, 32, 115, 105, 100, 101, 32, 101, 110, 100, 101, 100, 32, 116, 104, 101, 32, 99, 111, 110, 110, 101, 99, 116, 105, 111, 110])]))
/-- One of Go's own tables, pinned by name: the form's constant. -/
def laid_unicode_CaseRanges : DataW Unit := Go.Pinned.caseRanges
/-- One of Go's own tables, pinned by name: the form's constant. -/
def laid_unicode_utf8_first : DataW Unit := Go.Pinned.utf8First

/-- 'satchellaw.Reads': WHATEVER THE INPUT: true; the input reads as it did. -/
def readsSpec : ChangeSpec := { name := "reads", fn := fun _ => fun
  | [d1, d2, d3] => { results := [.lit (.bool true)], args := [d1, d2, d3] }
  | _ => none }
def readsRow : OpenClaim := { program := "ytmodongnganbfaagreatdoor", sum := "0bf1f9ac94002a85948b945a880a361a61ca1d33a2dee69347983dd34ffb8f0b", func := "satchel/satchellaw.Reads", spec := "reads", inPlace := ["internal/bytealg.IndexByteString", "internal/bytealg.IndexString", "internal/abi.NoEscape", "internal/bytealg.MakeNoZero", "internal/reflectlite.TypeOf", "internal/reflectlite.ValueOf", "(internal/reflectlite.Value).Type", "(internal/reflectlite.Value).IsNil", "(internal/reflectlite.Value).Elem", "(internal/reflectlite.Value).Set"], unfollowed := true, recurses := true, named := ["satchel/reply.errPart", "satchel/reply.errHead", "satchel/reply.errByte", "satchel/reply.errLong", "satchel/reply.errAgain", "satchel/reply.errRefused", "satchel/reply.errReset", "satchel/reply.errClosed", "satchel/reply.errLate", "satchel/reply.errBroken", "unicode/utf8.first", "unicode/utf8.acceptRanges", "satchel/reply.errTwice", "unicode.CaseRanges", "satchel/reply.errNumber", "satchel/reply.errCoding", "satchel/reply.errSpan", "internal/bytealg.MaxLen", "satchel/reply.errBoth", "satchel/reply.errNoRange", "satchel/reply.errLimit", "errors.errorType"], apart := false, laid := [("unicode/utf8.acceptRanges", laid_unicode_utf8_acceptRanges), ("errors.errorType", laid_errors_errorType), ("satchel/reply.errTwice", laid_satchel_reply_errTwice), ("satchel/reply.errNumber", laid_satchel_reply_errNumber), ("satchel/reply.errCoding", laid_satchel_reply_errCoding), ("satchel/reply.errSpan", laid_satchel_reply_errSpan), ("satchel/reply.errBoth", laid_satchel_reply_errBoth), ("satchel/reply.errNoRange", laid_satchel_reply_errNoRange), ("satchel/reply.errByte", laid_satchel_reply_errByte), ("satchel/reply.errLong", laid_satchel_reply_errLong), ("satchel/reply.errHead", laid_satchel_reply_errHead), ("satchel/reply.errLimit", laid_satchel_reply_errLimit), ("satchel/reply.errPart", laid_satchel_reply_errPart), ("satchel/reply.errAgain", laid_satchel_reply_errAgain), ("satchel/reply.errBroken", laid_satchel_reply_errBroken), ("satchel/reply.errRefused", laid_satchel_reply_errRefused), ("satchel/reply.errLate", laid_satchel_reply_errLate), ("satchel/reply.errReset", laid_satchel_reply_errReset), ("satchel/reply.errClosed", laid_satchel_reply_errClosed), ("unicode.CaseRanges", laid_unicode_CaseRanges), ("unicode/utf8.first", laid_unicode_utf8_first)] }
def ReadsSaid : Prop := readsRow.holds Tryz.pinned (OpenSpec.ofChange readsSpec)

/-- ITS FALSE NEIGHBOUR: 'it returns false'. Refute it at one input. -/
def readsWrong : ChangeSpec := { name := "reads", fn := fun _ => fun
  | [d1, d2, d3] => { results := [.lit (.bool false)], args := [d1, d2, d3] }
  | _ => none }
def ReadsWrongFalsely : Prop := readsRow.holds Tryz.pinned (OpenSpec.ofChange readsWrong)

/-- 'satchelkeep.Pieces': WHATEVER THE INPUT: true; the input reads as it did. -/
def piecesSpec : ChangeSpec := { name := "pieces", fn := fun _ => fun
  | [d1, d2, d3, d4, d5] => { results := [.lit (.bool true)], args := [d1, d2, d3, d4, d5] }
  | _ => none }
def piecesRow : OpenClaim := { program := "ytmodongnganbfaagreatdoor", sum := "0bf1f9ac94002a85948b945a880a361a61ca1d33a2dee69347983dd34ffb8f0b", func := "satchel/satchelkeep.Pieces", spec := "pieces", inPlace := ["internal/bytealg.IndexByteString", "internal/bytealg.IndexString", "internal/abi.NoEscape", "internal/bytealg.MakeNoZero", "internal/reflectlite.TypeOf", "internal/reflectlite.ValueOf", "(internal/reflectlite.Value).Type", "(internal/reflectlite.Value).IsNil", "(internal/reflectlite.Value).Elem", "(internal/reflectlite.Value).Set"], unfollowed := true, recurses := true, named := ["satchel/reply.errPart", "satchel/reply.errHead", "satchel/reply.errByte", "satchel/reply.errLong", "satchel/reply.errAgain", "satchel/reply.errRefused", "satchel/reply.errReset", "satchel/reply.errClosed", "satchel/reply.errLate", "satchel/reply.errBroken", "unicode/utf8.first", "unicode/utf8.acceptRanges", "satchel/reply.errTwice", "unicode.CaseRanges", "satchel/reply.errNumber", "satchel/reply.errCoding", "satchel/reply.errSpan", "internal/bytealg.MaxLen", "satchel/reply.errBoth", "satchel/reply.errNoRange", "satchel/reply.errLimit", "errors.errorType"], apart := false, laid := [("unicode/utf8.acceptRanges", laid_unicode_utf8_acceptRanges), ("errors.errorType", laid_errors_errorType), ("satchel/reply.errTwice", laid_satchel_reply_errTwice), ("satchel/reply.errNumber", laid_satchel_reply_errNumber), ("satchel/reply.errCoding", laid_satchel_reply_errCoding), ("satchel/reply.errSpan", laid_satchel_reply_errSpan), ("satchel/reply.errBoth", laid_satchel_reply_errBoth), ("satchel/reply.errNoRange", laid_satchel_reply_errNoRange), ("satchel/reply.errByte", laid_satchel_reply_errByte), ("satchel/reply.errLong", laid_satchel_reply_errLong), ("satchel/reply.errHead", laid_satchel_reply_errHead), ("satchel/reply.errLimit", laid_satchel_reply_errLimit), ("satchel/reply.errPart", laid_satchel_reply_errPart), ("satchel/reply.errAgain", laid_satchel_reply_errAgain), ("satchel/reply.errBroken", laid_satchel_reply_errBroken), ("satchel/reply.errRefused", laid_satchel_reply_errRefused), ("satchel/reply.errLate", laid_satchel_reply_errLate), ("satchel/reply.errReset", laid_satchel_reply_errReset), ("satchel/reply.errClosed", laid_satchel_reply_errClosed), ("unicode.CaseRanges", laid_unicode_CaseRanges), ("unicode/utf8.first", laid_unicode_utf8_first)] }
def PiecesSaid : Prop := piecesRow.holds Tryz.pinned (OpenSpec.ofChange piecesSpec)

/-- ITS FALSE NEIGHBOUR: 'it returns false'. Refute it at one input. -/
def piecesWrong : ChangeSpec := { name := "pieces", fn := fun _ => fun
  | [d1, d2, d3, d4, d5] => { results := [.lit (.bool false)], args := [d1, d2, d3, d4, d5] }
  | _ => none }
def PiecesWrongFalsely : Prop := piecesRow.holds Tryz.pinned (OpenSpec.ofChange piecesWrong)

/- THE SECOND FORM. 'bulk': how many values and letters a reading holds, each counted each time it is reached (what is shared counts as often as it is met; a slice's spare places count too). A statement '..UptoSaid' is the law's where the arguments, and the package variables that the reading takes, are together of bulk at most 1048576: NARROWER than '..Said'. Prove '..Said' where nothing that the law and all that it calls make is longer than what came in: it says more and counts as full. Else prove '..UptoSaid'. A law counts once. -/
mutual
def uptoBulk {H : Type} : DataW H → Nat
  | .lit (.string bytes) => bytes.length + 1
  | .lit _ => 1
  | .nil => 1
  | .ptr d => uptoBulk d + 1
  | .slice elems spare => uptoBulkAll elems + uptoBulkAll spare + 1
  | .agg parts => uptoBulkAll parts + 1
  | .iface _ d => uptoBulk d + 1
  | .map entries => uptoBulkEntries entries + 1
  | .held _ => 1
def uptoBulkAll {H : Type} : List (DataW H) → Nat
  | [] => 0
  | d :: r => uptoBulk d + uptoBulkAll r
def uptoBulkEntries {H : Type} : List (Lit × DataW H) → Nat
  | [] => 0
  | x :: r => uptoBulkEntry x + uptoBulkEntries r
def uptoBulkEntry {H : Type} : Lit × DataW H → Nat
  | (.string bytes, d) => bytes.length + uptoBulk d + 1
  | (_, d) => uptoBulk d + 1
 end
def uptoSmall : (H : Type) → List (DataW H) → Bool := fun _ ds => decide (uptoBulkAll ds ≤ 1048576)
def OpenSpec.upto (s : _root_.Go.ChangeSpec) : _root_.Go.OpenSpec := { _root_.Go.OpenSpec.ofChange s with cond := some uptoSmall }

/-- 'satchellaw.Reads', WHERE WHAT IT READS IS OF BULK AT MOST 1048576: true; the input reads as it did. -/
def readsUptoRow : OpenClaim := { program := "ytmodongnganbfaagreatdoor", sum := "0bf1f9ac94002a85948b945a880a361a61ca1d33a2dee69347983dd34ffb8f0b", func := "satchel/satchellaw.Reads", spec := "reads", inPlace := ["internal/bytealg.IndexByteString", "internal/bytealg.IndexString", "internal/abi.NoEscape", "internal/bytealg.MakeNoZero", "internal/reflectlite.TypeOf", "internal/reflectlite.ValueOf", "(internal/reflectlite.Value).Type", "(internal/reflectlite.Value).IsNil", "(internal/reflectlite.Value).Elem", "(internal/reflectlite.Value).Set"], unfollowed := true, recurses := true, named := ["satchel/reply.errPart", "satchel/reply.errHead", "satchel/reply.errByte", "satchel/reply.errLong", "satchel/reply.errAgain", "satchel/reply.errRefused", "satchel/reply.errReset", "satchel/reply.errClosed", "satchel/reply.errLate", "satchel/reply.errBroken", "unicode/utf8.first", "unicode/utf8.acceptRanges", "satchel/reply.errTwice", "unicode.CaseRanges", "satchel/reply.errNumber", "satchel/reply.errCoding", "satchel/reply.errSpan", "internal/bytealg.MaxLen", "satchel/reply.errBoth", "satchel/reply.errNoRange", "satchel/reply.errLimit", "errors.errorType"], apart := false, laid := [("unicode/utf8.acceptRanges", laid_unicode_utf8_acceptRanges), ("errors.errorType", laid_errors_errorType), ("satchel/reply.errTwice", laid_satchel_reply_errTwice), ("satchel/reply.errNumber", laid_satchel_reply_errNumber), ("satchel/reply.errCoding", laid_satchel_reply_errCoding), ("satchel/reply.errSpan", laid_satchel_reply_errSpan), ("satchel/reply.errBoth", laid_satchel_reply_errBoth), ("satchel/reply.errNoRange", laid_satchel_reply_errNoRange), ("satchel/reply.errByte", laid_satchel_reply_errByte), ("satchel/reply.errLong", laid_satchel_reply_errLong), ("satchel/reply.errHead", laid_satchel_reply_errHead), ("satchel/reply.errLimit", laid_satchel_reply_errLimit), ("satchel/reply.errPart", laid_satchel_reply_errPart), ("satchel/reply.errAgain", laid_satchel_reply_errAgain), ("satchel/reply.errBroken", laid_satchel_reply_errBroken), ("satchel/reply.errRefused", laid_satchel_reply_errRefused), ("satchel/reply.errLate", laid_satchel_reply_errLate), ("satchel/reply.errReset", laid_satchel_reply_errReset), ("satchel/reply.errClosed", laid_satchel_reply_errClosed), ("unicode.CaseRanges", laid_unicode_CaseRanges), ("unicode/utf8.first", laid_unicode_utf8_first)], narrowed := true }
def ReadsUptoSaid : Prop := readsUptoRow.holds Tryz.pinned (OpenSpec.upto readsSpec)

/-- 'satchelkeep.Pieces', WHERE WHAT IT READS IS OF BULK AT MOST 1048576: true; the input reads as it did. -/
def piecesUptoRow : OpenClaim := { program := "ytmodongnganbfaagreatdoor", sum := "0bf1f9ac94002a85948b945a880a361a61ca1d33a2dee69347983dd34ffb8f0b", func := "satchel/satchelkeep.Pieces", spec := "pieces", inPlace := ["internal/bytealg.IndexByteString", "internal/bytealg.IndexString", "internal/abi.NoEscape", "internal/bytealg.MakeNoZero", "internal/reflectlite.TypeOf", "internal/reflectlite.ValueOf", "(internal/reflectlite.Value).Type", "(internal/reflectlite.Value).IsNil", "(internal/reflectlite.Value).Elem", "(internal/reflectlite.Value).Set"], unfollowed := true, recurses := true, named := ["satchel/reply.errPart", "satchel/reply.errHead", "satchel/reply.errByte", "satchel/reply.errLong", "satchel/reply.errAgain", "satchel/reply.errRefused", "satchel/reply.errReset", "satchel/reply.errClosed", "satchel/reply.errLate", "satchel/reply.errBroken", "unicode/utf8.first", "unicode/utf8.acceptRanges", "satchel/reply.errTwice", "unicode.CaseRanges", "satchel/reply.errNumber", "satchel/reply.errCoding", "satchel/reply.errSpan", "internal/bytealg.MaxLen", "satchel/reply.errBoth", "satchel/reply.errNoRange", "satchel/reply.errLimit", "errors.errorType"], apart := false, laid := [("unicode/utf8.acceptRanges", laid_unicode_utf8_acceptRanges), ("errors.errorType", laid_errors_errorType), ("satchel/reply.errTwice", laid_satchel_reply_errTwice), ("satchel/reply.errNumber", laid_satchel_reply_errNumber), ("satchel/reply.errCoding", laid_satchel_reply_errCoding), ("satchel/reply.errSpan", laid_satchel_reply_errSpan), ("satchel/reply.errBoth", laid_satchel_reply_errBoth), ("satchel/reply.errNoRange", laid_satchel_reply_errNoRange), ("satchel/reply.errByte", laid_satchel_reply_errByte), ("satchel/reply.errLong", laid_satchel_reply_errLong), ("satchel/reply.errHead", laid_satchel_reply_errHead), ("satchel/reply.errLimit", laid_satchel_reply_errLimit), ("satchel/reply.errPart", laid_satchel_reply_errPart), ("satchel/reply.errAgain", laid_satchel_reply_errAgain), ("satchel/reply.errBroken", laid_satchel_reply_errBroken), ("satchel/reply.errRefused", laid_satchel_reply_errRefused), ("satchel/reply.errLate", laid_satchel_reply_errLate), ("satchel/reply.errReset", laid_satchel_reply_errReset), ("satchel/reply.errClosed", laid_satchel_reply_errClosed), ("unicode.CaseRanges", laid_unicode_CaseRanges), ("unicode/utf8.first", laid_unicode_utf8_first)], narrowed := true }
def PiecesUptoSaid : Prop := piecesUptoRow.holds Tryz.pinned (OpenSpec.upto piecesSpec)

end Rows
end Go.Proofs.YtmodongnganbfaaGreatDoor
