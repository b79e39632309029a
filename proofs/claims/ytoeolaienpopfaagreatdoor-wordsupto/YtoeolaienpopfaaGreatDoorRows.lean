/-
  NARROWER THAN 'FOR EVERY INPUT', by the rows' own cells (each row's printed sentence says how): Words: laid.
  DERIVED. THE GIVEN ROWS OF THIS SEAT. 1 by the template 'for every input the law returns true; each argument reads behind the call as it read before'; 0 by the template 'total and deterministic' (their statements: YtoeolaienpopfaaGreatDoorTotals.lean).
  GIVEN WITH THE SEED: the statements are not yours to turn. If you find one false, say at which input.
  Laid BY PROGRAM, IN A SANDBOX (cutbox-rows.mjs): the forced cells as the released guide's own fill.sh prints them over the translation 7c414ccf46d221e6… (all of the seat's roots in one cut). By AI agents, Wed Nov 11 2026. No macro, syntax, notation, axiom, sorry.
-/
import Derived.Test.YtoeolaienpopfaaGreatDoorChecked
import GoSem.PinnedTables
import GoSem.Claim
import GoSem.ClaimJoined
import GoSem.ClaimMapViews
import Derived.JoinedTies
import Derived.KernelRfl
namespace Go.Proofs.YtoeolaienpopfaaGreatDoor
/- THE CELL 'sum', in the pinned program and in every row, IS THE sha256 OF THE DUMP (.gsa) THAT YtoeolaienpopfaaGreatDoorProg.lean LOADS. Nothing in Lean hashes anything: it is a label: what it is worth is what the hold of that sum in a sandbox is worth. -/
noncomputable def Tryz.pinned : Pinned := { name := "ytoeolaienpopfaagreatdoor", sum := "7c414ccf46d221e6cc618349fa72cf98a87e6dd98d3b56855048170719cbe476", checked := Tryz.checked }
namespace Rows
def none {H : Type} : Left H := { results := [], args := [] }

/- WHAT THE LISTED PACKAGE-LEVEL VARIABLES READ AS WHEN THE CALL BEGINS. Each datum BY PROGRAM (the guide's laid-datum.mjs) off the statement by which the dump's own 'gosem.cut.vars' lays the variable. In a bare row this is a premise. The card (YtoeolaienpopfaaGreatDoorCards.lean) ties it to the program's text. -/
def laid_unicode_utf8_acceptRanges {H : Type} : DataW H := .agg [.agg [.lit (.int .u8 128), .lit (.int .u8 191)], .agg [.lit (.int .u8 160), .lit (.int .u8 191)], .agg [.lit (.int .u8 128), .lit (.int .u8 159)], .agg [.lit (.int .u8 144), .lit (.int .u8 191)], .agg [.lit (.int .u8 128), .lit (.int .u8 143)], .agg [.lit (.int .u8 0), .lit (.int .u8 0)], .agg [.lit (.int .u8 0), .lit (.int .u8 0)], .agg [.lit (.int .u8 0), .lit (.int .u8 0)], .agg [.lit (.int .u8 0), .lit (.int .u8 0)], .agg [.lit (.int .u8 0), .lit (.int .u8 0)], .agg [.lit (.int .u8 0), .lit (.int .u8 0)], .agg [.lit (.int .u8 0), .lit (.int .u8 0)], .agg [.lit (.int .u8 0), .lit (.int .u8 0)], .agg [.lit (.int .u8 0), .lit (.int .u8 0)], .agg [.lit (.int .u8 0), .lit (.int .u8 0)], .agg [.lit (.int .u8 0), .lit (.int .u8 0)]]
def laid_errors_errorType {H : Type} : DataW H := .iface "internal/reflectlite.rtype" (.agg [.ptr (.lit (.string [101, 114, 114, 111, 114]))])
def laid_satchel_fault_ErrArg {H : Type} : DataW H := .iface "*errors.errorString" (.ptr (.agg [.lit (.string [110, 111, 32, 115, 117, 99, 104, 32, 97, 114, 103, 117, 109, 101, 110, 116])]))
def laid_satchel_deflate_ErrDeflate {H : Type} : DataW H := .iface "*errors.errorString" (.ptr (.agg [.lit (.string [110, 111, 32, 100, 101, 102, 108, 97, 116, 101, 100, 32, 116, 101, 120, 116])]))
def laid_satchel_mirrors_ErrMirrors {H : Type} : DataW H := .iface "*errors.errorString" (.ptr (.agg [.lit (.string [110, 111, 32, 108, 105, 115, 116, 32, 111, 102, 32, 109, 105, 114, 114, 111, 114, 115])]))
def laid_satchel_names_ErrName {H : Type} : DataW H := .iface "*errors.errorString" (.ptr (.agg [.lit (.string [110, 111, 32, 110, 97, 109, 101])]))
def laid_satchel_names_ErrVersion {H : Type} : DataW H := .iface "*errors.errorString" (.ptr (.agg [.lit (.string [110, 111, 32, 118, 101, 114, 115, 105, 111, 110])]))
def laid_satchel_names_errEmpty {H : Type} : DataW H := .iface "*errors.errorString" (.ptr (.agg [.lit (.string [110, 111, 116, 104, 105, 110, 103, 32, 119, 104, 101, 114, 101, 32, 115, 111, 109, 101, 116, 104, 105, 110, 103, 32, 109, 117, 115, 116, 32, 115, 116, 97, 110, 100])]))
def laid_satchel_names_errLong {H : Type} : DataW H := .iface "*errors.errorString" (.ptr (.agg [.lit (.string [116, 111, 111, 32, 109, 97, 110, 121, 32, 98, 121, 116, 101, 115])]))
def laid_satchel_names_errByte {H : Type} : DataW H := .iface "*errors.errorString" (.ptr (.agg [.lit (.string [97, 32, 98, 121, 116, 101, 32, 116, 104, 97, 116, 32, 109, 97, 121, 32, 110, 111, 116, 32, 115, 116, 97, 110, 100, 32, 116, 104, 101, 114, 101])]))
def laid_satchel_names_errDot {H : Type} : DataW H := .iface "*errors.errorString" (.ptr (.agg [.lit (.string [97, 32, 100, 111, 116, 32, 97, 116, 32, 97, 110, 32, 101, 108, 101, 109, 101, 110, 116, 39, 115, 32, 101, 110, 100])]))
def laid_satchel_names_errZero {H : Type} : DataW H := .iface "*errors.errorString" (.ptr (.agg [.lit (.string [97, 32, 48, 32, 97, 104, 101, 97, 100, 32, 111, 102, 32, 111, 116, 104, 101, 114, 32, 100, 105, 103, 105, 116, 115])]))
def laid_satchel_names_errShape {H : Type} : DataW H := .iface "*errors.errorString" (.ptr (.agg [.lit (.string [110, 111, 116, 32, 118, 32, 97, 110, 100, 32, 116, 104, 114, 101, 101, 32, 110, 117, 109, 98, 101, 114, 115])]))
def laid_satchel_names_errEscape {H : Type} : DataW H := .iface "*errors.errorString" (.ptr (.agg [.lit (.string [110, 111, 116, 32, 97, 32, 116, 101, 120, 116, 32, 116, 104, 97, 116, 32, 105, 115, 32, 101, 115, 99, 97, 112, 101, 100])]))
def laid_satchel_info_ErrInfo {H : Type} : DataW H := .iface "*errors.errorString" (.ptr (.agg [.lit (.string [110, 111, 32, 116, 101, 120, 116, 32, 97, 98, 111, 117, 116, 32, 97, 32, 118, 101, 114, 115, 105, 111, 110])]))
def laid_satchel_bundle_ErrBundle {H : Type} : DataW H := .iface "*errors.errorString" (.ptr (.agg [.lit (.string [110, 111, 32, 97, 114, 99, 104, 105, 118, 101])]))
def laid_satchel_sums_ErrSums {H : Type} : DataW H := .iface "*errors.errorString" (.ptr (.agg [.lit (.string [110, 111, 32, 116, 97, 98, 108, 101, 32, 111, 102, 32, 115, 117, 109, 115])]))
def laid_satchel_sums_ErrNoSum {H : Type} : DataW H := .iface "*errors.errorString" (.ptr (.agg [.lit (.string [116, 104, 101, 32, 116, 97, 98, 108, 101, 32, 104, 97, 115, 32, 110, 111, 32, 115, 117, 99, 104, 32, 107, 101, 121])]))
def laid_satchel_walk_ErrSum {H : Type} : DataW H := .iface "*errors.errorString" (.ptr (.agg [.lit (.string [110, 111, 116, 32, 116, 104, 101, 32, 115, 117, 109, 32, 116, 104, 97, 116, 32, 116, 104, 101, 32, 116, 97, 98, 108, 101, 32, 104, 97, 115])]))
def laid_satchel_walk_ErrOff {H : Type} : DataW H := .iface "*errors.errorString" (.ptr (.agg [.lit (.string [116, 104, 101, 32, 108, 105, 115, 116, 32, 115, 97, 121, 115, 32, 111, 102, 102])]))
def laid_satchel_walk_ErrDirect {H : Type} : DataW H := .iface "*errors.errorString" (.ptr (.agg [.lit (.string [116, 104, 101, 32, 108, 105, 115, 116, 32, 115, 97, 121, 115, 32, 100, 105, 114, 101, 99, 116])]))
def laid_satchel_walk_ErrNotFound {H : Type} : DataW H := .iface "*errors.errorString" (.ptr (.agg [.lit (.string [110, 111, 32, 109, 105, 114, 114, 111, 114, 32, 104, 97, 115, 32, 105, 116])]))
def laid_satchel_walk_ErrFailed {H : Type} : DataW H := .iface "*errors.errorString" (.ptr (.agg [.lit (.string [97, 32, 109, 105, 114, 114, 111, 114, 32, 102, 97, 105, 108, 101, 100])]))
def laid_satchel_client_ErrNone {H : Type} : DataW H := .iface "*errors.errorString" (.ptr (.agg [.lit (.string [110, 111, 116, 32, 105, 110, 32, 116, 104, 101, 32, 99, 97, 99, 104, 101])]))
/-- One of Go's own tables, pinned by name: the form's constant. -/
def laid_unicode_utf8_first : DataW Unit := Go.Pinned.utf8First

/-- 'satchellaw.Words': WHATEVER THE INPUT: true; the input reads as it did. -/
def wordsSpec : ChangeSpec := { name := "words", fn := fun _ => fun
  | [d1, d2] => { results := [.lit (.bool true)], args := [d1, d2] }
  | _ => none }
def wordsRow : OpenClaim := { program := "ytoeolaienpopfaagreatdoor", sum := "7c414ccf46d221e6cc618349fa72cf98a87e6dd98d3b56855048170719cbe476", func := "satchel/satchellaw.Words", spec := "words", inPlace := ["internal/bytealg.CountString", "internal/bytealg.IndexByteString", "internal/bytealg.IndexString", "internal/reflectlite.ValueOf", "(internal/reflectlite.Value).Type", "(internal/reflectlite.Value).IsNil", "internal/reflectlite.TypeOf", "(internal/reflectlite.Value).Elem", "(internal/reflectlite.Value).Set", "internal/abi.NoEscape"], unfollowed := true, recurses := true, named := ["satchel/names.ErrName", "satchel/names.errLong", "unicode/utf8.first", "unicode/utf8.acceptRanges", "internal/bytealg.MaxLen", "satchel/names.errEmpty", "satchel/names.errDot", "satchel/names.errByte", "satchel/fault.ErrArg", "satchel/mirrors.ErrMirrors", "satchel/sums.ErrSums", "satchel/names.ErrVersion", "satchel/deflate.ErrDeflate", "satchel/bundle.ErrBundle", "satchel/info.ErrInfo", "satchel/sums.ErrNoSum", "satchel/walk.ErrSum", "satchel/walk.ErrOff", "satchel/walk.ErrDirect", "satchel/walk.ErrNotFound", "satchel/walk.ErrFailed", "satchel/client.ErrNone", "errors.errorType", "satchel/names.errShape", "satchel/names.errZero", "satchel/names.errEscape"], apart := false, laid := [("unicode/utf8.acceptRanges", laid_unicode_utf8_acceptRanges), ("errors.errorType", laid_errors_errorType), ("satchel/fault.ErrArg", laid_satchel_fault_ErrArg), ("satchel/deflate.ErrDeflate", laid_satchel_deflate_ErrDeflate), ("satchel/mirrors.ErrMirrors", laid_satchel_mirrors_ErrMirrors), ("satchel/names.ErrName", laid_satchel_names_ErrName), ("satchel/names.ErrVersion", laid_satchel_names_ErrVersion), ("satchel/names.errEmpty", laid_satchel_names_errEmpty), ("satchel/names.errLong", laid_satchel_names_errLong), ("satchel/names.errByte", laid_satchel_names_errByte), ("satchel/names.errDot", laid_satchel_names_errDot), ("satchel/names.errZero", laid_satchel_names_errZero), ("satchel/names.errShape", laid_satchel_names_errShape), ("satchel/names.errEscape", laid_satchel_names_errEscape), ("satchel/info.ErrInfo", laid_satchel_info_ErrInfo), ("satchel/bundle.ErrBundle", laid_satchel_bundle_ErrBundle), ("satchel/sums.ErrSums", laid_satchel_sums_ErrSums), ("satchel/sums.ErrNoSum", laid_satchel_sums_ErrNoSum), ("satchel/walk.ErrSum", laid_satchel_walk_ErrSum), ("satchel/walk.ErrOff", laid_satchel_walk_ErrOff), ("satchel/walk.ErrDirect", laid_satchel_walk_ErrDirect), ("satchel/walk.ErrNotFound", laid_satchel_walk_ErrNotFound), ("satchel/walk.ErrFailed", laid_satchel_walk_ErrFailed), ("satchel/client.ErrNone", laid_satchel_client_ErrNone), ("unicode/utf8.first", laid_unicode_utf8_first)] }
def WordsSaid : Prop := wordsRow.holds Tryz.pinned (OpenSpec.ofChange wordsSpec)

/-- ITS FALSE NEIGHBOUR: 'it returns false'. Refute it at one input. -/
def wordsWrong : ChangeSpec := { name := "words", fn := fun _ => fun
  | [d1, d2] => { results := [.lit (.bool false)], args := [d1, d2] }
  | _ => none }
def WordsWrongFalsely : Prop := wordsRow.holds Tryz.pinned (OpenSpec.ofChange wordsWrong)

/- THE SECOND FORM. 'bulk': how many values and letters a reading holds, each counted each time it is reached (what is shared counts as often as it is met; a slice's spare places count too). A statement '..UptoSaid' is the law's where the arguments, and the package variables that the reading takes, are together of bulk at most 1048576: NARROWER than '..Said'. Prove '..Said' where nothing that the law and all that it calls make is longer than what came in: it says more and counts as full. Else prove '..UptoSaid'. A law counts once. -/
mutual
def uptoBulk {H : Type} : DataW H → Nat
  | .lit (.string bytes) => bytes.length + 1
  | .lit _ => 1
  | .nil => 1
  | .ptr d => uptoBulk d + 1
  | .slice elems spare => uptoBulkAll elems + uptoBulkAll spare + 1
  | .agg parts => uptoBulkAll parts + 1
  | .iface _ d => uptoBulk d + 1
  | .map entries => uptoBulkEntries entries + 1
  | .held _ => 1
def uptoBulkAll {H : Type} : List (DataW H) → Nat
  | [] => 0
  | d :: r => uptoBulk d + uptoBulkAll r
def uptoBulkEntries {H : Type} : List (Lit × DataW H) → Nat
  | [] => 0
  | x :: r => uptoBulkEntry x + uptoBulkEntries r
def uptoBulkEntry {H : Type} : Lit × DataW H → Nat
  | (.string bytes, d) => bytes.length + uptoBulk d + 1
  | (_, d) => uptoBulk d + 1
 end
def uptoSmall : (H : Type) → List (DataW H) → Bool := fun _ ds => decide (uptoBulkAll ds ≤ 1048576)
def OpenSpec.upto (s : _root_.Go.ChangeSpec) : _root_.Go.OpenSpec := { _root_.Go.OpenSpec.ofChange s with cond := some uptoSmall }

/-- 'satchellaw.Words', WHERE WHAT IT READS IS OF BULK AT MOST 1048576: true; the input reads as it did. -/
def wordsUptoRow : OpenClaim := { program := "ytoeolaienpopfaagreatdoor", sum := "7c414ccf46d221e6cc618349fa72cf98a87e6dd98d3b56855048170719cbe476", func := "satchel/satchellaw.Words", spec := "words", inPlace := ["internal/bytealg.CountString", "internal/bytealg.IndexByteString", "internal/bytealg.IndexString", "internal/reflectlite.ValueOf", "(internal/reflectlite.Value).Type", "(internal/reflectlite.Value).IsNil", "internal/reflectlite.TypeOf", "(internal/reflectlite.Value).Elem", "(internal/reflectlite.Value).Set", "internal/abi.NoEscape"], unfollowed := true, recurses := true, named := ["satchel/names.ErrName", "satchel/names.errLong", "unicode/utf8.first", "unicode/utf8.acceptRanges", "internal/bytealg.MaxLen", "satchel/names.errEmpty", "satchel/names.errDot", "satchel/names.errByte", "satchel/fault.ErrArg", "satchel/mirrors.ErrMirrors", "satchel/sums.ErrSums", "satchel/names.ErrVersion", "satchel/deflate.ErrDeflate", "satchel/bundle.ErrBundle", "satchel/info.ErrInfo", "satchel/sums.ErrNoSum", "satchel/walk.ErrSum", "satchel/walk.ErrOff", "satchel/walk.ErrDirect", "satchel/walk.ErrNotFound", "satchel/walk.ErrFailed", "satchel/client.ErrNone", "errors.errorType", "satchel/names.errShape", "satchel/names.errZero", "satchel/names.errEscape"], apart := false, laid := [("unicode/utf8.acceptRanges", laid_unicode_utf8_acceptRanges), ("errors.errorType", laid_errors_errorType), ("satchel/fault.ErrArg", laid_satchel_fault_ErrArg), ("satchel/deflate.ErrDeflate", laid_satchel_deflate_ErrDeflate), ("satchel/mirrors.ErrMirrors", laid_satchel_mirrors_ErrMirrors), ("satchel/names.ErrName", laid_satchel_names_ErrName), ("satchel/names.ErrVersion", laid_satchel_names_ErrVersion), ("satchel/names.errEmpty", laid_satchel_names_errEmpty), ("satchel/names.errLong", laid_satchel_names_errLong), ("satchel/names.errByte", laid_satchel_names_errByte), ("satchel/names.errDot", laid_satchel_names_errDot), ("satchel/names.errZero", laid_satchel_names_errZero), ("satchel/names.errShape", laid_satchel_names_errShape), ("satchel/names.errEscape", laid_satchel_names_errEscape), ("satchel/info.ErrInfo", laid_satchel_info_ErrInfo), ("satchel/bundle.ErrBundle", laid_satchel_bundle_ErrBundle), ("satchel/sums.ErrSums", laid_satchel_sums_ErrSums), ("satchel/sums.ErrNoSum", laid_satchel_sums_ErrNoSum), ("satchel/walk.ErrSum", laid_satchel_walk_ErrSum), ("satchel/walk.ErrOff", laid_satchel_walk_ErrOff), ("satchel/walk.ErrDirect", laid_satchel_walk_ErrDirect), ("satchel/walk.ErrNotFound", laid_satchel_walk_ErrNotFound), ("satchel/walk.ErrFailed", laid_satchel_walk_ErrFailed), ("satchel/client.ErrNone", laid_satchel_client_ErrNone), ("unicode/utf8.first", laid_unicode_utf8_first)], narrowed := true }
def WordsUptoSaid : Prop := wordsUptoRow.holds Tryz.pinned (OpenSpec.upto wordsSpec)

end Rows
end Go.Proofs.YtoeolaienpopfaaGreatDoor
