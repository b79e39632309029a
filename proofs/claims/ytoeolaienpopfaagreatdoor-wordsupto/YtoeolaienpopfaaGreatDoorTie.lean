/-
  DERIVED. GIVEN WITH THE SEED: THE PROGRAM's TIES (one call each: nine closed facts by the kernel) AND EACH ROW's TIE, after the 31st guide's Derived/Test/Toyas{Tie, Card}.lean. No idea stands in it: it is a product of the set-up. Laid BY PROGRAM, IN A SANDBOX (cutbox-door.mjs). By AI agents, Wed Nov 11 2026. No macro, syntax, notation, axiom, sorry.
-/
import Derived.Test.YtoeolaienpopfaaGreatDoorRows
import Derived.LaidByTextLater
import Derived.SevenTiedAt
import Derived.LaidSub
import Derived.LaidOnce
namespace Go.Proofs.YtoeolaienpopfaaGreatDoor
open Go
set_option maxRecDepth 100000
theorem seatTie1 : Tryz.prog.laidByTextLater [("unicode/utf8.acceptRanges", Rows.laid_unicode_utf8_acceptRanges), ("errors.errorType", Rows.laid_errors_errorType), ("satchel/fault.ErrArg", Rows.laid_satchel_fault_ErrArg), ("satchel/deflate.ErrDeflate", Rows.laid_satchel_deflate_ErrDeflate), ("satchel/mirrors.ErrMirrors", Rows.laid_satchel_mirrors_ErrMirrors), ("satchel/names.ErrName", Rows.laid_satchel_names_ErrName), ("satchel/names.ErrVersion", Rows.laid_satchel_names_ErrVersion), ("satchel/names.errEmpty", Rows.laid_satchel_names_errEmpty), ("satchel/names.errLong", Rows.laid_satchel_names_errLong), ("satchel/names.errByte", Rows.laid_satchel_names_errByte), ("satchel/names.errDot", Rows.laid_satchel_names_errDot), ("satchel/names.errZero", Rows.laid_satchel_names_errZero), ("satchel/names.errShape", Rows.laid_satchel_names_errShape), ("satchel/names.errEscape", Rows.laid_satchel_names_errEscape), ("satchel/info.ErrInfo", Rows.laid_satchel_info_ErrInfo), ("satchel/bundle.ErrBundle", Rows.laid_satchel_bundle_ErrBundle), ("satchel/sums.ErrSums", Rows.laid_satchel_sums_ErrSums), ("satchel/sums.ErrNoSum", Rows.laid_satchel_sums_ErrNoSum), ("satchel/walk.ErrSum", Rows.laid_satchel_walk_ErrSum), ("satchel/walk.ErrOff", Rows.laid_satchel_walk_ErrOff), ("satchel/walk.ErrDirect", Rows.laid_satchel_walk_ErrDirect), ("satchel/walk.ErrNotFound", Rows.laid_satchel_walk_ErrNotFound), ("satchel/walk.ErrFailed", Rows.laid_satchel_walk_ErrFailed), ("satchel/client.ErrNone", Rows.laid_satchel_client_ErrNone)] [.data, .handle, .sentinel, .sentinel, .sentinel, .sentinel, .sentinel, .sentinel, .sentinel, .sentinel, .sentinel, .sentinel, .sentinel, .sentinel, .sentinel, .sentinel, .sentinel, .sentinel, .sentinel, .sentinel, .sentinel, .sentinel, .sentinel, .sentinel] true :=
  Program.laidByTextLater_by_one 444 8 33 (by kernel_rfl) (by kernel_rfl) (by kernel_rfl) (by kernel_rfl) (by kernel_rfl) (by kernel_rfl) (fun _ _ => by kernel_rfl)
theorem pin_laid_unicode_utf8_first : Tryz.pinned.checked.prog.pinnedFits "unicode/utf8.first" = true := by kernel_rfl
theorem noOwnUnsafe : Tryz.pinned.checked.prog.headLifts.contains "ownunsafe" = false := by kernel_rfl
theorem fits1 : Tryz.pinned.checked.prog.listedFits [("unicode/utf8.acceptRanges", Rows.laid_unicode_utf8_acceptRanges), ("errors.errorType", Rows.laid_errors_errorType), ("satchel/fault.ErrArg", Rows.laid_satchel_fault_ErrArg), ("satchel/deflate.ErrDeflate", Rows.laid_satchel_deflate_ErrDeflate), ("satchel/mirrors.ErrMirrors", Rows.laid_satchel_mirrors_ErrMirrors), ("satchel/names.ErrName", Rows.laid_satchel_names_ErrName), ("satchel/names.ErrVersion", Rows.laid_satchel_names_ErrVersion), ("satchel/names.errEmpty", Rows.laid_satchel_names_errEmpty), ("satchel/names.errLong", Rows.laid_satchel_names_errLong), ("satchel/names.errByte", Rows.laid_satchel_names_errByte), ("satchel/names.errDot", Rows.laid_satchel_names_errDot), ("satchel/names.errZero", Rows.laid_satchel_names_errZero), ("satchel/names.errShape", Rows.laid_satchel_names_errShape), ("satchel/names.errEscape", Rows.laid_satchel_names_errEscape), ("satchel/info.ErrInfo", Rows.laid_satchel_info_ErrInfo), ("satchel/bundle.ErrBundle", Rows.laid_satchel_bundle_ErrBundle), ("satchel/sums.ErrSums", Rows.laid_satchel_sums_ErrSums), ("satchel/sums.ErrNoSum", Rows.laid_satchel_sums_ErrNoSum), ("satchel/walk.ErrSum", Rows.laid_satchel_walk_ErrSum), ("satchel/walk.ErrOff", Rows.laid_satchel_walk_ErrOff), ("satchel/walk.ErrDirect", Rows.laid_satchel_walk_ErrDirect), ("satchel/walk.ErrNotFound", Rows.laid_satchel_walk_ErrNotFound), ("satchel/walk.ErrFailed", Rows.laid_satchel_walk_ErrFailed), ("satchel/client.ErrNone", Rows.laid_satchel_client_ErrNone), ("unicode/utf8.first", Rows.laid_unicode_utf8_first)] = true := by
  unfold Program.listedFits
  rw [noOwnUnsafe]
  kernel_rfl
theorem tie : Tryz.prog.laidByTextLater [("unicode/utf8.acceptRanges", Rows.laid_unicode_utf8_acceptRanges), ("errors.errorType", Rows.laid_errors_errorType), ("satchel/fault.ErrArg", Rows.laid_satchel_fault_ErrArg), ("satchel/deflate.ErrDeflate", Rows.laid_satchel_deflate_ErrDeflate), ("satchel/mirrors.ErrMirrors", Rows.laid_satchel_mirrors_ErrMirrors), ("satchel/names.ErrName", Rows.laid_satchel_names_ErrName), ("satchel/names.ErrVersion", Rows.laid_satchel_names_ErrVersion), ("satchel/names.errEmpty", Rows.laid_satchel_names_errEmpty), ("satchel/names.errLong", Rows.laid_satchel_names_errLong), ("satchel/names.errByte", Rows.laid_satchel_names_errByte), ("satchel/names.errDot", Rows.laid_satchel_names_errDot), ("satchel/names.errZero", Rows.laid_satchel_names_errZero), ("satchel/names.errShape", Rows.laid_satchel_names_errShape), ("satchel/names.errEscape", Rows.laid_satchel_names_errEscape), ("satchel/info.ErrInfo", Rows.laid_satchel_info_ErrInfo), ("satchel/bundle.ErrBundle", Rows.laid_satchel_bundle_ErrBundle), ("satchel/sums.ErrSums", Rows.laid_satchel_sums_ErrSums), ("satchel/sums.ErrNoSum", Rows.laid_satchel_sums_ErrNoSum), ("satchel/walk.ErrSum", Rows.laid_satchel_walk_ErrSum), ("satchel/walk.ErrOff", Rows.laid_satchel_walk_ErrOff), ("satchel/walk.ErrDirect", Rows.laid_satchel_walk_ErrDirect), ("satchel/walk.ErrNotFound", Rows.laid_satchel_walk_ErrNotFound), ("satchel/walk.ErrFailed", Rows.laid_satchel_walk_ErrFailed), ("satchel/client.ErrNone", Rows.laid_satchel_client_ErrNone)] [.data, .handle, .sentinel, .sentinel, .sentinel, .sentinel, .sentinel, .sentinel, .sentinel, .sentinel, .sentinel, .sentinel, .sentinel, .sentinel, .sentinel, .sentinel, .sentinel, .sentinel, .sentinel, .sentinel, .sentinel, .sentinel, .sentinel, .sentinel] true :=
  Program.laidByTextLater.sub seatTie1 ["unicode/utf8.acceptRanges", "errors.errorType", "satchel/fault.ErrArg", "satchel/deflate.ErrDeflate", "satchel/mirrors.ErrMirrors", "satchel/names.ErrName", "satchel/names.ErrVersion", "satchel/names.errEmpty", "satchel/names.errLong", "satchel/names.errByte", "satchel/names.errDot", "satchel/names.errZero", "satchel/names.errShape", "satchel/names.errEscape", "satchel/info.ErrInfo", "satchel/bundle.ErrBundle", "satchel/sums.ErrSums", "satchel/sums.ErrNoSum", "satchel/walk.ErrSum", "satchel/walk.ErrOff", "satchel/walk.ErrDirect", "satchel/walk.ErrNotFound", "satchel/walk.ErrFailed", "satchel/client.ErrNone"] (by kernel_rfl) (by kernel_rfl)
theorem words_row_tie : Rows.wordsRow.laidByTextAt .later Tryz.pinned [.data, .handle, .sentinel, .sentinel, .sentinel, .sentinel, .sentinel, .sentinel, .sentinel, .sentinel, .sentinel, .sentinel, .sentinel, .sentinel, .sentinel, .sentinel, .sentinel, .sentinel, .sentinel, .sentinel, .sentinel, .sentinel, .sentinel, .sentinel, .pinned] true :=
  OpenClaim.laidByTextAt_pinned rfl rfl tie rfl rfl rfl rfl (fun y hy _e => by
    simp only [Rows.wordsRow, List.zip_cons_cons, List.zip_nil_right, List.mem_cons, List.mem_nil_iff, or_false] at hy
    rcases hy with rfl | rfl | rfl | rfl | rfl | rfl | rfl | rfl | rfl | rfl | rfl | rfl | rfl | rfl | rfl | rfl | rfl | rfl | rfl | rfl | rfl | rfl | rfl | rfl | rfl
    · cases _e
    · cases _e
    · cases _e
    · cases _e
    · cases _e
    · cases _e
    · cases _e
    · cases _e
    · cases _e
    · cases _e
    · cases _e
    · cases _e
    · cases _e
    · cases _e
    · cases _e
    · cases _e
    · cases _e
    · cases _e
    · cases _e
    · cases _e
    · cases _e
    · cases _e
    · cases _e
    · cases _e
    · exact ⟨pin_laid_unicode_utf8_first, by kernel_rfl⟩) fits1
theorem wordsUpto_row_tie : Rows.wordsUptoRow.laidByTextAt .later Tryz.pinned [.data, .handle, .sentinel, .sentinel, .sentinel, .sentinel, .sentinel, .sentinel, .sentinel, .sentinel, .sentinel, .sentinel, .sentinel, .sentinel, .sentinel, .sentinel, .sentinel, .sentinel, .sentinel, .sentinel, .sentinel, .sentinel, .sentinel, .sentinel, .pinned] true :=
  OpenClaim.laidByTextAt_pinned rfl rfl tie rfl rfl rfl rfl (fun y hy _e => by
    simp only [Rows.wordsUptoRow, List.zip_cons_cons, List.zip_nil_right, List.mem_cons, List.mem_nil_iff, or_false] at hy
    rcases hy with rfl | rfl | rfl | rfl | rfl | rfl | rfl | rfl | rfl | rfl | rfl | rfl | rfl | rfl | rfl | rfl | rfl | rfl | rfl | rfl | rfl | rfl | rfl | rfl | rfl
    · cases _e
    · cases _e
    · cases _e
    · cases _e
    · cases _e
    · cases _e
    · cases _e
    · cases _e
    · cases _e
    · cases _e
    · cases _e
    · cases _e
    · cases _e
    · cases _e
    · cases _e
    · cases _e
    · cases _e
    · cases _e
    · cases _e
    · cases _e
    · cases _e
    · cases _e
    · cases _e
    · cases _e
    · exact ⟨pin_laid_unicode_utf8_first, by kernel_rfl⟩) fits1
end Go.Proofs.YtoeolaienpopfaaGreatDoor
