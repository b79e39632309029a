/-
  DERIVED. GIVEN WITH THE SEED: THE PROGRAM's TIES (one call each: nine closed facts by the kernel) AND EACH ROW's TIE, after the 31st guide's Derived/Test/Toyas{Tie, Card}.lean. No idea stands in it: it is a product of the set-up. Laid BY PROGRAM, IN A SANDBOX (cutbox-door.mjs). By AI agents, Wed Nov 11 2026. No macro, syntax, notation, axiom, sorry.
-/
import Derived.Test.YtmodongnganbfaaGreatDoorRows
import Derived.LaidByTextLater
import Derived.SevenTiedAt
import Derived.LaidSub
import Derived.LaidOnce
namespace Go.Proofs.YtmodongnganbfaaGreatDoor
open Go
set_option maxRecDepth 100000
theorem seatTie1 : Tryz.prog.laidByTextLater [("unicode/utf8.acceptRanges", Rows.laid_unicode_utf8_acceptRanges), ("errors.errorType", Rows.laid_errors_errorType), ("satchel/reply.errTwice", Rows.laid_satchel_reply_errTwice), ("satchel/reply.errNumber", Rows.laid_satchel_reply_errNumber), ("satchel/reply.errCoding", Rows.laid_satchel_reply_errCoding), ("satchel/reply.errSpan", Rows.laid_satchel_reply_errSpan), ("satchel/reply.errBoth", Rows.laid_satchel_reply_errBoth), ("satchel/reply.errNoRange", Rows.laid_satchel_reply_errNoRange), ("satchel/reply.errByte", Rows.laid_satchel_reply_errByte), ("satchel/reply.errLong", Rows.laid_satchel_reply_errLong), ("satchel/reply.errHead", Rows.laid_satchel_reply_errHead), ("satchel/reply.errLimit", Rows.laid_satchel_reply_errLimit), ("satchel/reply.errPart", Rows.laid_satchel_reply_errPart), ("satchel/reply.errAgain", Rows.laid_satchel_reply_errAgain), ("satchel/reply.errBroken", Rows.laid_satchel_reply_errBroken), ("satchel/reply.errRefused", Rows.laid_satchel_reply_errRefused), ("satchel/reply.errLate", Rows.laid_satchel_reply_errLate), ("satchel/reply.errReset", Rows.laid_satchel_reply_errReset), ("satchel/reply.errClosed", Rows.laid_satchel_reply_errClosed)] [.data, .handle, .sentinel, .sentinel, .sentinel, .sentinel, .sentinel, .sentinel, .sentinel, .sentinel, .sentinel, .sentinel, .sentinel, .sentinel, .sentinel, .sentinel, .sentinel, .sentinel, .sentinel] true :=
  Program.laidByTextLater_by_one 349 8 33 (by kernel_rfl) (by kernel_rfl) (by kernel_rfl) (by kernel_rfl) (by kernel_rfl) (by kernel_rfl) (fun _ _ => by kernel_rfl)
theorem pin_laid_unicode_CaseRanges : Tryz.pinned.checked.prog.pinnedFits "unicode.CaseRanges" = true := by kernel_rfl
theorem pin_laid_unicode_utf8_first : Tryz.pinned.checked.prog.pinnedFits "unicode/utf8.first" = true := by kernel_rfl
theorem noOwnUnsafe : Tryz.pinned.checked.prog.headLifts.contains "ownunsafe" = false := by kernel_rfl
theorem fits1 : Tryz.pinned.checked.prog.listedFits [("unicode/utf8.acceptRanges", Rows.laid_unicode_utf8_acceptRanges), ("errors.errorType", Rows.laid_errors_errorType), ("satchel/reply.errTwice", Rows.laid_satchel_reply_errTwice), ("satchel/reply.errNumber", Rows.laid_satchel_reply_errNumber), ("satchel/reply.errCoding", Rows.laid_satchel_reply_errCoding), ("satchel/reply.errSpan", Rows.laid_satchel_reply_errSpan), ("satchel/reply.errBoth", Rows.laid_satchel_reply_errBoth), ("satchel/reply.errNoRange", Rows.laid_satchel_reply_errNoRange), ("satchel/reply.errByte", Rows.laid_satchel_reply_errByte), ("satchel/reply.errLong", Rows.laid_satchel_reply_errLong), ("satchel/reply.errHead", Rows.laid_satchel_reply_errHead), ("satchel/reply.errLimit", Rows.laid_satchel_reply_errLimit), ("satchel/reply.errPart", Rows.laid_satchel_reply_errPart), ("satchel/reply.errAgain", Rows.laid_satchel_reply_errAgain), ("satchel/reply.errBroken", Rows.laid_satchel_reply_errBroken), ("satchel/reply.errRefused", Rows.laid_satchel_reply_errRefused), ("satchel/reply.errLate", Rows.laid_satchel_reply_errLate), ("satchel/reply.errReset", Rows.laid_satchel_reply_errReset), ("satchel/reply.errClosed", Rows.laid_satchel_reply_errClosed), ("unicode.CaseRanges", Rows.laid_unicode_CaseRanges), ("unicode/utf8.first", Rows.laid_unicode_utf8_first)] = true := by
  unfold Program.listedFits
  rw [noOwnUnsafe]
  kernel_rfl
theorem tie : Tryz.prog.laidByTextLater [("unicode/utf8.acceptRanges", Rows.laid_unicode_utf8_acceptRanges), ("errors.errorType", Rows.laid_errors_errorType), ("satchel/reply.errTwice", Rows.laid_satchel_reply_errTwice), ("satchel/reply.errNumber", Rows.laid_satchel_reply_errNumber), ("satchel/reply.errCoding", Rows.laid_satchel_reply_errCoding), ("satchel/reply.errSpan", Rows.laid_satchel_reply_errSpan), ("satchel/reply.errBoth", Rows.laid_satchel_reply_errBoth), ("satchel/reply.errNoRange", Rows.laid_satchel_reply_errNoRange), ("satchel/reply.errByte", Rows.laid_satchel_reply_errByte), ("satchel/reply.errLong", Rows.laid_satchel_reply_errLong), ("satchel/reply.errHead", Rows.laid_satchel_reply_errHead), ("satchel/reply.errLimit", Rows.laid_satchel_reply_errLimit), ("satchel/reply.errPart", Rows.laid_satchel_reply_errPart), ("satchel/reply.errAgain", Rows.laid_satchel_reply_errAgain), ("satchel/reply.errBroken", Rows.laid_satchel_reply_errBroken), ("satchel/reply.errRefused", Rows.laid_satchel_reply_errRefused), ("satchel/reply.errLate", Rows.laid_satchel_reply_errLate), ("satchel/reply.errReset", Rows.laid_satchel_reply_errReset), ("satchel/reply.errClosed", Rows.laid_satchel_reply_errClosed)] [.data, .handle, .sentinel, .sentinel, .sentinel, .sentinel, .sentinel, .sentinel, .sentinel, .sentinel, .sentinel, .sentinel, .sentinel, .sentinel, .sentinel, .sentinel, .sentinel, .sentinel, .sentinel] true :=
  Program.laidByTextLater.sub seatTie1 ["unicode/utf8.acceptRanges", "errors.errorType", "satchel/reply.errTwice", "satchel/reply.errNumber", "satchel/reply.errCoding", "satchel/reply.errSpan", "satchel/reply.errBoth", "satchel/reply.errNoRange", "satchel/reply.errByte", "satchel/reply.errLong", "satchel/reply.errHead", "satchel/reply.errLimit", "satchel/reply.errPart", "satchel/reply.errAgain", "satchel/reply.errBroken", "satchel/reply.errRefused", "satchel/reply.errLate", "satchel/reply.errReset", "satchel/reply.errClosed"] (by kernel_rfl) (by kernel_rfl)
theorem reads_row_tie : Rows.readsRow.laidByTextAt .later Tryz.pinned [.data, .handle, .sentinel, .sentinel, .sentinel, .sentinel, .sentinel, .sentinel, .sentinel, .sentinel, .sentinel, .sentinel, .sentinel, .sentinel, .sentinel, .sentinel, .sentinel, .sentinel, .sentinel, .pinned, .pinned] true :=
  OpenClaim.laidByTextAt_pinned rfl rfl tie rfl rfl rfl rfl (fun y hy _e => by
    simp only [Rows.readsRow, List.zip_cons_cons, List.zip_nil_right, List.mem_cons, List.mem_nil_iff, or_false] at hy
    rcases hy with rfl | rfl | rfl | rfl | rfl | rfl | rfl | rfl | rfl | rfl | rfl | rfl | rfl | rfl | rfl | rfl | rfl | rfl | rfl | rfl | rfl
    · cases _e
    · cases _e
    · cases _e
    · cases _e
    · cases _e
    · cases _e
    · cases _e
    · cases _e
    · cases _e
    · cases _e
    · cases _e
    · cases _e
    · cases _e
    · cases _e
    · cases _e
    · cases _e
    · cases _e
    · cases _e
    · cases _e
    · exact ⟨pin_laid_unicode_CaseRanges, by kernel_rfl⟩
    · exact ⟨pin_laid_unicode_utf8_first, by kernel_rfl⟩) fits1
theorem pieces_row_tie : Rows.piecesRow.laidByTextAt .later Tryz.pinned [.data, .handle, .sentinel, .sentinel, .sentinel, .sentinel, .sentinel, .sentinel, .sentinel, .sentinel, .sentinel, .sentinel, .sentinel, .sentinel, .sentinel, .sentinel, .sentinel, .sentinel, .sentinel, .pinned, .pinned] true :=
  OpenClaim.laidByTextAt_pinned rfl rfl tie rfl rfl rfl rfl (fun y hy _e => by
    simp only [Rows.piecesRow, List.zip_cons_cons, List.zip_nil_right, List.mem_cons, List.mem_nil_iff, or_false] at hy
    rcases hy with rfl | rfl | rfl | rfl | rfl | rfl | rfl | rfl | rfl | rfl | rfl | rfl | rfl | rfl | rfl | rfl | rfl | rfl | rfl | rfl | rfl
    · cases _e
    · cases _e
    · cases _e
    · cases _e
    · cases _e
    · cases _e
    · cases _e
    · cases _e
    · cases _e
    · cases _e
    · cases _e
    · cases _e
    · cases _e
    · cases _e
    · cases _e
    · cases _e
    · cases _e
    · cases _e
    · cases _e
    · exact ⟨pin_laid_unicode_CaseRanges, by kernel_rfl⟩
    · exact ⟨pin_laid_unicode_utf8_first, by kernel_rfl⟩) fits1
theorem readsUpto_row_tie : Rows.readsUptoRow.laidByTextAt .later Tryz.pinned [.data, .handle, .sentinel, .sentinel, .sentinel, .sentinel, .sentinel, .sentinel, .sentinel, .sentinel, .sentinel, .sentinel, .sentinel, .sentinel, .sentinel, .sentinel, .sentinel, .sentinel, .sentinel, .pinned, .pinned] true :=
  OpenClaim.laidByTextAt_pinned rfl rfl tie rfl rfl rfl rfl (fun y hy _e => by
    simp only [Rows.readsUptoRow, List.zip_cons_cons, List.zip_nil_right, List.mem_cons, List.mem_nil_iff, or_false] at hy
    rcases hy with rfl | rfl | rfl | rfl | rfl | rfl | rfl | rfl | rfl | rfl | rfl | rfl | rfl | rfl | rfl | rfl | rfl | rfl | rfl | rfl | rfl
    · cases _e
    · cases _e
    · cases _e
    · cases _e
    · cases _e
    · cases _e
    · cases _e
    · cases _e
    · cases _e
    · cases _e
    · cases _e
    · cases _e
    · cases _e
    · cases _e
    · cases _e
    · cases _e
    · cases _e
    · cases _e
    · cases _e
    · exact ⟨pin_laid_unicode_CaseRanges, by kernel_rfl⟩
    · exact ⟨pin_laid_unicode_utf8_first, by kernel_rfl⟩) fits1
theorem piecesUpto_row_tie : Rows.piecesUptoRow.laidByTextAt .later Tryz.pinned [.data, .handle, .sentinel, .sentinel, .sentinel, .sentinel, .sentinel, .sentinel, .sentinel, .sentinel, .sentinel, .sentinel, .sentinel, .sentinel, .sentinel, .sentinel, .sentinel, .sentinel, .sentinel, .pinned, .pinned] true :=
  OpenClaim.laidByTextAt_pinned rfl rfl tie rfl rfl rfl rfl (fun y hy _e => by
    simp only [Rows.piecesUptoRow, List.zip_cons_cons, List.zip_nil_right, List.mem_cons, List.mem_nil_iff, or_false] at hy
    rcases hy with rfl | rfl | rfl | rfl | rfl | rfl | rfl | rfl | rfl | rfl | rfl | rfl | rfl | rfl | rfl | rfl | rfl | rfl | rfl | rfl | rfl
    · cases _e
    · cases _e
    · cases _e
    · cases _e
    · cases _e
    · cases _e
    · cases _e
    · cases _e
    · cases _e
    · cases _e
    · cases _e
    · cases _e
    · cases _e
    · cases _e
    · cases _e
    · cases _e
    · cases _e
    · cases _e
    · cases _e
    · exact ⟨pin_laid_unicode_CaseRanges, by kernel_rfl⟩
    · exact ⟨pin_laid_unicode_utf8_first, by kernel_rfl⟩) fits1
end Go.Proofs.YtmodongnganbfaaGreatDoor
