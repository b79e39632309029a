/-
  DERIVED. GIVEN WITH THE SEED: THE CARDS: each row of YtoeolaienpopfaaGreatDoorRows.lean that lists a variable, with what it lists TIED to the program's text (the seventh form; the later family's looks); each row that meets fmt, with fmt's text TOLD by the authors' own Lean function (tested against real Go, not proved from fmt's source: count such statements apart). THE CARD IS WHAT COUNTS. Prove the row's statement (the work); the ties are given (YtoeolaienpopfaaGreatDoorTie.lean); close each card by the builder's one call (the guide's Derived/Test/ToyasCard.lean, 'card_holds'). Laid BY PROGRAM, IN A SANDBOX (cutbox-door.mjs). By AI agents, Wed Nov 11 2026. No macro, syntax, notation, axiom, sorry.
-/
import Derived.Test.YtoeolaienpopfaaGreatDoorRows
import GoSem.ClaimSeven
namespace Go.Proofs.YtoeolaienpopfaaGreatDoor
namespace Rows

/-- THE TIED CARD OF 'satchellaw.Words'. -/
def wordsCard : Claim7 := { stood := { row := wordsRow, standIns := [], harness := (true, "5f239c8564c4732b3fc2a17e88c109ba205520d85307c4b36c723a5579c918f9"), looks := true }, kinds := [], alts := [], laidByText := true, laidKinds := [.data, .handle, .sentinel, .sentinel, .sentinel, .sentinel, .sentinel, .sentinel, .sentinel, .sentinel, .sentinel, .sentinel, .sentinel, .sentinel, .sentinel, .sentinel, .sentinel, .sentinel, .sentinel, .sentinel, .sentinel, .sentinel, .sentinel, .sentinel, .pinned], laidTests := true, laidLooks := .later }
def WordsCardSaid : Prop := Claim7.holds Tryz.pinned (.plain (OpenSpec.ofChange wordsSpec)) wordsCard

/-- THE SECOND FORM's CARD OF 'satchellaw.Words'. -/
def wordsUptoCard : Claim7 := { stood := { row := wordsUptoRow, standIns := [], harness := (true, "5f239c8564c4732b3fc2a17e88c109ba205520d85307c4b36c723a5579c918f9"), looks := true }, kinds := [], alts := [], laidByText := true, laidKinds := [.data, .handle, .sentinel, .sentinel, .sentinel, .sentinel, .sentinel, .sentinel, .sentinel, .sentinel, .sentinel, .sentinel, .sentinel, .sentinel, .sentinel, .sentinel, .sentinel, .sentinel, .sentinel, .sentinel, .sentinel, .sentinel, .sentinel, .sentinel, .pinned], laidTests := true, laidLooks := .later }
def WordsUptoCardSaid : Prop := Claim7.holds Tryz.pinned (.plain (OpenSpec.upto wordsSpec)) wordsUptoCard
end Rows
end Go.Proofs.YtoeolaienpopfaaGreatDoor
