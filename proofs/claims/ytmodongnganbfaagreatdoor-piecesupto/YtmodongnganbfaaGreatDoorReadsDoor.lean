/- The start of the witness for satchellaw.Reads: the heap that the variables' own initialisers leave, and Go's two pinned tables laid beside. -/
import Derived.Test.YtmodongnganbfaaGreatDoorReadsLaid
import Derived.Lay
namespace Go.Proofs.YtmodongnganbfaaGreatDoor.ReadsP
open Go.ChangeShapes Go.WideShapes Go.ChangeAt Go.RowKit Go.Proofs.YtmodongnganbfaaGreatDoor Go.Proofs.YtmodongnganbfaaGreatDoor.Rep
def great : List String := ["unicode.CaseRanges", "unicode/utf8.first"]
/-- The laid variables but the handle. -/
def plainL : List (String × DataW Unit) := Rows.readsRow.laid.filter fun x => x.2.handleName?.isNone
noncomputable def door (os : Os) : World := World.doorLaid Tryz.prog 349 os
/-- The door's world with the two tables. -/
noncomputable def start (os : Os) : World := (door os).layVars Tryz.prog (plainL.filter fun x => great.contains x.1)
noncomputable def rest (os : Os) : List Nat := (List.range (door os).heap.size).filter fun b => b != 20 && b != 18
/-- The world in which the call begins. -/
noncomputable def begun (os : Os) : World := ((start os).forCall (fun _ _ => 0) ⟨#[], #[.agg #[.bool false, .slice none 0 0], .int .i64 0, .int .i64 0], []⟩).memory
set_option maxRecDepth 100000 in
theorem fits (os : Os) : (door os).layFits Tryz.prog (plainL.filter fun x => great.contains x.1) (rest os) = true := by kernel_rfl
set_option maxRecDepth 100000 in
theorem ifaces (os : Os) : (door os).layIfaces Tryz.prog (plainL.filter fun x => great.contains x.1) (begun os) = true := by kernel_rfl
set_option maxRecDepth 100000 in
theorem restIn (os : Os) : LaidIn Tryz.prog (begun os) (plainL.filter fun x => !great.contains x.1) (rest os) := LaidIn.of_run (rest os) 8 (by kernel_rfl) (by kernel_rfl) (by kernel_rfl) (by kernel_rfl)
theorem heapE (os : Os) : (begun os).heap = ((door os).layVars Tryz.prog (plainL.filter fun x => great.contains x.1)).heap := by
  show ((start os).forCall _ _).memory.heap = _
  simp [World.memory, World.forCall, Input.heap, start]
set_option maxRecDepth 100000 in
theorem door_met (os : Os) : laidMetH Tryz.prog Rows.readsRow.laid (begun os) :=
  laidMetH_of_parts3 (fuel := 8) (laidMet_layVars great (rest os) (heapE os) (fits os) (ifaces os) (restIn os)) (by kernel_rfl) (by kernel_rfl)
end Go.Proofs.YtmodongnganbfaaGreatDoor.ReadsP
