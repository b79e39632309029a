/- Closed facts on the program: its package-level variables, the row of errors.New's type, the row of error. -/
import Derived.Test.YtaaocpaeajlpeaaGreatDoorRows
import Derived.ProofKit
import Derived.LaidMore
import Derived.Stop.LaidTwo
namespace Go.Proofs.YtaaocpaeajlpeaaGreatDoor.Facts
open Go.ChangeShapes Go.WideShapes Go.ChangeAt Go.RowKit

theorem own : ownKnob Tryz.prog.godebug = none := by kernel_rfl
theorem gName : Tryz.prog.globalNamed "satchel/names.ErrName" = some 0 := by kernel_rfl
theorem gVersion : Tryz.prog.globalNamed "satchel/names.ErrVersion" = some 1 := by kernel_rfl
theorem gByte : Tryz.prog.globalNamed "satchel/names.errByte" = some 3 := by kernel_rfl
theorem gEscape : Tryz.prog.globalNamed "satchel/names.errEscape" = some 4 := by kernel_rfl
theorem gType : Tryz.prog.globalNamed "errors.errorType" = some 5 := by kernel_rfl
theorem tName : (Tryz.prog.globals[0]?).map (·.type) = some 37 := by kernel_rfl
theorem tVersion : (Tryz.prog.globals[1]?).map (·.type) = some 37 := by kernel_rfl
theorem tByte : (Tryz.prog.globals[3]?).map (·.type) = some 37 := by kernel_rfl
theorem tEscape : (Tryz.prog.globals[4]?).map (·.type) = some 37 := by kernel_rfl
theorem star : "*errors.errorString" = "*" ++ "errors.errorString" := by decide
theorem rowE (u : TypeId) (h : Tryz.prog.typeName? 3 u = some "*errors.errorString") : u = 142 :=
  typeName_ptr_named (nm := "errors.errorString") (by kernel_rfl) (by kernel_rfl) (by decide) u (by rw [← star]; exact h)
theorem cellsE : Tryz.prog.cellsOf 161 = 1 := by kernel_rfl
theorem cellsS : Tryz.prog.cellsOf 9 = 1 := by kernel_rfl
theorem rt : (Tryz.prog.cutTypes.find? (·.1 == "internal/reflectlite.rtype")).map (·.2) = some 101 := by kernel_rfl
theorem oneRow : ((List.range 172).filter fun t => Tryz.prog.rowNamed t [101, 114, 114, 111, 114]) = [37] := by kernel_rfl
theorem nTypes : Tryz.prog.types.size = 172 := by kernel_rfl

theorem gEmpty : Tryz.prog.globalNamed "satchel/names.errEmpty" = some 6 := by kernel_rfl
theorem gLong : Tryz.prog.globalNamed "satchel/names.errLong" = some 2 := by kernel_rfl
theorem gZero : Tryz.prog.globalNamed "satchel/names.errZero" = some 10 := by kernel_rfl
theorem gShape : Tryz.prog.globalNamed "satchel/names.errShape" = some 8 := by kernel_rfl
theorem tEmpty : (Tryz.prog.globals[6]?).map (·.type) = some 37 := by kernel_rfl
theorem tLong : (Tryz.prog.globals[2]?).map (·.type) = some 37 := by kernel_rfl
theorem tZero : (Tryz.prog.globals[10]?).map (·.type) = some 37 := by kernel_rfl
theorem tShape : (Tryz.prog.globals[8]?).map (·.type) = some 37 := by kernel_rfl
end Go.Proofs.YtaaocpaeajlpeaaGreatDoor.Facts
