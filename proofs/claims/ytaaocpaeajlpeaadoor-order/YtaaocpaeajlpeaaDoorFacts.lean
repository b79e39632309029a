/- Closed facts on the program: its package-level variables, the row of errors.New's type, the row of error. -/
import Derived.Test.YtaaocpaeajlpeaaDoorRows
import Derived.ProofKit
import Derived.LaidMore
import Derived.Stop.LaidTwo
namespace Go.Proofs.YtaaocpaeajlpeaaDoor.Facts
open Go.ChangeShapes Go.WideShapes Go.ChangeAt Go.RowKit

theorem own : ownKnob Tryd.prog.godebug = none := by kernel_rfl
theorem gName : Tryd.prog.globalNamed "satchel/names.ErrName" = some 0 := by kernel_rfl
theorem gVersion : Tryd.prog.globalNamed "satchel/names.ErrVersion" = some 1 := by kernel_rfl
theorem gByte : Tryd.prog.globalNamed "satchel/names.errByte" = some 2 := by kernel_rfl
theorem gEscape : Tryd.prog.globalNamed "satchel/names.errEscape" = some 3 := by kernel_rfl
theorem gType : Tryd.prog.globalNamed "errors.errorType" = some 4 := by kernel_rfl
theorem tName : (Tryd.prog.globals[0]?).map (·.type) = some 33 := by kernel_rfl
theorem tVersion : (Tryd.prog.globals[1]?).map (·.type) = some 33 := by kernel_rfl
theorem tByte : (Tryd.prog.globals[2]?).map (·.type) = some 33 := by kernel_rfl
theorem tEscape : (Tryd.prog.globals[3]?).map (·.type) = some 33 := by kernel_rfl
theorem star : "*errors.errorString" = "*" ++ "errors.errorString" := by decide
theorem rowE (u : TypeId) (h : Tryd.prog.typeName? 3 u = some "*errors.errorString") : u = 130 :=
  typeName_ptr_named (nm := "errors.errorString") (by kernel_rfl) (by kernel_rfl) (by decide) u (by rw [← star]; exact h)
theorem cellsE : Tryd.prog.cellsOf 149 = 1 := by kernel_rfl
theorem cellsS : Tryd.prog.cellsOf 9 = 1 := by kernel_rfl
theorem rt : (Tryd.prog.cutTypes.find? (·.1 == "internal/reflectlite.rtype")).map (·.2) = some 83 := by kernel_rfl
theorem oneRow : ((List.range 160).filter fun t => Tryd.prog.rowNamed t [101, 114, 114, 111, 114]) = [33] := by kernel_rfl
theorem nTypes : Tryd.prog.types.size = 160 := by kernel_rfl

theorem gEmpty : Tryd.prog.globalNamed "satchel/names.errEmpty" = some 7 := by kernel_rfl
theorem gLong : Tryd.prog.globalNamed "satchel/names.errLong" = some 5 := by kernel_rfl
theorem gZero : Tryd.prog.globalNamed "satchel/names.errZero" = some 8 := by kernel_rfl
theorem gShape : Tryd.prog.globalNamed "satchel/names.errShape" = some 6 := by kernel_rfl
theorem tEmpty : (Tryd.prog.globals[7]?).map (·.type) = some 33 := by kernel_rfl
theorem tLong : (Tryd.prog.globals[5]?).map (·.type) = some 33 := by kernel_rfl
theorem tZero : (Tryd.prog.globals[8]?).map (·.type) = some 33 := by kernel_rfl
theorem tShape : (Tryd.prog.globals[6]?).map (·.type) = some 33 := by kernel_rfl
end Go.Proofs.YtaaocpaeajlpeaaDoor.Facts
