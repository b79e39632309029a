/- satchellaw.Inflates answers true of every text and every number, and leaves them as they were: the card. Its conditions: the errors and the five tables that the program's text lays hold what it lays (tied by the card); a text has at most 2^47 - 4096 bytes (the form's own reach). -/
import Derived.Test.YtleaffoalilidaaDoorInflLaw
import Derived.Test.YtleaffoalilidaaDoorCards
import Derived.Test.YtleaffoalilidaaDoorTie
import Derived.ProofKit
import Derived.OpenShut
import Derived.LaidMore
import Derived.Stop.LaidTwo
import Derived.SizedLaws
import Derived.Lib.LaidTab
import Derived.Deep.DeepHandedRow
import Derived.Deep.DeepWitnessRowRef
namespace Go.Proofs.YtleaffoalilidaaDoor.InflP
open Go.ChangeShapes Go.WideShapes Go.ChangeAt Go.RowKit Go.Proofs.YtleaffoalilidaaDoor.Inf
open Go.ChangeMaps (open_string shut_string)

theorem own : ownKnob Tryd.prog.godebug = none := by kernel_rfl
theorem gType : Tryd.prog.globalNamed "errors.errorType" = some 8 := by kernel_rfl
theorem gErrArg : Tryd.prog.globalNamed "satchel/fault.ErrArg" = some 0 := by kernel_rfl
theorem tErrArg : (Tryd.prog.globals[0]?).map (·.type) = some 36 := by kernel_rfl
theorem gErrDeflate : Tryd.prog.globalNamed "satchel/deflate.ErrDeflate" = some 2 := by kernel_rfl
theorem tErrDeflate : (Tryd.prog.globals[2]?).map (·.type) = some 36 := by kernel_rfl
theorem gerrMost : Tryd.prog.globalNamed "satchel/deflate.errMost" = some 1 := by kernel_rfl
theorem terrMost : (Tryd.prog.globals[1]?).map (·.type) = some 36 := by kernel_rfl
theorem gerrShort : Tryd.prog.globalNamed "satchel/deflate.errShort" = some 19 := by kernel_rfl
theorem terrShort : (Tryd.prog.globals[19]?).map (·.type) = some 36 := by kernel_rfl
theorem gerrBehind : Tryd.prog.globalNamed "satchel/deflate.errBehind" = some 18 := by kernel_rfl
theorem terrBehind : (Tryd.prog.globals[18]?).map (·.type) = some 36 := by kernel_rfl
theorem gerrKind : Tryd.prog.globalNamed "satchel/deflate.errKind" = some 7 := by kernel_rfl
theorem terrKind : (Tryd.prog.globals[7]?).map (·.type) = some 36 := by kernel_rfl
theorem gerrStored : Tryd.prog.globalNamed "satchel/deflate.errStored" = some 9 := by kernel_rfl
theorem terrStored : (Tryd.prog.globals[9]?).map (·.type) = some 36 := by kernel_rfl
theorem gerrTooMany : Tryd.prog.globalNamed "satchel/deflate.errTooMany" = some 15 := by kernel_rfl
theorem terrTooMany : (Tryd.prog.globals[15]?).map (·.type) = some 36 := by kernel_rfl
theorem gerrLengths : Tryd.prog.globalNamed "satchel/deflate.errLengths" = some 17 := by kernel_rfl
theorem terrLengths : (Tryd.prog.globals[17]?).map (·.type) = some 36 := by kernel_rfl
theorem gerrNoEnd : Tryd.prog.globalNamed "satchel/deflate.errNoEnd" = some 16 := by kernel_rfl
theorem terrNoEnd : (Tryd.prog.globals[16]?).map (·.type) = some 36 := by kernel_rfl
theorem gerrRepeat : Tryd.prog.globalNamed "satchel/deflate.errRepeat" = some 23 := by kernel_rfl
theorem terrRepeat : (Tryd.prog.globals[23]?).map (·.type) = some 36 := by kernel_rfl
theorem gerrCode : Tryd.prog.globalNamed "satchel/deflate.errCode" = some 10 := by kernel_rfl
theorem terrCode : (Tryd.prog.globals[10]?).map (·.type) = some 36 := by kernel_rfl
theorem gerrDistance : Tryd.prog.globalNamed "satchel/deflate.errDistance" = some 21 := by kernel_rfl
theorem terrDistance : (Tryd.prog.globals[21]?).map (·.type) = some 36 := by kernel_rfl
theorem gerrLong : Tryd.prog.globalNamed "satchel/deflate.errLong" = some 20 := by kernel_rfl
theorem terrLong : (Tryd.prog.globals[20]?).map (·.type) = some 36 := by kernel_rfl
theorem gErrName : Tryd.prog.globalNamed "satchel/names.ErrName" = some 3 := by kernel_rfl
theorem tErrName : (Tryd.prog.globals[3]?).map (·.type) = some 36 := by kernel_rfl
theorem gErrVersion : Tryd.prog.globalNamed "satchel/names.ErrVersion" = some 4 := by kernel_rfl
theorem tErrVersion : (Tryd.prog.globals[4]?).map (·.type) = some 36 := by kernel_rfl
theorem gErrBundle : Tryd.prog.globalNamed "satchel/bundle.ErrBundle" = some 5 := by kernel_rfl
theorem tErrBundle : (Tryd.prog.globals[5]?).map (·.type) = some 36 := by kernel_rfl
theorem gErrInfo : Tryd.prog.globalNamed "satchel/info.ErrInfo" = some 6 := by kernel_rfl
theorem tErrInfo : (Tryd.prog.globals[6]?).map (·.type) = some 36 := by kernel_rfl
theorem gorder : Tryd.prog.globalNamed "satchel/deflate.order" = some 22 := by kernel_rfl
theorem torder : (Tryd.prog.globals[22]?).map (·.type) = some 130 := by kernel_rfl
theorem dorder : (Rows.laid_satchel_deflate_order : DataW Unit) = Lib.tabData .i64 (ordL.map fun n : Nat => (n : Int)) := by kernel_rfl
theorem glengthBase : Tryd.prog.globalNamed "satchel/deflate.lengthBase" = some 11 := by kernel_rfl
theorem tlengthBase : (Tryd.prog.globals[11]?).map (·.type) = some 106 := by kernel_rfl
theorem dlengthBase : (Rows.laid_satchel_deflate_lengthBase : DataW Unit) = Lib.tabData .i64 (lenBase.map fun n : Nat => (n : Int)) := by kernel_rfl
theorem glengthBits : Tryd.prog.globalNamed "satchel/deflate.lengthBits" = some 12 := by kernel_rfl
theorem tlengthBits : (Tryd.prog.globals[12]?).map (·.type) = some 106 := by kernel_rfl
theorem dlengthBits : (Rows.laid_satchel_deflate_lengthBits : DataW Unit) = Lib.tabData .i64 (lenBits.map fun n : Nat => (n : Int)) := by kernel_rfl
theorem gdistanceBase : Tryd.prog.globalNamed "satchel/deflate.distanceBase" = some 13 := by kernel_rfl
theorem tdistanceBase : (Tryd.prog.globals[13]?).map (·.type) = some 107 := by kernel_rfl
theorem ddistanceBase : (Rows.laid_satchel_deflate_distanceBase : DataW Unit) = Lib.tabData .i64 (disBase.map fun n : Nat => (n : Int)) := by kernel_rfl
theorem gdistanceBits : Tryd.prog.globalNamed "satchel/deflate.distanceBits" = some 14 := by kernel_rfl
theorem tdistanceBits : (Tryd.prog.globals[14]?).map (·.type) = some 107 := by kernel_rfl
theorem ddistanceBits : (Rows.laid_satchel_deflate_distanceBits : DataW Unit) = Lib.tabData .i64 (disBits.map fun n : Nat => (n : Int)) := by kernel_rfl
theorem c19 : Tryd.prog.cellsOf 130 = 19 := by kernel_rfl
theorem c29 : Tryd.prog.cellsOf 106 = 29 := by kernel_rfl
theorem c30 : Tryd.prog.cellsOf 107 = 30 := by kernel_rfl
theorem star : "*errors.errorString" = "*" ++ "errors.errorString" := by decide
theorem rowE (u : TypeId) (h : Tryd.prog.typeName? 3 u = some "*errors.errorString") : u = 131 :=
  typeName_ptr_named (nm := "errors.errorString") (by kernel_rfl) (by kernel_rfl) (by decide) u (by rw [← star]; exact h)
theorem cellsE : Tryd.prog.cellsOf 152 = 1 := by kernel_rfl
theorem cellsS : Tryd.prog.cellsOf 9 = 1 := by kernel_rfl
theorem rt : (Tryd.prog.cutTypes.find? (·.1 == "internal/reflectlite.rtype")).map (·.2) = some 112 := by kernel_rfl
theorem oneRow : ((List.range 164).filter fun t => Tryd.prog.rowNamed t [101, 114, 114, 111, 114]) = [36] := by kernel_rfl
theorem nTypes : Tryd.prog.types.size = 164 := by kernel_rfl

theorem cellsI : Tryd.prog.cellsOf 3 = 1 := by kernel_rfl
/-- Some of the laid variables, in their order. -/
theorem laidVars_sub {P : Program} {w : World} {l' l : List (String × DataW Unit)} (hs : l'.Sublist l) : ∀ {ps}, DataW.LaidVars P w l ps → ∃ ps', DataW.LaidVars P w l' ps' ∧ ps'.Sublist ps := by
  induction hs with
  | slnil => intro ps h; exact ⟨ps, h, List.Sublist.refl _⟩
  | cons x _ ih =>
    intro ps h
    obtain ⟨n, d⟩ := x
    obtain ⟨g, t, cs, fuel, p, q, _, _, _, _, hq, rfl⟩ := h
    obtain ⟨ps', h1, h2⟩ := ih hq
    exact ⟨ps', h1, h2.trans (List.sublist_append_right _ _)⟩
  | cons_cons x _ ih =>
    intro ps h
    obtain ⟨n, d⟩ := x
    obtain ⟨g, t, cs, fuel, p, q, e1, e2, e3, e4, hq, rfl⟩ := h
    obtain ⟨ps', h1, h2⟩ := ih hq
    exact ⟨_, ⟨g, t, cs, fuel, p, ps', e1, e2, e3, e4, h1, rfl⟩, (List.Sublist.refl _).append h2⟩
theorem laidMet_sub {P : Program} {w : World} {l' l : List (String × DataW Unit)} (hs : l'.Sublist l) (h : laidMet P l w) : laidMet P l' w := by
  obtain ⟨ps, hv, hnd, hrows⟩ := h
  obtain ⟨ps', h1, h2⟩ := laidVars_sub hs hv
  exact ⟨ps', h1, hnd.sublist h2, fun b off hm => hrows b off (h2.mem hm)⟩
/-- Two sentinels are different; each lies in a row of its own. -/
theorem two {W : World} {n0 n1 : String} {x0 x1 : List UInt8} {g0 g1 : Nat} {r : List (String × DataW Unit)} (h : laidMet Tryd.prog ((n0, .iface "*errors.errorString" (.ptr (.agg [.lit (.string x0)]))) :: (n1, .iface "*errors.errorString" (.ptr (.agg [.lit (.string x1)]))) :: r) W)
    (h0 : Tryd.prog.globalNamed n0 = some g0) (k0 : (Tryd.prog.globals[g0]?).map (·.type) = some 36) (h1 : Tryd.prog.globalNamed n1 = some g1) (k1 : (Tryd.prog.globals[g1]?).map (·.type) = some 36) :
    ∃ a0 a1 : Addr, W.cell? ⟨g0, 0, none⟩ = some (.iface 131 (.pointer (some a0))) ∧ W.cell? ⟨g1, 0, none⟩ = some (.iface 131 (.pointer (some a1))) ∧ a0 ≠ a1 ∧ (∃ c t, W.heap[a0.block]? = some (.cells c t (0, 0))) ∧ ∃ c t, W.heap[a1.block]? = some (.cells c t (0, 0)) := by
  obtain ⟨a0, a1, s0, s1, c0, c1, t0, t1, hv0, hv1, _, _, _, _, _, _, hne, hb0, hb1⟩ := laid_sentinels2 h h0 k0 h1 k1 Tryd.underlying36 rowE Tryd.underlying131 Tryd.underlying152 rfl rfl Tryd.underlying9 cellsE cellsS
  exact ⟨a0, a1, by simpa using World.var?_cell h0 hv0 0, by simpa using World.var?_cell h1 hv1 0, hne, ⟨_, _, hb0⟩, ⟨_, _, hb1⟩⟩
theorem ne_of {W : World} {n0 n1 : String} {x0 x1 : List UInt8} {g0 g1 : Nat} {r : List (String × DataW Unit)} {a0 a1 : Addr} (h : laidMet Tryd.prog ((n0, .iface "*errors.errorString" (.ptr (.agg [.lit (.string x0)]))) :: (n1, .iface "*errors.errorString" (.ptr (.agg [.lit (.string x1)]))) :: r) W)
    (h0 : Tryd.prog.globalNamed n0 = some g0) (k0 : (Tryd.prog.globals[g0]?).map (·.type) = some 36) (h1 : Tryd.prog.globalNamed n1 = some g1) (k1 : (Tryd.prog.globals[g1]?).map (·.type) = some 36)
    (c0 : W.cell? ⟨g0, 0, none⟩ = some (.iface 131 (.pointer (some a0)))) (c1 : W.cell? ⟨g1, 0, none⟩ = some (.iface 131 (.pointer (some a1)))) : a0 ≠ a1 := by
  obtain ⟨b0, b1, e0, e1, hne, _, _⟩ := two h h0 k0 h1 k1
  rw [c0] at e0; rw [c1] at e1
  injection e0 with e0; injection e0 with _ e0; injection e0 with e0; injection e0 with e0
  injection e1 with e1; injection e1 with _ e1; injection e1 with e1; injection e1 with e1
  subst e0; subst e1; exact hne
theorem tab_cell {W : World} {name : String} {l : List Nat} {g : Nat} (h : Lib.TabIs Tryd.prog W name .i64 (l.map fun n : Nat => (n : Int))) (hg : Tryd.prog.globalNamed name = some g) (j x : Nat) (hj : l[j]? = some x) : W.cell? ⟨g, j, none⟩ = some (.int .i64 ((x : Nat) : Int)) := by
  have hjl := (List.getElem?_eq_some_iff.1 hj).1
  rw [h.cell hg j (by rw [List.length_map]; exact hjl)]
  rw [List.getD_eq_getElem?_getD, List.getElem?_map, hj]; rfl
/-- What the list of laid variables gives the walks. -/
theorem of_laid {W : World} (h : laidMetH Tryd.prog Rows.inflatesRow.laid W) : (∃ ad, Sent ad W) ∧ DefW W ∧ Tabs W ∧ (∃ x, W.cell? ⟨1, 0, none⟩ = some (.iface 131 x)) ∧ 24 ≤ W.heap.size := by
  have h' : laidMet Tryd.prog [("satchel/fault.ErrArg", Rows.laid_satchel_fault_ErrArg), ("satchel/deflate.lengthBase", Rows.laid_satchel_deflate_lengthBase), ("satchel/deflate.lengthBits", Rows.laid_satchel_deflate_lengthBits), ("satchel/deflate.distanceBase", Rows.laid_satchel_deflate_distanceBase), ("satchel/deflate.distanceBits", Rows.laid_satchel_deflate_distanceBits), ("satchel/deflate.order", Rows.laid_satchel_deflate_order), ("satchel/deflate.ErrDeflate", Rows.laid_satchel_deflate_ErrDeflate), ("satchel/deflate.errMost", Rows.laid_satchel_deflate_errMost), ("satchel/deflate.errShort", Rows.laid_satchel_deflate_errShort), ("satchel/deflate.errBehind", Rows.laid_satchel_deflate_errBehind), ("satchel/deflate.errKind", Rows.laid_satchel_deflate_errKind), ("satchel/deflate.errStored", Rows.laid_satchel_deflate_errStored), ("satchel/deflate.errTooMany", Rows.laid_satchel_deflate_errTooMany), ("satchel/deflate.errLengths", Rows.laid_satchel_deflate_errLengths), ("satchel/deflate.errNoEnd", Rows.laid_satchel_deflate_errNoEnd), ("satchel/deflate.errRepeat", Rows.laid_satchel_deflate_errRepeat), ("satchel/deflate.errCode", Rows.laid_satchel_deflate_errCode), ("satchel/deflate.errDistance", Rows.laid_satchel_deflate_errDistance), ("satchel/deflate.errLong", Rows.laid_satchel_deflate_errLong), ("satchel/names.ErrName", Rows.laid_satchel_names_ErrName), ("satchel/names.ErrVersion", Rows.laid_satchel_names_ErrVersion), ("satchel/bundle.ErrBundle", Rows.laid_satchel_bundle_ErrBundle), ("satchel/info.ErrInfo", Rows.laid_satchel_info_ErrInfo)] W ∧ handlesMet Tryd.prog [("errors.errorType", Rows.laid_errors_errorType)] W := h
  obtain ⟨hd, hh⟩ := h'
  obtain ⟨a0, a3, c0, c3, n0_3, r0, r3⟩ := two (laidMet_sub (l' := [("satchel/fault.ErrArg", Rows.laid_satchel_fault_ErrArg), ("satchel/deflate.ErrDeflate", Rows.laid_satchel_deflate_ErrDeflate)]) (by repeat (first | exact List.nil_sublist _ | apply List.Sublist.cons_cons | apply List.Sublist.cons)) hd) gErrArg tErrArg gErrDeflate tErrDeflate
  obtain ⟨a1, a2, c1, c2, n1_2, r1, r2⟩ := two (laidMet_sub (l' := [("satchel/names.ErrName", Rows.laid_satchel_names_ErrName), ("satchel/names.ErrVersion", Rows.laid_satchel_names_ErrVersion)]) (by repeat (first | exact List.nil_sublist _ | apply List.Sublist.cons_cons | apply List.Sublist.cons)) hd) gErrName tErrName gErrVersion tErrVersion
  obtain ⟨a4, a5, c4, c5, n4_5, r4, r5⟩ := two (laidMet_sub (l' := [("satchel/bundle.ErrBundle", Rows.laid_satchel_bundle_ErrBundle), ("satchel/info.ErrInfo", Rows.laid_satchel_info_ErrInfo)]) (by repeat (first | exact List.nil_sublist _ | apply List.Sublist.cons_cons | apply List.Sublist.cons)) hd) gErrBundle tErrBundle gErrInfo tErrInfo
  have n0_1 := ne_of (laidMet_sub (l' := [("satchel/fault.ErrArg", Rows.laid_satchel_fault_ErrArg), ("satchel/names.ErrName", Rows.laid_satchel_names_ErrName)]) (by repeat (first | exact List.nil_sublist _ | apply List.Sublist.cons_cons | apply List.Sublist.cons)) hd) gErrArg tErrArg gErrName tErrName c0 c1
  have n0_2 := ne_of (laidMet_sub (l' := [("satchel/fault.ErrArg", Rows.laid_satchel_fault_ErrArg), ("satchel/names.ErrVersion", Rows.laid_satchel_names_ErrVersion)]) (by repeat (first | exact List.nil_sublist _ | apply List.Sublist.cons_cons | apply List.Sublist.cons)) hd) gErrArg tErrArg gErrVersion tErrVersion c0 c2
  have n0_4 := ne_of (laidMet_sub (l' := [("satchel/fault.ErrArg", Rows.laid_satchel_fault_ErrArg), ("satchel/bundle.ErrBundle", Rows.laid_satchel_bundle_ErrBundle)]) (by repeat (first | exact List.nil_sublist _ | apply List.Sublist.cons_cons | apply List.Sublist.cons)) hd) gErrArg tErrArg gErrBundle tErrBundle c0 c4
  have n0_5 := ne_of (laidMet_sub (l' := [("satchel/fault.ErrArg", Rows.laid_satchel_fault_ErrArg), ("satchel/info.ErrInfo", Rows.laid_satchel_info_ErrInfo)]) (by repeat (first | exact List.nil_sublist _ | apply List.Sublist.cons_cons | apply List.Sublist.cons)) hd) gErrArg tErrArg gErrInfo tErrInfo c0 c5
  have n3_1 := ne_of (laidMet_sub (l' := [("satchel/deflate.ErrDeflate", Rows.laid_satchel_deflate_ErrDeflate), ("satchel/names.ErrName", Rows.laid_satchel_names_ErrName)]) (by repeat (first | exact List.nil_sublist _ | apply List.Sublist.cons_cons | apply List.Sublist.cons)) hd) gErrDeflate tErrDeflate gErrName tErrName c3 c1
  have n1_4 := ne_of (laidMet_sub (l' := [("satchel/names.ErrName", Rows.laid_satchel_names_ErrName), ("satchel/bundle.ErrBundle", Rows.laid_satchel_bundle_ErrBundle)]) (by repeat (first | exact List.nil_sublist _ | apply List.Sublist.cons_cons | apply List.Sublist.cons)) hd) gErrName tErrName gErrBundle tErrBundle c1 c4
  have n1_5 := ne_of (laidMet_sub (l' := [("satchel/names.ErrName", Rows.laid_satchel_names_ErrName), ("satchel/info.ErrInfo", Rows.laid_satchel_info_ErrInfo)]) (by repeat (first | exact List.nil_sublist _ | apply List.Sublist.cons_cons | apply List.Sublist.cons)) hd) gErrName tErrName gErrInfo tErrInfo c1 c5
  have n3_2 := ne_of (laidMet_sub (l' := [("satchel/deflate.ErrDeflate", Rows.laid_satchel_deflate_ErrDeflate), ("satchel/names.ErrVersion", Rows.laid_satchel_names_ErrVersion)]) (by repeat (first | exact List.nil_sublist _ | apply List.Sublist.cons_cons | apply List.Sublist.cons)) hd) gErrDeflate tErrDeflate gErrVersion tErrVersion c3 c2
  have n2_4 := ne_of (laidMet_sub (l' := [("satchel/names.ErrVersion", Rows.laid_satchel_names_ErrVersion), ("satchel/bundle.ErrBundle", Rows.laid_satchel_bundle_ErrBundle)]) (by repeat (first | exact List.nil_sublist _ | apply List.Sublist.cons_cons | apply List.Sublist.cons)) hd) gErrVersion tErrVersion gErrBundle tErrBundle c2 c4
  have n2_5 := ne_of (laidMet_sub (l' := [("satchel/names.ErrVersion", Rows.laid_satchel_names_ErrVersion), ("satchel/info.ErrInfo", Rows.laid_satchel_info_ErrInfo)]) (by repeat (first | exact List.nil_sublist _ | apply List.Sublist.cons_cons | apply List.Sublist.cons)) hd) gErrVersion tErrVersion gErrInfo tErrInfo c2 c5
  have n3_4 := ne_of (laidMet_sub (l' := [("satchel/deflate.ErrDeflate", Rows.laid_satchel_deflate_ErrDeflate), ("satchel/bundle.ErrBundle", Rows.laid_satchel_bundle_ErrBundle)]) (by repeat (first | exact List.nil_sublist _ | apply List.Sublist.cons_cons | apply List.Sublist.cons)) hd) gErrDeflate tErrDeflate gErrBundle tErrBundle c3 c4
  have n3_5 := ne_of (laidMet_sub (l' := [("satchel/deflate.ErrDeflate", Rows.laid_satchel_deflate_ErrDeflate), ("satchel/info.ErrInfo", Rows.laid_satchel_info_ErrInfo)]) (by repeat (first | exact List.nil_sublist _ | apply List.Sublist.cons_cons | apply List.Sublist.cons)) hd) gErrDeflate tErrDeflate gErrInfo tErrInfo c3 c5
  obtain ⟨x0, x1, qerrMost, qerrShort, _, _, _⟩ := two (laidMet_sub (l' := [("satchel/deflate.errMost", Rows.laid_satchel_deflate_errMost), ("satchel/deflate.errShort", Rows.laid_satchel_deflate_errShort)]) (by repeat (first | exact List.nil_sublist _ | apply List.Sublist.cons_cons | apply List.Sublist.cons)) hd) gerrMost terrMost gerrShort terrShort
  obtain ⟨x2, x3, qerrBehind, qerrKind, _, _, _⟩ := two (laidMet_sub (l' := [("satchel/deflate.errBehind", Rows.laid_satchel_deflate_errBehind), ("satchel/deflate.errKind", Rows.laid_satchel_deflate_errKind)]) (by repeat (first | exact List.nil_sublist _ | apply List.Sublist.cons_cons | apply List.Sublist.cons)) hd) gerrBehind terrBehind gerrKind terrKind
  obtain ⟨x4, x5, qerrStored, qerrTooMany, _, _, _⟩ := two (laidMet_sub (l' := [("satchel/deflate.errStored", Rows.laid_satchel_deflate_errStored), ("satchel/deflate.errTooMany", Rows.laid_satchel_deflate_errTooMany)]) (by repeat (first | exact List.nil_sublist _ | apply List.Sublist.cons_cons | apply List.Sublist.cons)) hd) gerrStored terrStored gerrTooMany terrTooMany
  obtain ⟨x6, x7, qerrLengths, qerrNoEnd, _, _, _⟩ := two (laidMet_sub (l' := [("satchel/deflate.errLengths", Rows.laid_satchel_deflate_errLengths), ("satchel/deflate.errNoEnd", Rows.laid_satchel_deflate_errNoEnd)]) (by repeat (first | exact List.nil_sublist _ | apply List.Sublist.cons_cons | apply List.Sublist.cons)) hd) gerrLengths terrLengths gerrNoEnd terrNoEnd
  obtain ⟨x8, x9, qerrRepeat, qerrCode, _, _, _⟩ := two (laidMet_sub (l' := [("satchel/deflate.errRepeat", Rows.laid_satchel_deflate_errRepeat), ("satchel/deflate.errCode", Rows.laid_satchel_deflate_errCode)]) (by repeat (first | exact List.nil_sublist _ | apply List.Sublist.cons_cons | apply List.Sublist.cons)) hd) gerrRepeat terrRepeat gerrCode terrCode
  obtain ⟨x10, x11, qerrDistance, qerrLong, _, _, _⟩ := two (laidMet_sub (l' := [("satchel/deflate.errDistance", Rows.laid_satchel_deflate_errDistance), ("satchel/deflate.errLong", Rows.laid_satchel_deflate_errLong)]) (by repeat (first | exact List.nil_sublist _ | apply List.Sublist.cons_cons | apply List.Sublist.cons)) hd) gerrDistance terrDistance gerrLong terrLong
  have horder := laidMet_sub (l' := [("satchel/deflate.order", Rows.laid_satchel_deflate_order)]) (by repeat (first | exact List.nil_sublist _ | apply List.Sublist.cons_cons | apply List.Sublist.cons)) hd
  rw [dorder] at horder
  have iorder := Lib.tabIs_of_head gorder torder Tryd.underlying130 Tryd.underlying3 cellsI c19 horder
  have hlengthBase := laidMet_sub (l' := [("satchel/deflate.lengthBase", Rows.laid_satchel_deflate_lengthBase)]) (by repeat (first | exact List.nil_sublist _ | apply List.Sublist.cons_cons | apply List.Sublist.cons)) hd
  rw [dlengthBase] at hlengthBase
  have ilengthBase := Lib.tabIs_of_head glengthBase tlengthBase Tryd.underlying106 Tryd.underlying3 cellsI c29 hlengthBase
  have hlengthBits := laidMet_sub (l' := [("satchel/deflate.lengthBits", Rows.laid_satchel_deflate_lengthBits)]) (by repeat (first | exact List.nil_sublist _ | apply List.Sublist.cons_cons | apply List.Sublist.cons)) hd
  rw [dlengthBits] at hlengthBits
  have ilengthBits := Lib.tabIs_of_head glengthBits tlengthBits Tryd.underlying106 Tryd.underlying3 cellsI c29 hlengthBits
  have hdistanceBase := laidMet_sub (l' := [("satchel/deflate.distanceBase", Rows.laid_satchel_deflate_distanceBase)]) (by repeat (first | exact List.nil_sublist _ | apply List.Sublist.cons_cons | apply List.Sublist.cons)) hd
  rw [ddistanceBase] at hdistanceBase
  have idistanceBase := Lib.tabIs_of_head gdistanceBase tdistanceBase Tryd.underlying107 Tryd.underlying3 cellsI c30 hdistanceBase
  have hdistanceBits := laidMet_sub (l' := [("satchel/deflate.distanceBits", Rows.laid_satchel_deflate_distanceBits)]) (by repeat (first | exact List.nil_sublist _ | apply List.Sublist.cons_cons | apply List.Sublist.cons)) hd
  rw [ddistanceBits] at hdistanceBits
  have idistanceBits := Lib.tabIs_of_head gdistanceBits tdistanceBits Tryd.underlying107 Tryd.underlying3 cellsI c30 hdistanceBits
  obtain ⟨name, u, ty, e1, e2, e3, e4, e5⟩ := hh _ (List.mem_singleton.2 rfl)
  have en : name = [101, 114, 114, 111, 114] := (Option.some.inj e1).symm
  subst en
  obtain rfl := Option.some.inj (rt.symm.trans e2)
  have hm : ty ∈ (List.range 164).filter fun t => Tryd.prog.rowNamed t [101, 114, 114, 111, 114] := List.mem_filter.2 ⟨List.mem_range.2 (by rw [← nTypes]; exact e3), e4⟩
  rw [oneRow] at hm
  obtain rfl := List.mem_singleton.1 hm
  have hth : typeHandle Tryd.prog 36 = .pointer (some ⟨24, 36, none⟩) := by kernel_rfl
  rw [hth] at e5
  refine ⟨⟨fun i => match i with | 0 => a0 | 1 => a1 | 2 => a2 | 3 => a3 | 4 => a4 | _ => a5, ⟨c0, c1, c2, c3, c4, c5, by simpa using World.var?_cell gType e5 0, ?_, ?_⟩⟩, ⟨⟨_, qerrShort⟩, ⟨_, qerrLong⟩, ⟨_, qerrBehind⟩, ⟨_, qerrStored⟩, ⟨_, qerrKind⟩, ⟨_, qerrCode⟩, ⟨_, qerrTooMany⟩, ⟨_, qerrLengths⟩, ⟨_, qerrNoEnd⟩, ⟨_, qerrRepeat⟩, ⟨_, qerrDistance⟩⟩, ⟨fun j x hj => tab_cell iorder gorder j x hj, fun j x hj => tab_cell ilengthBase glengthBase j x hj, fun j x hj => tab_cell ilengthBits glengthBits j x hj, fun j x hj => tab_cell idistanceBase gdistanceBase j x hj, fun j x hj => tab_cell idistanceBits gdistanceBits j x hj⟩, ⟨_, qerrMost⟩, ?_⟩
  · intro i j hi hj hij
    have ei : i = 0 ∨ i = 1 ∨ i = 2 ∨ i = 3 ∨ i = 4 ∨ i = 5 := by omega
    have ej : j = 0 ∨ j = 1 ∨ j = 2 ∨ j = 3 ∨ j = 4 ∨ j = 5 := by omega
    rcases ei with rfl | rfl | rfl | rfl | rfl | rfl <;> rcases ej with rfl | rfl | rfl | rfl | rfl | rfl <;> first
      | exact absurd rfl hij
      | exact n0_3 | exact n1_2 | exact n4_5 | exact n0_1 | exact n0_2 | exact n0_4 | exact n0_5 | exact n3_1 | exact n1_4 | exact n1_5 | exact n3_2 | exact n2_4 | exact n2_5 | exact n3_4 | exact n3_5
      | exact n0_3.symm | exact n1_2.symm | exact n4_5.symm | exact n0_1.symm | exact n0_2.symm | exact n0_4.symm | exact n0_5.symm | exact n3_1.symm | exact n1_4.symm | exact n1_5.symm | exact n3_2.symm | exact n2_4.symm | exact n2_5.symm | exact n3_4.symm | exact n3_5.symm
  · intro i hi
    have ei : i = 0 ∨ i = 1 ∨ i = 2 ∨ i = 3 ∨ i = 4 ∨ i = 5 := by omega
    rcases ei with rfl | rfl | rfl | rfl | rfl | rfl
    · exact r0
    · exact r1
    · exact r2
    · exact r3
    · exact r4
    · exact r5
  · have k4 : 23 < W.heap.size := lt_of_cell qerrRepeat
    have k5 : 6 < W.heap.size := lt_of_cell c5
    omega
set_option maxRecDepth 100000 in
theorem contract (H : Type) (enc : TypeId × Value → H) (W : World) (base : Nat) (args : Array Value) (ds gs : List (DataW H)) (before : List MemPlace)
    (hval : ∀ (j : Nat) t v, Tryd.f3.params[j]? = some t → args[j]? = some v → Value.okWide Tryd.prog W .any base t v)
    (hW : DataW.Whole enc Tryd.prog Tryd.f3.params.toList Rows.inflatesSpec.vars false W args.toList ds gs before)
    (hsz : (DataW.weightsEach Tryd.prog (Tryd.f3.params.toList ++ (OpenSpec.ofChange Rows.inflatesSpec).bare.plain.varTypes Tryd.prog) (ds ++ gs)).all (· ≤ reachBytes) = true) (hL : laidMetH Tryd.prog Rows.inflatesRow.laid W) :
    Calls Tryd.prog 3 args W fun e W' => ∃ v, e = .returned v ∧ Rows.inflatesSpec.post enc Tryd.prog Tryd.f3 false true false false W args v W' := by
  have hW' := hW
  obtain ⟨p, q, hA0, hV, rfl, hfz, hnd⟩ := hW
  have hA : DataW.TrodAll enc Tryd.prog W 0 (fun _ => true) true Tryd.f3.params.toList args.toList ds p := hA0
  rw [Tryd.params3] at hA hval hsz
  obtain ⟨v0, v1, d0, d1, p0, p1, rfl, rfl, rfl, h0, h1⟩ := trodAll_two hA
  obtain ⟨rfl, rfl⟩ := trodVars_none hV
  obtain ⟨s, rfl, rfl, rfl, hs⟩ := open_string Tryd.underlying9 (hval 0 9 v0 rfl rfl) h0
  obtain ⟨m, rfl, rfl, rfl, hm⟩ := open_int Tryd.underlying3 (hval 1 3 v1 rfl rfl) h1
  clear hA0
  have hb : s.size ≤ 140737488351232 := by
    have h := sized_string hsz (j := 0) (t := 9) (bytes := s.data.toList) rfl rfl
    have e : s.data.toList.length = s.size := by simp
    unfold reachBytes at h
    omega
  simp only [List.append_nil] at hW'
  obtain ⟨⟨ad, hS⟩, hD, hT, hE, hg0⟩ := of_laid hL
  refine (inflates_law s m ad W hS hD hT hE hg0 (by omega)).mono fun e W' ⟨he, hg⟩ => ?_
  subst he
  refine ⟨_, rfl, _, _, _, [], [], [], hW', ?_, ?_, ?_, hg.frame _, fun h => by cases h⟩
  · exact trodAll_mk1 (shut_bool Tryd.underlying4 _)
  · exact trodAll_mk2 (shut_string Tryd.underlying9 hs) (shut_int Tryd.underlying3 hm)
  · rfl

/-- The start of the witness: the heap that the variables' own initialisers leave; the text is empty and the number 0. -/
theorem door_met (os : Os) : laidMetH Tryd.prog Rows.inflatesRow.laid ((World.doorLaid Tryd.prog 383 os).forCall (fun _ _ => 0) ⟨#[], #[.string ⟨#[]⟩, .int .i64 0], []⟩).memory :=
  laidMetH_of_parts3 (fuel := 40) (laidMet_of_run' 40 (by kernel_rfl) (by kernel_rfl)) (by kernel_rfl) (by kernel_rfl)
theorem reads (os : Os) {H : Type} (enc : TypeId × Value → H) : ∃ places, DataW.whole enc Tryd.prog ((World.doorLaid Tryd.prog 383 os).forCall (fun _ _ => 0) ⟨#[], #[.string ⟨#[]⟩, .int .i64 0], []⟩).memory Tryd.f3.params.toList Rows.inflatesSpec.vars false #[Value.string ⟨#[]⟩, Value.int .i64 0].toList 8 = some ([.lit (.string []), .lit (.int .i64 0)], [], places) :=
  ⟨[], by kernel_rfl⟩

set_option maxRecDepth 100000 in
theorem lifted (os : Os) (started : os.Started) (H : Type) (enc : TypeId × Value → H) (F : Stop.Interp) :
    ReturnsInHanded {} Tryd.checked os 3 .any ((OpenSpec.ofChange Rows.inflatesSpec).preRow enc Tryd.prog Tryd.f3 Rows.inflatesRow.domain false Rows.inflatesRow.laid) (((OpenSpec.ofChange Rows.inflatesSpec).at F).post enc Tryd.prog Tryd.f3 false true false false) := by
  obtain ⟨places, hx⟩ := reads os enc
  refine returnsInHanded_of_row (C := Tryd.checked) (s := OpenSpec.ofChange Rows.inflatesSpec) own started (by kernel_rfl) Tryd.func3
    (witness_row_atRef (enc := enc) (C := Tryd.checked) false (World.doorLaid Tryd.prog 383 os) #[.string ⟨#[]⟩, .int .i64 0] rfl (by kernel_rfl) (by kernel_rfl) (by kernel_rfl)
      (OpenSpec.preRow_of_cond 8 hx (by kernel_rfl) (fun k hk => by cases hk) (by kernel_rfl) (door_met os))) ?_
  intro W base args ds gs before hval hW _ _ hsz hL _ _
  exact contract H enc W base args ds gs before hval hW hsz hL

theorem said : Rows.InflatesSaid :=
  OpenClaim.holds_of_cond 3 Tryd.f3 rfl rfl rfl rfl rfl rfl rfl ⟨rfl, rfl, rfl, rfl, rfl⟩ rfl rfl rfl rfl rfl (by kernel_rfl) Tryd.func3 (by kernel_rfl)
    (of_decide_eq_true (by kernel_rfl)) (by unfold Func.isWrapper; first | (rw [if_pos (by decide +kernel)]; kernel_rfl) | (rw [if_neg (by decide +kernel)]; exact ⟨rfl, rfl⟩))
    (fun os started H enc _ F => by rw [OpenClaim.pre_eq_preRow]; exact lifted os started H enc F)

/-- No parameter wants a stand-in. -/
theorem plain (f : FuncId) (fn : Func) (hf : Tryd.pinned.checked.prog.funcNamed "satchel/satchellaw.Inflates" = some f) (hfn : Tryd.pinned.checked.prog.funcs[f]? = some fn) :
    true = Tryd.pinned.checked.prog.looks [] ∧ ∀ (j : Nat) t, fn.params[j]? = some t → Tryd.pinned.checked.prog.wantsStandIn t = false := by
  obtain rfl : f = 3 := Option.some.inj ((show Tryd.prog.funcNamed "satchel/satchellaw.Inflates" = some 3 by kernel_rfl).symm.trans hf) |>.symm
  obtain rfl : fn = Tryd.f3 := (Option.some.inj (Tryd.func3.symm.trans hfn)).symm
  refine ⟨by kernel_rfl, fun j t ht => ?_⟩
  rw [Tryd.params3] at ht
  have hm : t ∈ [9, 3] := by simpa using Array.mem_of_getElem? ht
  have hm2 : t = 9 ∨ t = 3 := by simpa using hm
  rcases hm2 with rfl | rfl
  · exact (show Tryd.prog.wantsStandIn 9 = false by kernel_rfl)
  · exact (show Tryd.prog.wantsStandIn 3 = false by kernel_rfl)
end Go.Proofs.YtleaffoalilidaaDoor.InflP
namespace Go.Proofs.YtleaffoalilidaaDoor
/-- THE CARD. -/
theorem inflates_card : Rows.InflatesCardSaid :=
  Claim7.holds_tied_plain_at .later [] _ _ _ _ InflP.said (fun _ h => by cases h) (by kernel_rfl) (fun _ h => by cases h) inflates_row_tie rfl ⟨rfl, rfl⟩ (by kernel_rfl) rfl InflP.plain (by kernel_rfl)
end Go.Proofs.YtleaffoalilidaaDoor
