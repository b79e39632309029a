/- satchelkeep.AsIs answers true of every text and every list of raw numbers, together of at most some 2^20 pieces, and leaves them as they were: the card of the second form. -/
import Derived.Test.YtolaljcinbkkhaaDoorAsIsLaw
import Derived.Test.YtolaljcinbkkhaaDoorCards
import Derived.Test.YtolaljcinbkkhaaDoorTie
import Derived.ProofKit
import Derived.OpenShut
import Derived.LaidMore
import Derived.Stop.LaidTwo
import Derived.Deep.DeepHandedRow
import Derived.Deep.DeepWitnessRowRef
namespace Go.Proofs.YtolaljcinbkkhaaDoor.AsIsP
open Go.ChangeShapes Go.WideShapes Go.ChangeAt Go.RowKit Go.Proofs.YtolaljcinbkkhaaDoor.Inf Go.Proofs.YtolaljcinbkkhaaDoor.Keep
open Go.ChangeMaps (open_string shut_string)

theorem own : ownKnob Tryd.prog.godebug = none := by kernel_rfl
theorem laidOut : laidOutB Tryd.prog = true := by kernel_rfl
theorem gType : Tryd.prog.globalNamed "errors.errorType" = some 7 := by kernel_rfl
theorem gArg : Tryd.prog.globalNamed "satchel/fault.ErrArg" = some 0 := by kernel_rfl
theorem tArg : (Tryd.prog.globals[0]?).map (·.type) = some 36 := by kernel_rfl
theorem gDeflate : Tryd.prog.globalNamed "satchel/deflate.ErrDeflate" = some 2 := by kernel_rfl
theorem tDeflate : (Tryd.prog.globals[2]?).map (·.type) = some 36 := by kernel_rfl
theorem gName : Tryd.prog.globalNamed "satchel/names.ErrName" = some 3 := by kernel_rfl
theorem tName : (Tryd.prog.globals[3]?).map (·.type) = some 36 := by kernel_rfl
theorem gVersion : Tryd.prog.globalNamed "satchel/names.ErrVersion" = some 4 := by kernel_rfl
theorem tVersion : (Tryd.prog.globals[4]?).map (·.type) = some 36 := by kernel_rfl
theorem gBundle : Tryd.prog.globalNamed "satchel/bundle.ErrBundle" = some 5 := by kernel_rfl
theorem tBundle : (Tryd.prog.globals[5]?).map (·.type) = some 36 := by kernel_rfl
theorem gRepeat : Tryd.prog.globalNamed "satchel/deflate.errRepeat" = some 22 := by kernel_rfl
theorem tRepeat : (Tryd.prog.globals[22]?).map (·.type) = some 36 := by kernel_rfl
theorem gShort : Tryd.prog.globalNamed "satchel/deflate.errShort" = some 18 := by kernel_rfl
theorem tShort : (Tryd.prog.globals[18]?).map (·.type) = some 36 := by kernel_rfl
theorem gLong : Tryd.prog.globalNamed "satchel/deflate.errLong" = some 19 := by kernel_rfl
theorem tLong : (Tryd.prog.globals[19]?).map (·.type) = some 36 := by kernel_rfl
theorem gBehind : Tryd.prog.globalNamed "satchel/deflate.errBehind" = some 17 := by kernel_rfl
theorem tBehind : (Tryd.prog.globals[17]?).map (·.type) = some 36 := by kernel_rfl
theorem gStored : Tryd.prog.globalNamed "satchel/deflate.errStored" = some 8 := by kernel_rfl
theorem tStored : (Tryd.prog.globals[8]?).map (·.type) = some 36 := by kernel_rfl
theorem gKind : Tryd.prog.globalNamed "satchel/deflate.errKind" = some 6 := by kernel_rfl
theorem tKind : (Tryd.prog.globals[6]?).map (·.type) = some 36 := by kernel_rfl
theorem gCode : Tryd.prog.globalNamed "satchel/deflate.errCode" = some 9 := by kernel_rfl
theorem tCode : (Tryd.prog.globals[9]?).map (·.type) = some 36 := by kernel_rfl
theorem star : "*errors.errorString" = "*" ++ "errors.errorString" := by decide
theorem rowE (u : TypeId) (h : Tryd.prog.typeName? 3 u = some "*errors.errorString") : u = 131 :=
  typeName_ptr_named (nm := "errors.errorString") (by kernel_rfl) (by kernel_rfl) (by decide) u (by rw [← star]; exact h)
theorem cellsE : Tryd.prog.cellsOf 152 = 1 := by kernel_rfl
theorem cellsS : Tryd.prog.cellsOf 9 = 1 := by kernel_rfl
theorem rt : (Tryd.prog.cutTypes.find? (·.1 == "internal/reflectlite.rtype")).map (·.2) = some 112 := by kernel_rfl
theorem oneRow : ((List.range 164).filter fun t => Tryd.prog.rowNamed t [101, 114, 114, 111, 114]) = [36] := by kernel_rfl
theorem nTypes : Tryd.prog.types.size = 164 := by kernel_rfl

theorem cellsI : Tryd.prog.cellsOf 3 = 1 := by kernel_rfl
/-- Some of the laid variables, in their order. -/
theorem laidVars_sub {P : Program} {w : World} {l' l : List (String × DataW Unit)} (hs : l'.Sublist l) : ∀ {ps}, DataW.LaidVars P w l ps → ∃ ps', DataW.LaidVars P w l' ps' ∧ ps'.Sublist ps := by
  induction hs with
  | slnil => intro ps h; exact ⟨ps, h, List.Sublist.refl _⟩
  | cons x _ ih =>
    intro ps h
    obtain ⟨n, d⟩ := x
    obtain ⟨g, t, cs, fuel, p, q, _, _, _, _, hq, rfl⟩ := h
    obtain ⟨ps', h1, h2⟩ := ih hq
    exact ⟨ps', h1, h2.trans (List.sublist_append_right _ _)⟩
  | cons_cons x _ ih =>
    intro ps h
    obtain ⟨n, d⟩ := x
    obtain ⟨g, t, cs, fuel, p, q, e1, e2, e3, e4, hq, rfl⟩ := h
    obtain ⟨ps', h1, h2⟩ := ih hq
    exact ⟨_, ⟨g, t, cs, fuel, p, ps', e1, e2, e3, e4, h1, rfl⟩, (List.Sublist.refl _).append h2⟩
theorem laidMet_sub {P : Program} {w : World} {l' l : List (String × DataW Unit)} (hs : l'.Sublist l) (h : laidMet P l w) : laidMet P l' w := by
  obtain ⟨ps, hv, hnd, hrows⟩ := h
  obtain ⟨ps', h1, h2⟩ := laidVars_sub hs hv
  exact ⟨ps', h1, hnd.sublist h2, fun b off hm => hrows b off (h2.mem hm)⟩
/-- Two sentinels are different; each lies in a row of its own. -/
theorem two {W : World} {n0 n1 : String} {x0 x1 : List UInt8} {g0 g1 : Nat} {r : List (String × DataW Unit)} (h : laidMet Tryd.prog ((n0, .iface "*errors.errorString" (.ptr (.agg [.lit (.string x0)]))) :: (n1, .iface "*errors.errorString" (.ptr (.agg [.lit (.string x1)]))) :: r) W)
    (h0 : Tryd.prog.globalNamed n0 = some g0) (k0 : (Tryd.prog.globals[g0]?).map (·.type) = some 36) (h1 : Tryd.prog.globalNamed n1 = some g1) (k1 : (Tryd.prog.globals[g1]?).map (·.type) = some 36) :
    ∃ a0 a1 : Addr, W.cell? ⟨g0, 0, none⟩ = some (.iface 131 (.pointer (some a0))) ∧ W.cell? ⟨g1, 0, none⟩ = some (.iface 131 (.pointer (some a1))) ∧ a0 ≠ a1 ∧ (∃ c t, W.heap[a0.block]? = some (.cells c t (0, 0))) ∧ ∃ c t, W.heap[a1.block]? = some (.cells c t (0, 0)) := by
  obtain ⟨a0, a1, s0, s1, c0, c1, t0, t1, hv0, hv1, _, _, _, _, _, _, hne, hb0, hb1⟩ := laid_sentinels2 h h0 k0 h1 k1 Tryd.underlying36 rowE Tryd.underlying131 Tryd.underlying152 rfl rfl Tryd.underlying9 cellsE cellsS
  exact ⟨a0, a1, by simpa using World.var?_cell h0 hv0 0, by simpa using World.var?_cell h1 hv1 0, hne, ⟨_, _, hb0⟩, ⟨_, _, hb1⟩⟩
theorem ne_of {W : World} {n0 n1 : String} {x0 x1 : List UInt8} {g0 g1 : Nat} {r : List (String × DataW Unit)} {a0 a1 : Addr} (h : laidMet Tryd.prog ((n0, .iface "*errors.errorString" (.ptr (.agg [.lit (.string x0)]))) :: (n1, .iface "*errors.errorString" (.ptr (.agg [.lit (.string x1)]))) :: r) W)
    (h0 : Tryd.prog.globalNamed n0 = some g0) (k0 : (Tryd.prog.globals[g0]?).map (·.type) = some 36) (h1 : Tryd.prog.globalNamed n1 = some g1) (k1 : (Tryd.prog.globals[g1]?).map (·.type) = some 36)
    (c0 : W.cell? ⟨g0, 0, none⟩ = some (.iface 131 (.pointer (some a0)))) (c1 : W.cell? ⟨g1, 0, none⟩ = some (.iface 131 (.pointer (some a1)))) : a0 ≠ a1 := by
  obtain ⟨b0, b1, e0, e1, hne, _, _⟩ := two h h0 k0 h1 k1
  rw [c0] at e0; rw [c1] at e1
  injection e0 with e0; injection e0 with _ e0; injection e0 with e0; injection e0 with e0
  injection e1 with e1; injection e1 with _ e1; injection e1 with e1; injection e1 with e1
  subst e0; subst e1; exact hne
/-- What the list of laid variables gives the walks. -/
theorem of_laid {W : World} (h : laidMetH Tryd.prog Rows.asIsUptoRow.laid W) : (∃ ad, Sent ad W) ∧ DefW W ∧ 23 ≤ W.heap.size := by
  have h' : laidMet Tryd.prog [("satchel/fault.ErrArg", Rows.laid_satchel_fault_ErrArg), ("satchel/deflate.lengthBase", Rows.laid_satchel_deflate_lengthBase), ("satchel/deflate.lengthBits", Rows.laid_satchel_deflate_lengthBits), ("satchel/deflate.distanceBase", Rows.laid_satchel_deflate_distanceBase), ("satchel/deflate.distanceBits", Rows.laid_satchel_deflate_distanceBits), ("satchel/deflate.order", Rows.laid_satchel_deflate_order), ("satchel/deflate.ErrDeflate", Rows.laid_satchel_deflate_ErrDeflate), ("satchel/deflate.errMost", Rows.laid_satchel_deflate_errMost), ("satchel/deflate.errShort", Rows.laid_satchel_deflate_errShort), ("satchel/deflate.errBehind", Rows.laid_satchel_deflate_errBehind), ("satchel/deflate.errKind", Rows.laid_satchel_deflate_errKind), ("satchel/deflate.errStored", Rows.laid_satchel_deflate_errStored), ("satchel/deflate.errTooMany", Rows.laid_satchel_deflate_errTooMany), ("satchel/deflate.errLengths", Rows.laid_satchel_deflate_errLengths), ("satchel/deflate.errNoEnd", Rows.laid_satchel_deflate_errNoEnd), ("satchel/deflate.errRepeat", Rows.laid_satchel_deflate_errRepeat), ("satchel/deflate.errCode", Rows.laid_satchel_deflate_errCode), ("satchel/deflate.errDistance", Rows.laid_satchel_deflate_errDistance), ("satchel/deflate.errLong", Rows.laid_satchel_deflate_errLong), ("satchel/names.ErrName", Rows.laid_satchel_names_ErrName), ("satchel/names.ErrVersion", Rows.laid_satchel_names_ErrVersion), ("satchel/bundle.ErrBundle", Rows.laid_satchel_bundle_ErrBundle)] W ∧ handlesMet Tryd.prog [("errors.errorType", Rows.laid_errors_errorType)] W := h
  obtain ⟨hd, hh⟩ := h'
  obtain ⟨a0, a3, c0, c3, n03, r0, r3⟩ := two (laidMet_sub (l' := [("satchel/fault.ErrArg", Rows.laid_satchel_fault_ErrArg), ("satchel/deflate.ErrDeflate", Rows.laid_satchel_deflate_ErrDeflate)]) (by repeat (first | exact List.nil_sublist _ | apply List.Sublist.cons_cons | apply List.Sublist.cons)) hd) gArg tArg gDeflate tDeflate
  obtain ⟨a1, a2, c1, c2, n12, r1, r2⟩ := two (laidMet_sub (l' := [("satchel/names.ErrName", Rows.laid_satchel_names_ErrName), ("satchel/names.ErrVersion", Rows.laid_satchel_names_ErrVersion)]) (by repeat (first | exact List.nil_sublist _ | apply List.Sublist.cons_cons | apply List.Sublist.cons)) hd) gName tName gVersion tVersion
  obtain ⟨a0', a4, c0', c4, _, _, r4⟩ := two (laidMet_sub (l' := [("satchel/fault.ErrArg", Rows.laid_satchel_fault_ErrArg), ("satchel/bundle.ErrBundle", Rows.laid_satchel_bundle_ErrBundle)]) (by repeat (first | exact List.nil_sublist _ | apply List.Sublist.cons_cons | apply List.Sublist.cons)) hd) gArg tArg gBundle tBundle
  have n01 := ne_of (laidMet_sub (l' := [("satchel/fault.ErrArg", Rows.laid_satchel_fault_ErrArg), ("satchel/names.ErrName", Rows.laid_satchel_names_ErrName)]) (by repeat (first | exact List.nil_sublist _ | apply List.Sublist.cons_cons | apply List.Sublist.cons)) hd) gArg tArg gName tName c0 c1
  have n02 := ne_of (laidMet_sub (l' := [("satchel/fault.ErrArg", Rows.laid_satchel_fault_ErrArg), ("satchel/names.ErrVersion", Rows.laid_satchel_names_ErrVersion)]) (by repeat (first | exact List.nil_sublist _ | apply List.Sublist.cons_cons | apply List.Sublist.cons)) hd) gArg tArg gVersion tVersion c0 c2
  have n04 := ne_of (laidMet_sub (l' := [("satchel/fault.ErrArg", Rows.laid_satchel_fault_ErrArg), ("satchel/bundle.ErrBundle", Rows.laid_satchel_bundle_ErrBundle)]) (by repeat (first | exact List.nil_sublist _ | apply List.Sublist.cons_cons | apply List.Sublist.cons)) hd) gArg tArg gBundle tBundle c0 c4
  have n31 := ne_of (laidMet_sub (l' := [("satchel/deflate.ErrDeflate", Rows.laid_satchel_deflate_ErrDeflate), ("satchel/names.ErrName", Rows.laid_satchel_names_ErrName)]) (by repeat (first | exact List.nil_sublist _ | apply List.Sublist.cons_cons | apply List.Sublist.cons)) hd) gDeflate tDeflate gName tName c3 c1
  have n32 := ne_of (laidMet_sub (l' := [("satchel/deflate.ErrDeflate", Rows.laid_satchel_deflate_ErrDeflate), ("satchel/names.ErrVersion", Rows.laid_satchel_names_ErrVersion)]) (by repeat (first | exact List.nil_sublist _ | apply List.Sublist.cons_cons | apply List.Sublist.cons)) hd) gDeflate tDeflate gVersion tVersion c3 c2
  have n34 := ne_of (laidMet_sub (l' := [("satchel/deflate.ErrDeflate", Rows.laid_satchel_deflate_ErrDeflate), ("satchel/bundle.ErrBundle", Rows.laid_satchel_bundle_ErrBundle)]) (by repeat (first | exact List.nil_sublist _ | apply List.Sublist.cons_cons | apply List.Sublist.cons)) hd) gDeflate tDeflate gBundle tBundle c3 c4
  have n14 := ne_of (laidMet_sub (l' := [("satchel/names.ErrName", Rows.laid_satchel_names_ErrName), ("satchel/bundle.ErrBundle", Rows.laid_satchel_bundle_ErrBundle)]) (by repeat (first | exact List.nil_sublist _ | apply List.Sublist.cons_cons | apply List.Sublist.cons)) hd) gName tName gBundle tBundle c1 c4
  have n24 := ne_of (laidMet_sub (l' := [("satchel/names.ErrVersion", Rows.laid_satchel_names_ErrVersion), ("satchel/bundle.ErrBundle", Rows.laid_satchel_bundle_ErrBundle)]) (by repeat (first | exact List.nil_sublist _ | apply List.Sublist.cons_cons | apply List.Sublist.cons)) hd) gVersion tVersion gBundle tBundle c2 c4
  obtain ⟨d0, d1, q0, q1, _, _, _⟩ := two (laidMet_sub (l' := [("satchel/deflate.errShort", Rows.laid_satchel_deflate_errShort), ("satchel/deflate.errBehind", Rows.laid_satchel_deflate_errBehind)]) (by repeat (first | exact List.nil_sublist _ | apply List.Sublist.cons_cons | apply List.Sublist.cons)) hd) gShort tShort gBehind tBehind
  obtain ⟨d2, d3, q2, q3, _, _, _⟩ := two (laidMet_sub (l' := [("satchel/deflate.errKind", Rows.laid_satchel_deflate_errKind), ("satchel/deflate.errStored", Rows.laid_satchel_deflate_errStored)]) (by repeat (first | exact List.nil_sublist _ | apply List.Sublist.cons_cons | apply List.Sublist.cons)) hd) gKind tKind gStored tStored
  obtain ⟨d4, d5, q4, q5, _, _, _⟩ := two (laidMet_sub (l' := [("satchel/deflate.errCode", Rows.laid_satchel_deflate_errCode), ("satchel/deflate.errLong", Rows.laid_satchel_deflate_errLong)]) (by repeat (first | exact List.nil_sublist _ | apply List.Sublist.cons_cons | apply List.Sublist.cons)) hd) gCode tCode gLong tLong
  obtain ⟨d6, d7, q6, q7, _, _, _⟩ := two (laidMet_sub (l' := [("satchel/deflate.errRepeat", Rows.laid_satchel_deflate_errRepeat), ("satchel/deflate.errCode", Rows.laid_satchel_deflate_errCode)]) (by repeat (first | exact List.nil_sublist _ | apply List.Sublist.cons_cons | apply List.Sublist.cons)) hd) gRepeat tRepeat gCode tCode
  obtain ⟨name, u, ty, e1, e2, e3, e4, e5⟩ := hh _ (List.mem_singleton.2 rfl)
  have en : name = [101, 114, 114, 111, 114] := (Option.some.inj e1).symm
  subst en
  obtain rfl := Option.some.inj (rt.symm.trans e2)
  have hm : ty ∈ (List.range 164).filter fun t => Tryd.prog.rowNamed t [101, 114, 114, 111, 114] := List.mem_filter.2 ⟨List.mem_range.2 (by rw [← nTypes]; exact e3), e4⟩
  rw [oneRow] at hm
  obtain rfl := List.mem_singleton.1 hm
  have hth : typeHandle Tryd.prog 36 = .pointer (some ⟨23, 36, none⟩) := by kernel_rfl
  rw [hth] at e5
  refine ⟨⟨fun i => match i with | 0 => a0 | 1 => a1 | 2 => a2 | 3 => a3 | _ => a4, ⟨c0, c1, c2, c3, c4, by simpa using World.var?_cell gType e5 0, ?_, ?_⟩⟩, ⟨⟨_, q0⟩, ⟨_, q5⟩, ⟨_, q1⟩, ⟨_, q3⟩, ⟨_, q2⟩, ⟨_, q4⟩⟩, ?_⟩
  · intro i j hi hj hij
    have ei : i = 0 ∨ i = 1 ∨ i = 2 ∨ i = 3 ∨ i = 4 := by omega
    have ej : j = 0 ∨ j = 1 ∨ j = 2 ∨ j = 3 ∨ j = 4 := by omega
    rcases ei with rfl | rfl | rfl | rfl | rfl <;> rcases ej with rfl | rfl | rfl | rfl | rfl <;> first
      | exact absurd rfl hij
      | exact n03 | exact n12 | exact n01 | exact n02 | exact n04 | exact n31 | exact n32 | exact n34 | exact n14 | exact n24
      | exact n03.symm | exact n12.symm | exact n01.symm | exact n02.symm | exact n04.symm | exact n31.symm | exact n32.symm | exact n34.symm | exact n14.symm | exact n24.symm
  · intro i hi
    have ei : i = 0 ∨ i = 1 ∨ i = 2 ∨ i = 3 ∨ i = 4 := by omega
    rcases ei with rfl | rfl | rfl | rfl | rfl
    · exact r0
    · exact r1
    · exact r2
    · exact r3
    · exact r4
  · have k4 : 22 < W.heap.size := lt_of_cell q6
    omega
theorem bulk_lits {H : Type} (zs : List Int) : zs.length ≤ Rows.uptoBulkAll (lits (H := H) .i64 zs) := by
  induction zs with
  | nil => simp
  | cons z zs ih => 
    show _ ≤ Rows.uptoBulk (DataW.lit (.int .i64 z)) + Rows.uptoBulkAll (lits (H := H) .i64 zs)
    have : Rows.uptoBulk (H := H) (DataW.lit (.int .i64 z)) = 1 := rfl
    simp; omega

set_option maxRecDepth 100000 in
theorem contract (H : Type) (enc : TypeId × Value → H) (W : World) (base : Nat) (args : Array Value) (ds gs : List (DataW H)) (before : List MemPlace)
    (hval : ∀ (j : Nat) t v, Tryd.f4.params[j]? = some t → args[j]? = some v → Value.okWide Tryd.prog W .any base t v)
    (hW : DataW.Whole enc Tryd.prog Tryd.f4.params.toList Rows.asIsSpec.vars false W args.toList ds gs before) (hk : Rows.uptoSmall H (ds ++ gs) = true) (hL : laidMetH Tryd.prog Rows.asIsUptoRow.laid W) :
    Calls Tryd.prog 4 args W fun e W' => ∃ v, e = .returned v ∧ Rows.asIsSpec.post enc Tryd.prog Tryd.f4 false true false false W args v W' := by
  have hW' := hW
  obtain ⟨p, q, hA0, hV, rfl, hfz, hnd⟩ := hW
  have hA : DataW.TrodAll enc Tryd.prog W 0 (fun _ => true) true Tryd.f4.params.toList args.toList ds p := hA0
  rw [Tryd.params4] at hA hval
  obtain ⟨v0, v1, d0, d1, p0, p1, rfl, rfl, rfl, h0, h1⟩ := trodAll_two hA
  obtain ⟨rfl, rfl⟩ := trodVars_none hV
  obtain ⟨s, rfl, rfl, rfl, hs⟩ := open_string Tryd.underlying9 (hval 0 9 v0 rfl rfl) h0
  obtain ⟨ra, n, cap, rfl⟩ := okWide_slice Tryd.underlying29 (hval 1 29 v1 rfl rfl)
  clear hA0
  have h1k := h1
  obtain ⟨fuel, hf⟩ := h1
  simp only [List.append_nil, List.nil_append] at hW'
  have hlt : ∀ x ∈ p1, x.block < W.heap.size := fun x hx => by simpa using hW'.lt x hx
  have hargs : ∀ (W' : World), Below W.heap.size W W' → DataW.Trod enc Tryd.prog W' 0 (fun b => decide (b < W.heap.size)) true 29 (.slice ra n cap) d1 p1 :=
    fun W' hn => Below.trod laidOut (by kernel_rfl) (of_decide_eq_true (by kernel_rfl)) h1k hn hlt
  have hk' := of_decide_eq_true hk
  simp only [List.append_nil, Rows.uptoBulkAll, Rows.uptoBulk] at hk'
  have hsl : s.data.toList.length = s.size := by simp
  have hfact : n ≤ 1048579 ∧ RawAt W ra n := by
    rcases open_ints Tryd.underlying29 Tryd.underlying3 cellsI hf with ⟨hcs, hx⟩ | ⟨a, len', cap', zs, hcs, _, hl, hm, hz, hx, hcell, hwz⟩
    · simp [Value.cells] at hcs
      obtain ⟨rfl, rfl, rfl⟩ := hcs
      exact ⟨by omega, fun h => by omega⟩
    · simp [Value.cells] at hcs
      obtain ⟨rfl, rfl, rfl⟩ := hcs
      simp only [Prod.mk.injEq] at hx
      obtain ⟨rfl, rfl⟩ := hx
      simp only [if_true] at hz
      simp only [Rows.uptoBulk] at hk'
      have hb := bulk_lits (H := H) (zs.take n)
      rw [List.length_take] at hb
      refine ⟨by omega, fun hpos => ?_⟩
      obtain ⟨b, off, spot⟩ := a
      have hspot : spot = none := by simpa [Addr.add] using World.cell?_spot (hcell 0 (by omega))
      subst hspot
      refine ⟨b, off, rfl, fun j hj => ⟨zs.getD j 0, ?_, ?_, by rw [← add_plain]; exact hcell j (by omega)⟩⟩
      all_goals
        have hmem : zs.getD j 0 ∈ zs := by
          have hj' : j < zs.length := by omega
          rw [List.getD_eq_getElem?_getD, List.getElem?_eq_getElem hj']; exact List.getElem_mem hj'
        have h5 := hwz _ hmem
        have e1 : IntKind.i64.min = -9223372036854775808 := rfl
        have e2 : IntKind.i64.max = 9223372036854775807 := rfl
        simp [Lit.wf, e1, e2] at h5
        simp at h5 ⊢
        omega
  obtain ⟨⟨ad, hS⟩, hD, hg0⟩ := of_laid hL
  refine (asIs_law s ra n cap ad W hS hD hg0 (by omega) hfact.1 hfact.2).mono fun e W' ⟨he, hg⟩ => ?_
  subst he
  refine ⟨_, rfl, _, _, _, [], [] ++ p1, [], hW', ?_, ?_, ?_, hg.frame _, fun h => by cases h⟩
  · exact trodAll_mk1 (shut_bool Tryd.underlying4 _)
  · exact trodAll_mk2 (shut_string Tryd.underlying9 hs) (hargs _ hg)
  · rfl

/-- The start of the witness: the heap that the variables' own initialisers leave; the text is empty. -/
theorem door_met (os : Os) : laidMetH Tryd.prog Rows.asIsUptoRow.laid ((World.doorLaid Tryd.prog 364 os).forCall (fun _ _ => 0) ⟨#[], #[.string ⟨#[]⟩, .slice none 0 0], []⟩).memory :=
  laidMetH_of_parts3 (fuel := 8) (laidMet_of_run' 8 (by kernel_rfl) (by kernel_rfl)) (by kernel_rfl) (by kernel_rfl)
theorem reads (os : Os) {H : Type} (enc : TypeId × Value → H) : ∃ places, DataW.whole enc Tryd.prog ((World.doorLaid Tryd.prog 364 os).forCall (fun _ _ => 0) ⟨#[], #[.string ⟨#[]⟩, .slice none 0 0], []⟩).memory Tryd.f4.params.toList Rows.asIsSpec.vars false #[Value.string ⟨#[]⟩, Value.slice none 0 0].toList 8 = some ([.lit (.string []), .nil], [], places) :=
  ⟨[], by kernel_rfl⟩

set_option maxRecDepth 100000 in
theorem liftedUpto (os : Os) (started : os.Started) (H : Type) (enc : TypeId × Value → H) (F : Stop.Interp) :
    ReturnsInHanded {} Tryd.checked os 4 .any ((Rows.OpenSpec.upto Rows.asIsSpec).preRow enc Tryd.prog Tryd.f4 Rows.asIsUptoRow.domain false Rows.asIsUptoRow.laid) (((Rows.OpenSpec.upto Rows.asIsSpec).at F).post enc Tryd.prog Tryd.f4 false true false false) := by
  obtain ⟨places, hx⟩ := reads os enc
  refine returnsInHanded_of_row (C := Tryd.checked) (s := Rows.OpenSpec.upto Rows.asIsSpec) own started (by kernel_rfl) Tryd.func4
    (witness_row_atRef (enc := enc) (C := Tryd.checked) false (World.doorLaid Tryd.prog 364 os) #[.string ⟨#[]⟩, .slice none 0 0] rfl (by kernel_rfl) (by kernel_rfl) (by kernel_rfl)
      (OpenSpec.preRow_of_cond 8 hx (by kernel_rfl) (fun k hk => by cases hk; kernel_rfl) (by kernel_rfl) (door_met os))) ?_
  intro W base args ds gs before hval hW _ hcond _ hL _ _
  exact contract H enc W base args ds gs before hval hW (hcond _ rfl) hL

theorem saidUpto : Rows.AsIsUptoSaid :=
  OpenClaim.holds_of_cond 4 Tryd.f4 rfl rfl rfl rfl rfl rfl rfl ⟨rfl, rfl, rfl, rfl, rfl⟩ rfl rfl rfl rfl rfl (by kernel_rfl) Tryd.func4 (by kernel_rfl)
    (of_decide_eq_true (by kernel_rfl)) (by unfold Func.isWrapper; first | (rw [if_pos (by decide +kernel)]; kernel_rfl) | (rw [if_neg (by decide +kernel)]; exact ⟨rfl, rfl⟩))
    (fun os started H enc _ F => by rw [OpenClaim.pre_eq_preRow]; exact liftedUpto os started H enc F)

/-- No parameter wants a stand-in. -/
theorem plain (f : FuncId) (fn : Func) (hf : Tryd.pinned.checked.prog.funcNamed "satchel/satchelkeep.AsIs" = some f) (hfn : Tryd.pinned.checked.prog.funcs[f]? = some fn) :
    true = Tryd.pinned.checked.prog.looks [] ∧ ∀ (j : Nat) t, fn.params[j]? = some t → Tryd.pinned.checked.prog.wantsStandIn t = false := by
  obtain rfl : f = 4 := Option.some.inj ((show Tryd.prog.funcNamed "satchel/satchelkeep.AsIs" = some 4 by kernel_rfl).symm.trans hf) |>.symm
  obtain rfl : fn = Tryd.f4 := (Option.some.inj (Tryd.func4.symm.trans hfn)).symm
  refine ⟨by kernel_rfl, fun j t ht => ?_⟩
  rw [Tryd.params4] at ht
  have hm : t ∈ [9, 29] := by simpa using Array.mem_of_getElem? ht
  have hm2 : t = 9 ∨ t = 29 := by simpa using hm
  rcases hm2 with rfl | rfl
  · exact (show Tryd.prog.wantsStandIn 9 = false by kernel_rfl)
  · exact (show Tryd.prog.wantsStandIn 29 = false by kernel_rfl)
end Go.Proofs.YtolaljcinbkkhaaDoor.AsIsP
namespace Go.Proofs.YtolaljcinbkkhaaDoor
/-- THE CARD OF THE SECOND FORM. -/
theorem asIs_upto_card : Rows.AsIsUptoCardSaid :=
  Claim7.holds_tied_plain_at .later [] _ _ _ _ AsIsP.saidUpto (fun _ h => by cases h) (by kernel_rfl) (fun _ h => by cases h) asIsUpto_row_tie rfl ⟨rfl, rfl⟩ (by kernel_rfl) rfl AsIsP.plain (by kernel_rfl)
end Go.Proofs.YtolaljcinbkkhaaDoor
