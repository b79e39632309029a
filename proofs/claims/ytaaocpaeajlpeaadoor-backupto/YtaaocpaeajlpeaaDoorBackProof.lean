/- satchelkeep.Back answers true of every text of at most some 2^20 bytes, and leaves it as it was: the card of the second form. -/
import Derived.Test.YtaaocpaeajlpeaaDoorBack
import Derived.Test.YtaaocpaeajlpeaaDoorCards
import Derived.Test.YtaaocpaeajlpeaaDoorTie
import Derived.ProofKit
import Derived.OpenShut
import Derived.LaidMore
import Derived.Stop.LaidTwo
import Derived.Deep.DeepHandedRow
import Derived.Deep.DeepWitnessRowRef
namespace Go.Proofs.YtaaocpaeajlpeaaDoor.BackP
open Go.ChangeShapes Go.WideShapes Go.ChangeAt Go.RowKit
open Go.ChangeMaps (open_string shut_string)

theorem own : ownKnob Tryd.prog.godebug = none := by kernel_rfl
theorem gName : Tryd.prog.globalNamed "satchel/names.ErrName" = some 0 := by kernel_rfl
theorem gVersion : Tryd.prog.globalNamed "satchel/names.ErrVersion" = some 1 := by kernel_rfl
theorem gByte : Tryd.prog.globalNamed "satchel/names.errByte" = some 2 := by kernel_rfl
theorem gEscape : Tryd.prog.globalNamed "satchel/names.errEscape" = some 3 := by kernel_rfl
theorem gType : Tryd.prog.globalNamed "errors.errorType" = some 4 := by kernel_rfl
theorem tName : (Tryd.prog.globals[0]?).map (·.type) = some 33 := by kernel_rfl
theorem tVersion : (Tryd.prog.globals[1]?).map (·.type) = some 33 := by kernel_rfl
theorem tByte : (Tryd.prog.globals[2]?).map (·.type) = some 33 := by kernel_rfl
theorem tEscape : (Tryd.prog.globals[3]?).map (·.type) = some 33 := by kernel_rfl
theorem star : "*errors.errorString" = "*" ++ "errors.errorString" := by decide
theorem rowE (u : TypeId) (h : Tryd.prog.typeName? 3 u = some "*errors.errorString") : u = 130 :=
  typeName_ptr_named (nm := "errors.errorString") (by kernel_rfl) (by kernel_rfl) (by decide) u (by rw [← star]; exact h)
theorem cellsE : Tryd.prog.cellsOf 149 = 1 := by kernel_rfl
theorem cellsS : Tryd.prog.cellsOf 9 = 1 := by kernel_rfl
theorem rt : (Tryd.prog.cutTypes.find? (·.1 == "internal/reflectlite.rtype")).map (·.2) = some 83 := by kernel_rfl
theorem oneRow : ((List.range 160).filter fun t => Tryd.prog.rowNamed t [101, 114, 114, 111, 114]) = [33] := by kernel_rfl
theorem nTypes : Tryd.prog.types.size = 160 := by kernel_rfl

/-- What the list of laid variables gives: each sentinel's cell, two different rows, the type's handle. -/
theorem of_laid {W : World} (h : laidMetH Tryd.prog Rows.backUptoRow.laid W) : ∃ a0 a1 x y, BackW a0 a1 x y W := by
  have h' : laidMet Tryd.prog [("satchel/names.ErrName", Rows.laid_satchel_names_ErrName), ("satchel/names.ErrVersion", Rows.laid_satchel_names_ErrVersion), ("satchel/names.errByte", Rows.laid_satchel_names_errByte), ("satchel/names.errEscape", Rows.laid_satchel_names_errEscape)] W ∧ handlesMet Tryd.prog [("errors.errorType", Rows.laid_errors_errorType)] W := h
  obtain ⟨hd, hh⟩ := h'
  obtain ⟨a0, a1, s0, s1, c0, c1, t0, t1, hv0, hv1, _, _, _, _, _, _, hne, hb0, hb1⟩ := laid_sentinels2 hd gName tName gVersion tVersion Tryd.underlying33 rowE Tryd.underlying130 Tryd.underlying149 rfl rfl Tryd.underlying9 cellsE cellsS
  obtain ⟨a2, s2, hv2, _, _, _⟩ := laid_sentinel hd.tail.tail gByte tByte Tryd.underlying33 rowE Tryd.underlying130 Tryd.underlying149 rfl rfl Tryd.underlying9 cellsE cellsS
  obtain ⟨a3, s3, hv3, _, _, _⟩ := laid_sentinel hd.tail.tail.tail gEscape tEscape Tryd.underlying33 rowE Tryd.underlying130 Tryd.underlying149 rfl rfl Tryd.underlying9 cellsE cellsS
  obtain ⟨name, u, ty, e1, e2, e3, e4, e5⟩ := hh _ (List.mem_singleton.2 rfl)
  have en : name = [101, 114, 114, 111, 114] := (Option.some.inj e1).symm
  subst en
  obtain rfl := Option.some.inj (rt.symm.trans e2)
  have hm : ty ∈ (List.range 160).filter fun t => Tryd.prog.rowNamed t [101, 114, 114, 111, 114] := List.mem_filter.2 ⟨List.mem_range.2 (by rw [← nTypes]; exact e3), e4⟩
  rw [oneRow] at hm
  obtain rfl := List.mem_singleton.1 hm
  have hth : typeHandle Tryd.prog 33 = .pointer (some ⟨12, 33, none⟩) := by kernel_rfl
  rw [hth] at e5
  refine ⟨a0, a1, .pointer (some a2), .pointer (some a3), ⟨⟨?_, ?_, ?_, hne, ⟨_, _, hb0⟩, ⟨_, _, hb1⟩⟩, ?_, ?_⟩⟩
  · simpa using World.var?_cell gName hv0 0
  · simpa using World.var?_cell gVersion hv1 0
  · simpa using World.var?_cell gType e5 0
  · exact by simpa using World.var?_cell gByte hv2 0
  · exact by simpa using World.var?_cell gEscape hv3 0

set_option maxRecDepth 100000 in
theorem contract (H : Type) (enc : TypeId × Value → H) (W : World) (base : Nat) (args : Array Value) (ds gs : List (DataW H)) (before : List MemPlace)
    (hval : ∀ (j : Nat) t v, Tryd.f4.params[j]? = some t → args[j]? = some v → Value.okWide Tryd.prog W .any base t v)
    (hW : DataW.Whole enc Tryd.prog Tryd.f4.params.toList Rows.backSpec.vars false W args.toList ds gs before) (hk : Rows.uptoSmall H (ds ++ gs) = true) (hL : laidMetH Tryd.prog Rows.backUptoRow.laid W) :
    Calls Tryd.prog 4 args W fun e W' => ∃ v, e = .returned v ∧ Rows.backSpec.post enc Tryd.prog Tryd.f4 false true false false W args v W' := by
  have hW' := hW
  obtain ⟨p, q, hA0, hV, rfl, hfz, hnd⟩ := hW
  have hA : DataW.TrodAll enc Tryd.prog W 0 (fun _ => true) true Tryd.f4.params.toList args.toList ds p := hA0
  rw [Tryd.params4] at hA hval
  obtain ⟨v0, d0, rfl, rfl, h0⟩ := trodAll_one hA
  obtain ⟨rfl, rfl⟩ := trodVars_none hV
  obtain ⟨s, rfl, rfl, rfl, hs⟩ := open_string Tryd.underlying9 (hval 0 9 v0 rfl rfl) h0
  clear hA0
  have hb : s.size ≤ 1048576 := by
    have h := of_decide_eq_true hk
    simp only [List.append_nil, Rows.uptoBulkAll, Rows.uptoBulk] at h
    have e : s.data.toList.length = s.size := by simp
    omega
  simp only [List.append_nil] at hW'
  obtain ⟨a0, a1, x, y, hB⟩ := of_laid hL
  refine (back_walk s W a0 a1 x y hb hB).mono fun e W' ⟨he, hg⟩ => ?_
  subst he
  refine ⟨_, rfl, _, _, _, [], [], [], hW', ?_, ?_, ?_, hg.frame _, fun h => by cases h⟩
  · exact trodAll_mk1 (shut_bool Tryd.underlying4 _)
  · exact trodAll_mk1 (shut_string Tryd.underlying9 hs)
  · rfl

/-- The start of the witness: the heap that the variables' own initialisers leave; the text is empty. -/
theorem door_met (os : Os) : laidMetH Tryd.prog Rows.backUptoRow.laid ((World.doorLaid Tryd.prog 178 os).forCall (fun _ _ => 0) ⟨#[], #[.string ⟨#[]⟩], []⟩).memory :=
  laidMetH_of_parts3 (fuel := 8) (laidMet_of_run' 8 (by kernel_rfl) (by kernel_rfl)) (by kernel_rfl) (by kernel_rfl)
theorem reads (os : Os) {H : Type} (enc : TypeId × Value → H) : ∃ places, DataW.whole enc Tryd.prog ((World.doorLaid Tryd.prog 178 os).forCall (fun _ _ => 0) ⟨#[], #[.string ⟨#[]⟩], []⟩).memory Tryd.f4.params.toList Rows.backSpec.vars false #[Value.string ⟨#[]⟩].toList 8 = some ([.lit (.string [])], [], places) :=
  ⟨[], by kernel_rfl⟩

set_option maxRecDepth 100000 in
theorem liftedUpto (os : Os) (started : os.Started) (H : Type) (enc : TypeId × Value → H) (F : Stop.Interp) :
    ReturnsInHanded {} Tryd.checked os 4 .any ((Rows.OpenSpec.upto Rows.backSpec).preRow enc Tryd.prog Tryd.f4 Rows.backUptoRow.domain false Rows.backUptoRow.laid) (((Rows.OpenSpec.upto Rows.backSpec).at F).post enc Tryd.prog Tryd.f4 false true false false) := by
  obtain ⟨places, hx⟩ := reads os enc
  refine returnsInHanded_of_row (C := Tryd.checked) (s := Rows.OpenSpec.upto Rows.backSpec) own started (by kernel_rfl) Tryd.func4
    (witness_row_atRef (enc := enc) (C := Tryd.checked) false (World.doorLaid Tryd.prog 178 os) #[.string ⟨#[]⟩] rfl (by kernel_rfl) (by kernel_rfl) (by kernel_rfl)
      (OpenSpec.preRow_of_cond 8 hx (by kernel_rfl) (fun k hk => by cases hk; kernel_rfl) (by kernel_rfl) (door_met os))) ?_
  intro W base args ds gs before hval hW _ hcond _ hL _ _
  exact contract H enc W base args ds gs before hval hW (hcond _ rfl) hL

theorem saidUpto : Rows.BackUptoSaid :=
  OpenClaim.holds_of_cond 4 Tryd.f4 rfl rfl rfl rfl rfl rfl rfl ⟨rfl, rfl, rfl, rfl, rfl⟩ rfl rfl rfl rfl rfl (by kernel_rfl) Tryd.func4 (by kernel_rfl)
    (of_decide_eq_true (by kernel_rfl)) (by unfold Func.isWrapper; first | (rw [if_pos (by decide +kernel)]; kernel_rfl) | (rw [if_neg (by decide +kernel)]; exact ⟨rfl, rfl⟩))
    (fun os started H enc _ F => by rw [OpenClaim.pre_eq_preRow]; exact liftedUpto os started H enc F)

/-- No parameter wants a stand-in. -/
theorem plain (f : FuncId) (fn : Func) (hf : Tryd.pinned.checked.prog.funcNamed "satchel/satchelkeep.Back" = some f) (hfn : Tryd.pinned.checked.prog.funcs[f]? = some fn) :
    true = Tryd.pinned.checked.prog.looks [] ∧ ∀ (j : Nat) t, fn.params[j]? = some t → Tryd.pinned.checked.prog.wantsStandIn t = false := by
  obtain rfl : f = 4 := Option.some.inj ((show Tryd.prog.funcNamed "satchel/satchelkeep.Back" = some 4 by kernel_rfl).symm.trans hf) |>.symm
  obtain rfl : fn = Tryd.f4 := (Option.some.inj (Tryd.func4.symm.trans hfn)).symm
  refine ⟨by kernel_rfl, fun j t ht => ?_⟩
  rw [Tryd.params4] at ht
  obtain rfl : t = 9 := by simpa using Array.mem_of_getElem? ht
  exact (show Tryd.prog.wantsStandIn 9 = false by kernel_rfl)
end Go.Proofs.YtaaocpaeajlpeaaDoor.BackP
namespace Go.Proofs.YtaaocpaeajlpeaaDoor
/-- THE CARD OF THE SECOND FORM. -/
theorem back_upto_card : Rows.BackUptoCardSaid :=
  Claim7.holds_tied_plain_at .later [] _ _ _ _ BackP.saidUpto (fun _ h => by cases h) (by kernel_rfl) (fun _ h => by cases h) backUpto_row_tie rfl ⟨rfl, rfl⟩ (by kernel_rfl) rfl BackP.plain (by kernel_rfl)
end Go.Proofs.YtaaocpaeajlpeaaDoor
