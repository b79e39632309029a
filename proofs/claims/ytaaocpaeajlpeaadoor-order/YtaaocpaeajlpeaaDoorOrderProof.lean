/- satchelkeep.Order answers true of every three texts, and leaves them as they were: the card. -/
import Derived.Test.YtaaocpaeajlpeaaDoorOrder
import Derived.Test.YtaaocpaeajlpeaaDoorFacts
import Derived.Test.YtaaocpaeajlpeaaDoorCards
import Derived.Test.YtaaocpaeajlpeaaDoorTie
import Derived.OpenShut
import Derived.Deep.DeepHandedRow
import Derived.Deep.DeepWitnessRowRef
import Derived.Shelf.Vars
namespace Go.Proofs.YtaaocpaeajlpeaaDoor.OrderP
open Go.ChangeShapes Go.WideShapes Go.ChangeAt Go.RowKit Go.Proofs.YtaaocpaeajlpeaaDoor.Facts
open Go.ChangeMaps (open_string shut_string)

/-- What the list of laid variables, and the world's shape, give the walks. -/
theorem of_laid {W : World} (h : laidMetH Tryd.prog Rows.orderRow.laid W) (hsh : W.ShapedOpen Tryd.prog) : ∃ a0 a1 m, VerW a0 a1 m W := by
  have h' : laidMet Tryd.prog [("unicode/utf8.acceptRanges", Rows.laid_unicode_utf8_acceptRanges), ("satchel/names.ErrName", Rows.laid_satchel_names_ErrName), ("satchel/names.ErrVersion", Rows.laid_satchel_names_ErrVersion), ("satchel/names.errEmpty", Rows.laid_satchel_names_errEmpty), ("satchel/names.errLong", Rows.laid_satchel_names_errLong), ("satchel/names.errByte", Rows.laid_satchel_names_errByte), ("satchel/names.errZero", Rows.laid_satchel_names_errZero), ("satchel/names.errShape", Rows.laid_satchel_names_errShape), ("unicode/utf8.first", Rows.laid_unicode_utf8_first)] W ∧ handlesMet Tryd.prog [("errors.errorType", Rows.laid_errors_errorType)] W := h
  obtain ⟨hd, hh⟩ := h'
  obtain ⟨a0, a1, s0, s1, c0, c1, t0, t1, hv0, hv1, _, _, _, _, _, _, hne, hb0, hb1⟩ := laid_sentinels2 hd.tail gName tName gVersion tVersion Tryd.underlying33 rowE Tryd.underlying130 Tryd.underlying149 rfl rfl Tryd.underlying9 cellsE cellsS
  obtain ⟨b3, s3, k3, _, _, _⟩ := laid_sentinel hd.tail.tail.tail gEmpty tEmpty Tryd.underlying33 rowE Tryd.underlying130 Tryd.underlying149 rfl rfl Tryd.underlying9 cellsE cellsS
  obtain ⟨b4, s4, k4, _, _, _⟩ := laid_sentinel hd.tail.tail.tail.tail gLong tLong Tryd.underlying33 rowE Tryd.underlying130 Tryd.underlying149 rfl rfl Tryd.underlying9 cellsE cellsS
  obtain ⟨b5, s5, k5, _, _, _⟩ := laid_sentinel hd.tail.tail.tail.tail.tail gByte tByte Tryd.underlying33 rowE Tryd.underlying130 Tryd.underlying149 rfl rfl Tryd.underlying9 cellsE cellsS
  obtain ⟨b6, s6, k6, _, _, _⟩ := laid_sentinel hd.tail.tail.tail.tail.tail.tail gZero tZero Tryd.underlying33 rowE Tryd.underlying130 Tryd.underlying149 rfl rfl Tryd.underlying9 cellsE cellsS
  obtain ⟨b7, s7, k7, _, _, _⟩ := laid_sentinel hd.tail.tail.tail.tail.tail.tail.tail gShape tShape Tryd.underlying33 rowE Tryd.underlying130 Tryd.underlying149 rfl rfl Tryd.underlying9 cellsE cellsS
  obtain ⟨name, u, ty, e1, e2, e3, e4, e5⟩ := hh _ (List.mem_singleton.2 rfl)
  have en : name = [101, 114, 114, 111, 114] := (Option.some.inj e1).symm
  subst en
  obtain rfl := Option.some.inj (rt.symm.trans e2)
  have hm : ty ∈ (List.range 160).filter fun t => Tryd.prog.rowNamed t [101, 114, 114, 111, 114] := List.mem_filter.2 ⟨List.mem_range.2 (by rw [← nTypes]; exact e3), e4⟩
  rw [oneRow] at hm
  obtain rfl := List.mem_singleton.1 hm
  have hth : typeHandle Tryd.prog 33 = .pointer (some ⟨12, 33, none⟩) := by kernel_rfl
  rw [hth] at e5
  obtain ⟨m, hmax⟩ : ∃ m, W.cell? ⟨9, 0, none⟩ = some (.int .i64 m) := cell_of_shapedOpen_int (t := 3) (zero := #[.int .i64 0]) hsh (of_decide_eq_true (by kernel_rfl)) (by kernel_rfl) rfl (by kernel_rfl) (by kernel_rfl) Tryd.underlying3
  exact ⟨a0, a1, m, ⟨⟨by simpa using World.var?_cell gName hv0 0, by simpa using World.var?_cell gVersion hv1 0, by simpa using World.var?_cell gType e5 0, hne, ⟨_, _, hb0⟩, ⟨_, _, hb1⟩⟩,
    ⟨.pointer (some b3), by simpa using World.var?_cell gEmpty k3 0⟩, ⟨.pointer (some b4), by simpa using World.var?_cell gLong k4 0⟩, ⟨.pointer (some b5), by simpa using World.var?_cell gByte k5 0⟩, ⟨.pointer (some b6), by simpa using World.var?_cell gZero k6 0⟩, ⟨.pointer (some b7), by simpa using World.var?_cell gShape k7 0⟩, hmax⟩⟩

set_option maxRecDepth 100000 in
theorem contract (H : Type) (enc : TypeId × Value → H) (W : World) (base : Nat) (args : Array Value) (ds gs : List (DataW H)) (before : List MemPlace)
    (hval : ∀ (j : Nat) t v, Tryd.f3.params[j]? = some t → args[j]? = some v → Value.okWide Tryd.prog W .any base t v)
    (hW : DataW.Whole enc Tryd.prog Tryd.f3.params.toList Rows.orderSpec.vars false W args.toList ds gs before) (hL : laidMetH Tryd.prog Rows.orderRow.laid W) (hsh : W.ShapedOpen Tryd.prog) :
    Calls Tryd.prog 3 args W fun e W' => ∃ v, e = .returned v ∧ Rows.orderSpec.post enc Tryd.prog Tryd.f3 false true false false W args v W' := by
  have hW' := hW
  obtain ⟨p, q, hA0, hV, rfl, hfz, hnd⟩ := hW
  have hA : DataW.TrodAll enc Tryd.prog W 0 (fun _ => true) true Tryd.f3.params.toList args.toList ds p := hA0
  rw [Tryd.params3] at hA hval
  obtain ⟨v0, v1, v2, d0, d1, d2, p0, p1, p2, rfl, rfl, rfl, h0, h1, h2⟩ := trodAll_three hA
  obtain ⟨rfl, rfl⟩ := trodVars_none hV
  obtain ⟨a, rfl, rfl, rfl, ha⟩ := open_string Tryd.underlying9 (hval 0 9 v0 rfl rfl) h0
  obtain ⟨b, rfl, rfl, rfl, hb⟩ := open_string Tryd.underlying9 (hval 1 9 v1 rfl rfl) h1
  obtain ⟨c, rfl, rfl, rfl, hc⟩ := open_string Tryd.underlying9 (hval 2 9 v2 rfl rfl) h2
  clear hA0
  simp only [List.append_nil] at hW'
  obtain ⟨a0, a1, m, hB⟩ := of_laid hL hsh
  refine (order_walk a b c W a0 a1 m ha hb hc hB).mono fun e W' ⟨he, hg⟩ => ?_
  subst he
  refine ⟨_, rfl, _, _, _, [], [], [], hW', ?_, ?_, ?_, hg.frame _, fun h => by cases h⟩
  · exact trodAll_mk1 (shut_bool Tryd.underlying4 _)
  · exact trodAll_mk3 (shut_string Tryd.underlying9 ha) (shut_string Tryd.underlying9 hb) (shut_string Tryd.underlying9 hc)
  · rfl

/-- A start for the witness: the heap that the variables' own initialisers leave, the library's table laid in its block; the texts are empty. -/
theorem start (os : Os) : ∃ w0 : World, w0.os = os ∧ (w0.forCall (fun _ _ => 0) ⟨#[], #[.string ⟨#[]⟩, .string ⟨#[]⟩, .string ⟨#[]⟩], []⟩).variablesRefB Tryd.prog = true ∧
    ((w0.forCall (fun _ _ => 0) ⟨#[], #[.string ⟨#[]⟩, .string ⟨#[]⟩, .string ⟨#[]⟩], []⟩).heap.toList.drop Tryd.prog.globals.size).take ((begin Tryd.prog (fun _ _ => 0) default).world.heap.size - Tryd.prog.globals.size) = (begin Tryd.prog (fun _ _ => 0) default).world.heap.toList.drop Tryd.prog.globals.size ∧
    Input.okWideB Tryd.prog (w0.forCall (fun _ _ => 0) ⟨#[], #[.string ⟨#[]⟩, .string ⟨#[]⟩, .string ⟨#[]⟩], []⟩) 3 ⟨#[], #[.string ⟨#[]⟩, .string ⟨#[]⟩, .string ⟨#[]⟩], []⟩ = true ∧
    laidMetH Tryd.prog Rows.orderRow.laid (w0.forCall (fun _ _ => 0) ⟨#[], #[.string ⟨#[]⟩, .string ⟨#[]⟩, .string ⟨#[]⟩], []⟩).memory ∧
    (∀ (H : Type) (enc : TypeId × Value → H), DataW.whole enc Tryd.prog (w0.forCall (fun _ _ => 0) ⟨#[], #[.string ⟨#[]⟩, .string ⟨#[]⟩, .string ⟨#[]⟩], []⟩).memory Tryd.f3.params.toList Rows.orderSpec.vars false #[Value.string ⟨#[]⟩, Value.string ⟨#[]⟩, Value.string ⟨#[]⟩].toList 8 = some ([.lit (.string []), .lit (.string []), .lit (.string [])], [], [])) ∧
    (∀ (H : Type) (enc : TypeId × Value → H), (OpenSpec.ofChange Rows.orderSpec).bare.sizedB enc Tryd.prog Tryd.f3 false (w0.forCall (fun _ _ => 0) ⟨#[], #[.string ⟨#[]⟩, .string ⟨#[]⟩, .string ⟨#[]⟩], []⟩).memory #[.string ⟨#[]⟩, .string ⟨#[]⟩, .string ⟨#[]⟩] 8 = true) :=
  ⟨{ World.doorLaid Tryd.prog 178 os with heap := (World.doorLaid Tryd.prog 178 os).heap.modify 10 fun | .cells _ t frozen => .cells (Go.Pinned.utf8FirstZ.map fun n : Nat => Value.int .u8 (Int.ofNat n)).toArray t frozen | o => o },
    rfl, by kernel_rfl, by kernel_rfl, by kernel_rfl, laidMetH_of_parts3 (fuel := 8) (laidMet_of_run' 8 (by kernel_rfl) (by kernel_rfl)) (by kernel_rfl) (by kernel_rfl), fun _ _ => by kernel_rfl, fun _ _ => by kernel_rfl⟩

set_option maxRecDepth 100000 in
theorem lifted (os : Os) (started : os.Started) (H : Type) (enc : TypeId × Value → H) (F : Stop.Interp) :
    ReturnsInHanded {} Tryd.checked os 3 .any ((OpenSpec.ofChange Rows.orderSpec).preRow enc Tryd.prog Tryd.f3 Rows.orderRow.domain false Rows.orderRow.laid) (((OpenSpec.ofChange Rows.orderSpec).at F).post enc Tryd.prog Tryd.f3 false true false false) := by
  obtain ⟨w0, h1, h2, h3, h4, h5, h6, h7⟩ := start os
  refine returnsInHanded_of_row (C := Tryd.checked) (s := OpenSpec.ofChange Rows.orderSpec) own started (by kernel_rfl) Tryd.func3
    (witness_row_atRef (enc := enc) (C := Tryd.checked) false w0 #[.string ⟨#[]⟩, .string ⟨#[]⟩, .string ⟨#[]⟩] h1 h2 h3 h4
      (OpenSpec.preRow_of_cond 8 (h6 H enc) (by kernel_rfl) (fun k hk => by cases hk) (h7 H enc) h5)) ?_
  intro W base args ds gs before hval hW _ _ _ hL hsh _
  exact contract H enc W base args ds gs before hval hW hL hsh

theorem said : Rows.OrderSaid :=
  OpenClaim.holds_of_cond 3 Tryd.f3 rfl rfl rfl rfl rfl rfl rfl ⟨rfl, rfl, rfl, rfl, rfl⟩ rfl rfl rfl rfl rfl (by kernel_rfl) Tryd.func3 (by kernel_rfl)
    (of_decide_eq_true (by kernel_rfl)) (by unfold Func.isWrapper; first | (rw [if_pos (by decide +kernel)]; kernel_rfl) | (rw [if_neg (by decide +kernel)]; exact ⟨rfl, rfl⟩))
    (fun os started H enc _ F => by rw [OpenClaim.pre_eq_preRow]; exact lifted os started H enc F)

/-- No parameter wants a stand-in. -/
theorem plain (f : FuncId) (fn : Func) (hf : Tryd.pinned.checked.prog.funcNamed "satchel/satchelkeep.Order" = some f) (hfn : Tryd.pinned.checked.prog.funcs[f]? = some fn) :
    true = Tryd.pinned.checked.prog.looks [] ∧ ∀ (j : Nat) t, fn.params[j]? = some t → Tryd.pinned.checked.prog.wantsStandIn t = false := by
  obtain rfl : f = 3 := Option.some.inj ((show Tryd.prog.funcNamed "satchel/satchelkeep.Order" = some 3 by kernel_rfl).symm.trans hf) |>.symm
  obtain rfl : fn = Tryd.f3 := (Option.some.inj (Tryd.func3.symm.trans hfn)).symm
  refine ⟨by kernel_rfl, fun j t ht => ?_⟩
  rw [Tryd.params3] at ht
  have hm : t ∈ [9, 9, 9] := by simpa using Array.mem_of_getElem? ht
  obtain rfl : t = 9 := by simpa using hm
  exact (show Tryd.prog.wantsStandIn 9 = false by kernel_rfl)
end Go.Proofs.YtaaocpaeajlpeaaDoor.OrderP
namespace Go.Proofs.YtaaocpaeajlpeaaDoor
/-- THE CARD. -/
theorem order_card : Rows.OrderCardSaid :=
  Claim7.holds_tied_plain_at .later [] _ _ _ _ OrderP.said (fun _ h => by cases h) (by kernel_rfl) (fun _ h => by cases h) order_row_tie rfl ⟨rfl, rfl⟩ (by kernel_rfl) rfl OrderP.plain (by kernel_rfl)
end Go.Proofs.YtaaocpaeajlpeaaDoor
