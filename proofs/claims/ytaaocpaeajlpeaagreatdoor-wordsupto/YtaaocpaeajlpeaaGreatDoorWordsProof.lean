/- satchellaw.Words answers true of every two texts of together at most some 2^20 bytes, and leaves them as they were: the card of the second form. -/
import Derived.Test.YtaaocpaeajlpeaaGreatDoorWords
import Derived.Test.YtaaocpaeajlpeaaGreatDoorFacts
import Derived.Test.YtaaocpaeajlpeaaGreatDoorCards
import Derived.Test.YtaaocpaeajlpeaaGreatDoorTie
import Derived.OpenShut
import Derived.Deep.DeepHandedRow
import Derived.Deep.DeepWitnessRowRef
import Derived.Shelf.Vars
namespace Go.Proofs.YtaaocpaeajlpeaaGreatDoor.WordsP
open Go.ChangeShapes Go.WideShapes Go.ChangeAt Go.RowKit Go.Proofs.YtaaocpaeajlpeaaGreatDoor.Facts
open Go.ChangeMaps (open_string shut_string)

theorem gDot : Tryz.prog.globalNamed "satchel/names.errDot" = some 7 := by kernel_rfl
theorem tDot : (Tryz.prog.globals[7]?).map (·.type) = some 37 := by kernel_rfl
/-- What the list of laid variables, and the world's shape, give the walks. -/
theorem of_laid {W : World} (h : laidMetH Tryz.prog Rows.wordsUptoRow.laid W) (hsh : W.ShapedOpen Tryz.prog) : ∃ a0 a1 m, WordsW a0 a1 m W := by
  have h' : laidMet Tryz.prog [("unicode/utf8.acceptRanges", Rows.laid_unicode_utf8_acceptRanges), ("satchel/names.ErrName", Rows.laid_satchel_names_ErrName), ("satchel/names.ErrVersion", Rows.laid_satchel_names_ErrVersion), ("satchel/names.errEmpty", Rows.laid_satchel_names_errEmpty), ("satchel/names.errLong", Rows.laid_satchel_names_errLong), ("satchel/names.errByte", Rows.laid_satchel_names_errByte), ("satchel/names.errDot", Rows.laid_satchel_names_errDot), ("satchel/names.errZero", Rows.laid_satchel_names_errZero), ("satchel/names.errShape", Rows.laid_satchel_names_errShape), ("satchel/names.errEscape", Rows.laid_satchel_names_errEscape), ("unicode/utf8.first", Rows.laid_unicode_utf8_first)] W ∧ handlesMet Tryz.prog [("errors.errorType", Rows.laid_errors_errorType)] W := h
  obtain ⟨hd, hh⟩ := h'
  obtain ⟨a0, a1, s0, s1, c0, c1, t0, t1, hv0, hv1, _, _, _, _, _, _, hne, hb0, hb1⟩ := laid_sentinels2 hd.tail gName tName gVersion tVersion Tryz.underlying37 rowE Tryz.underlying142 Tryz.underlying161 rfl rfl Tryz.underlying9 cellsE cellsS
  obtain ⟨b3, s3, k3, _, _, _⟩ := laid_sentinel hd.tail.tail.tail gEmpty tEmpty Tryz.underlying37 rowE Tryz.underlying142 Tryz.underlying161 rfl rfl Tryz.underlying9 cellsE cellsS
  obtain ⟨b4, s4, k4, _, _, _⟩ := laid_sentinel hd.tail.tail.tail.tail gLong tLong Tryz.underlying37 rowE Tryz.underlying142 Tryz.underlying161 rfl rfl Tryz.underlying9 cellsE cellsS
  obtain ⟨b5, s5, k5, _, _, _⟩ := laid_sentinel hd.tail.tail.tail.tail.tail gByte tByte Tryz.underlying37 rowE Tryz.underlying142 Tryz.underlying161 rfl rfl Tryz.underlying9 cellsE cellsS
  obtain ⟨b6, s6, k6, _, _, _⟩ := laid_sentinel hd.tail.tail.tail.tail.tail.tail gDot tDot Tryz.underlying37 rowE Tryz.underlying142 Tryz.underlying161 rfl rfl Tryz.underlying9 cellsE cellsS
  obtain ⟨b7, s7, k7, _, _, _⟩ := laid_sentinel hd.tail.tail.tail.tail.tail.tail.tail gZero tZero Tryz.underlying37 rowE Tryz.underlying142 Tryz.underlying161 rfl rfl Tryz.underlying9 cellsE cellsS
  obtain ⟨b8, s8, k8, _, _, _⟩ := laid_sentinel hd.tail.tail.tail.tail.tail.tail.tail.tail gShape tShape Tryz.underlying37 rowE Tryz.underlying142 Tryz.underlying161 rfl rfl Tryz.underlying9 cellsE cellsS
  obtain ⟨b9, s9, k9, _, _, _⟩ := laid_sentinel hd.tail.tail.tail.tail.tail.tail.tail.tail.tail gEscape tEscape Tryz.underlying37 rowE Tryz.underlying142 Tryz.underlying161 rfl rfl Tryz.underlying9 cellsE cellsS
  obtain ⟨name, u, ty, e1, e2, e3, e4, e5⟩ := hh _ (List.mem_singleton.2 rfl)
  have en : name = [101, 114, 114, 111, 114] := (Option.some.inj e1).symm
  subst en
  obtain rfl := Option.some.inj (rt.symm.trans e2)
  have hm : ty ∈ (List.range 172).filter fun t => Tryz.prog.rowNamed t [101, 114, 114, 111, 114] := List.mem_filter.2 ⟨List.mem_range.2 (by rw [← nTypes]; exact e3), e4⟩
  rw [oneRow] at hm
  obtain rfl := List.mem_singleton.1 hm
  have hth : typeHandle Tryz.prog 37 = .pointer (some ⟨13, 37, none⟩) := by kernel_rfl
  rw [hth] at e5
  obtain ⟨m, hmax⟩ : ∃ m, W.cell? ⟨9, 0, none⟩ = some (.int .i64 m) := cell_of_shapedOpen_int (t := 3) (zero := #[.int .i64 0]) hsh (of_decide_eq_true (by kernel_rfl)) (by kernel_rfl) rfl (by kernel_rfl) (by kernel_rfl) Tryz.underlying3
  have hV : VerW a0 a1 m W := ⟨⟨by simpa using World.var?_cell gName hv0 0, by simpa using World.var?_cell gVersion hv1 0, by simpa using World.var?_cell gType e5 0, hne, ⟨_, _, hb0⟩, ⟨_, _, hb1⟩⟩,
    ⟨.pointer (some b3), by simpa using World.var?_cell gEmpty k3 0⟩, ⟨.pointer (some b4), by simpa using World.var?_cell gLong k4 0⟩, ⟨.pointer (some b5), by simpa using World.var?_cell gByte k5 0⟩, ⟨.pointer (some b7), by simpa using World.var?_cell gZero k7 0⟩, ⟨.pointer (some b8), by simpa using World.var?_cell gShape k8 0⟩, hmax⟩
  exact ⟨a0, a1, m, ⟨⟨hV, ⟨.pointer (some b6), by simpa using World.var?_cell gDot k6 0⟩⟩, ⟨.pointer (some b9), by simpa using World.var?_cell gEscape k9 0⟩⟩⟩

set_option maxRecDepth 100000 in
theorem contract (H : Type) (enc : TypeId × Value → H) (W : World) (base : Nat) (args : Array Value) (ds gs : List (DataW H)) (before : List MemPlace)
    (hval : ∀ (j : Nat) t v, Tryz.f3.params[j]? = some t → args[j]? = some v → Value.okWide Tryz.prog W .any base t v)
    (hW : DataW.Whole enc Tryz.prog Tryz.f3.params.toList Rows.wordsSpec.vars false W args.toList ds gs before) (hk : Rows.uptoSmall H (ds ++ gs) = true) (hL : laidMetH Tryz.prog Rows.wordsUptoRow.laid W) (hsh : W.ShapedOpen Tryz.prog) :
    Calls Tryz.prog 3 args W fun e W' => ∃ v, e = .returned v ∧ Rows.wordsSpec.post enc Tryz.prog Tryz.f3 false true false false W args v W' := by
  have hW' := hW
  obtain ⟨p, q, hA0, hV, rfl, hfz, hnd⟩ := hW
  have hA : DataW.TrodAll enc Tryz.prog W 0 (fun _ => true) true Tryz.f3.params.toList args.toList ds p := hA0
  rw [Tryz.params3] at hA hval
  obtain ⟨v0, v1, d0, d1, p0, p1, rfl, rfl, rfl, h0, h1⟩ := trodAll_two hA
  obtain ⟨rfl, rfl⟩ := trodVars_none hV
  obtain ⟨a, rfl, rfl, rfl, ha⟩ := open_string Tryz.underlying9 (hval 0 9 v0 rfl rfl) h0
  obtain ⟨b, rfl, rfl, rfl, hb⟩ := open_string Tryz.underlying9 (hval 1 9 v1 rfl rfl) h1
  clear hA0
  have hbd : a.size ≤ 1048576 ∧ b.size ≤ 1048576 := by
    have h := of_decide_eq_true hk
    simp only [List.append_nil, Rows.uptoBulkAll, Rows.uptoBulk] at h
    have e : a.data.toList.length = a.size := by simp
    have e' : b.data.toList.length = b.size := by simp
    omega
  simp only [List.append_nil] at hW'
  obtain ⟨a0, a1, m, hB⟩ := of_laid hL hsh
  refine (words_walk a b W a0 a1 m hbd.1 hbd.2 hB).mono fun e W' ⟨he, hg⟩ => ?_
  subst he
  refine ⟨_, rfl, _, _, _, [], [], [], hW', ?_, ?_, ?_, hg.frame _, fun h => by cases h⟩
  · exact trodAll_mk1 (shut_bool Tryz.underlying4 _)
  · exact trodAll_mk2 (shut_string Tryz.underlying9 ha) (shut_string Tryz.underlying9 hb)
  · rfl

/-- A start for the witness: the heap that the variables' own initialisers leave, the library's table laid in its block; the texts are empty. -/
theorem start (os : Os) : ∃ w0 : World, w0.os = os ∧ (w0.forCall (fun _ _ => 0) ⟨#[], #[.string ⟨#[]⟩, .string ⟨#[]⟩], []⟩).variablesRefB Tryz.prog = true ∧
    ((w0.forCall (fun _ _ => 0) ⟨#[], #[.string ⟨#[]⟩, .string ⟨#[]⟩], []⟩).heap.toList.drop Tryz.prog.globals.size).take ((begin Tryz.prog (fun _ _ => 0) default).world.heap.size - Tryz.prog.globals.size) = (begin Tryz.prog (fun _ _ => 0) default).world.heap.toList.drop Tryz.prog.globals.size ∧
    Input.okWideB Tryz.prog (w0.forCall (fun _ _ => 0) ⟨#[], #[.string ⟨#[]⟩, .string ⟨#[]⟩], []⟩) 3 ⟨#[], #[.string ⟨#[]⟩, .string ⟨#[]⟩], []⟩ = true ∧
    laidMetH Tryz.prog Rows.wordsUptoRow.laid (w0.forCall (fun _ _ => 0) ⟨#[], #[.string ⟨#[]⟩, .string ⟨#[]⟩], []⟩).memory ∧
    (∀ (H : Type) (enc : TypeId × Value → H), DataW.whole enc Tryz.prog (w0.forCall (fun _ _ => 0) ⟨#[], #[.string ⟨#[]⟩, .string ⟨#[]⟩], []⟩).memory Tryz.f3.params.toList Rows.wordsSpec.vars false #[Value.string ⟨#[]⟩, Value.string ⟨#[]⟩].toList 8 = some ([.lit (.string []), .lit (.string [])], [], [])) ∧
    (∀ (H : Type) (enc : TypeId × Value → H), (Rows.OpenSpec.upto Rows.wordsSpec).bare.sizedB enc Tryz.prog Tryz.f3 false (w0.forCall (fun _ _ => 0) ⟨#[], #[.string ⟨#[]⟩, .string ⟨#[]⟩], []⟩).memory #[.string ⟨#[]⟩, .string ⟨#[]⟩] 8 = true) :=
  ⟨{ World.doorLaid Tryz.prog 197 os with heap := (World.doorLaid Tryz.prog 197 os).heap.modify 11 fun | .cells _ t frozen => .cells (Go.Pinned.utf8FirstZ.map fun n : Nat => Value.int .u8 (Int.ofNat n)).toArray t frozen | o => o },
    rfl, by kernel_rfl, by kernel_rfl, by kernel_rfl, laidMetH_of_parts3 (fuel := 8) (laidMet_of_run' 8 (by kernel_rfl) (by kernel_rfl)) (by kernel_rfl) (by kernel_rfl), fun _ _ => by kernel_rfl, fun _ _ => by kernel_rfl⟩

set_option maxRecDepth 100000 in
theorem lifted (os : Os) (started : os.Started) (H : Type) (enc : TypeId × Value → H) (F : Stop.Interp) :
    ReturnsInHanded {} Tryz.checked os 3 .any ((Rows.OpenSpec.upto Rows.wordsSpec).preRow enc Tryz.prog Tryz.f3 Rows.wordsUptoRow.domain false Rows.wordsUptoRow.laid) (((Rows.OpenSpec.upto Rows.wordsSpec).at F).post enc Tryz.prog Tryz.f3 false true false false) := by
  obtain ⟨w0, h1, h2, h3, h4, h5, h6, h7⟩ := start os
  refine returnsInHanded_of_row (C := Tryz.checked) (s := Rows.OpenSpec.upto Rows.wordsSpec) own started (by kernel_rfl) Tryz.func3
    (witness_row_atRef (enc := enc) (C := Tryz.checked) false w0 #[.string ⟨#[]⟩, .string ⟨#[]⟩] h1 h2 h3 h4
      (OpenSpec.preRow_of_cond 8 (h6 H enc) (by kernel_rfl) (fun k hk => by cases hk; kernel_rfl) (h7 H enc) h5)) ?_
  intro W base args ds gs before hval hW _ hcond _ hL hsh _
  exact contract H enc W base args ds gs before hval hW (hcond _ rfl) hL hsh

theorem said : Rows.WordsUptoSaid :=
  OpenClaim.holds_of_cond 3 Tryz.f3 rfl rfl rfl rfl rfl rfl rfl ⟨rfl, rfl, rfl, rfl, rfl⟩ rfl rfl rfl rfl rfl (by kernel_rfl) Tryz.func3 (by kernel_rfl)
    (of_decide_eq_true (by kernel_rfl)) (by unfold Func.isWrapper; first | (rw [if_pos (by decide +kernel)]; kernel_rfl) | (rw [if_neg (by decide +kernel)]; exact ⟨rfl, rfl⟩))
    (fun os started H enc _ F => by rw [OpenClaim.pre_eq_preRow]; exact lifted os started H enc F)

/-- No parameter wants a stand-in. -/
theorem plain (f : FuncId) (fn : Func) (hf : Tryz.pinned.checked.prog.funcNamed "satchel/satchellaw.Words" = some f) (hfn : Tryz.pinned.checked.prog.funcs[f]? = some fn) :
    true = Tryz.pinned.checked.prog.looks [] ∧ ∀ (j : Nat) t, fn.params[j]? = some t → Tryz.pinned.checked.prog.wantsStandIn t = false := by
  obtain rfl : f = 3 := Option.some.inj ((show Tryz.prog.funcNamed "satchel/satchellaw.Words" = some 3 by kernel_rfl).symm.trans hf) |>.symm
  obtain rfl : fn = Tryz.f3 := (Option.some.inj (Tryz.func3.symm.trans hfn)).symm
  refine ⟨by kernel_rfl, fun j t ht => ?_⟩
  rw [Tryz.params3] at ht
  have hm : t ∈ [9, 9] := by simpa using Array.mem_of_getElem? ht
  obtain rfl : t = 9 := by simpa using hm
  exact (show Tryz.prog.wantsStandIn 9 = false by kernel_rfl)
end Go.Proofs.YtaaocpaeajlpeaaGreatDoor.WordsP
namespace Go.Proofs.YtaaocpaeajlpeaaGreatDoor
/-- THE CARD OF THE SECOND FORM. -/
theorem words_upto_card : Rows.WordsUptoCardSaid :=
  Claim7.holds_tied_plain_at .later [] _ _ _ _ WordsP.said (fun _ h => by cases h) (by kernel_rfl) (fun _ h => by cases h) wordsUpto_row_tie rfl ⟨rfl, rfl⟩ (by kernel_rfl) rfl WordsP.plain (by kernel_rfl)
end Go.Proofs.YtaaocpaeajlpeaaGreatDoor
