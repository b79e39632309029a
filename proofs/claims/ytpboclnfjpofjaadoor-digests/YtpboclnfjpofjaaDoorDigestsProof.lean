/- satchellaw.Digests answers true of every text, and leaves it as it was: the card. Its conditions: the four tables of SHA-256's numbers hold what the program's text lays (tied by the card); a text has at most 2^47 - 4096 bytes (the form's own reach). -/
import Derived.Test.YtpboclnfjpofjaaDoorDigests
import Derived.Test.YtpboclnfjpofjaaDoorCards
import Derived.Test.YtpboclnfjpofjaaDoorTie
import Derived.ProofKit
import Derived.OpenShut
import Derived.LaidMore
import Derived.Stop.LaidTwo
import Derived.SizedLaws
import Derived.Lib.LaidTab
import Derived.Deep.DeepHandedRow
import Derived.Deep.DeepWitnessRowRef
namespace Go.Proofs.YtpboclnfjpofjaaDoor.DigestsP
open Go.ChangeShapes Go.WideShapes Go.ChangeAt Go.RowKit Go.Proofs.YtpboclnfjpofjaaDoor.Sha
open Go.ChangeMaps (open_string shut_string)

theorem own : ownKnob Tryd.prog.godebug = none := by kernel_rfl
theorem gStart : Tryd.prog.globalNamed "satchel/digest.start" = some 1 := by kernel_rfl
theorem gRounds : Tryd.prog.globalNamed "satchel/digest.rounds" = some 3 := by kernel_rfl
theorem gK : Tryd.prog.globalNamed "satchel/satchelref.k256" = some 2 := by kernel_rfl
theorem gH : Tryd.prog.globalNamed "satchel/satchelref.h256" = some 0 := by kernel_rfl
theorem tStart : (Tryd.prog.globals[1]?).map (·.type) = some 29 := by kernel_rfl
theorem tRounds : (Tryd.prog.globals[3]?).map (·.type) = some 37 := by kernel_rfl
theorem tK : (Tryd.prog.globals[2]?).map (·.type) = some 36 := by kernel_rfl
theorem tH : (Tryd.prog.globals[0]?).map (·.type) = some 26 := by kernel_rfl
theorem cU : Tryd.prog.cellsOf 28 = 1 := by kernel_rfl
theorem cI : Tryd.prog.cellsOf 3 = 1 := by kernel_rfl
theorem c8U : Tryd.prog.cellsOf 29 = 8 := by kernel_rfl
theorem c64U : Tryd.prog.cellsOf 37 = 64 := by kernel_rfl
theorem c8I : Tryd.prog.cellsOf 26 = 8 := by kernel_rfl
theorem c64I : Tryd.prog.cellsOf 36 = 64 := by kernel_rfl
theorem map_getD (l : List Nat) (i : Nat) : (l.map fun n : Nat => (n : Int)).getD i 0 = ((l.getD i 0 : Nat) : Int) := by
  rw [List.getD_eq_getElem?_getD, List.getD_eq_getElem?_getD, List.getElem?_map]
  cases l[i]? <;> rfl
theorem dStart : (Rows.laid_satchel_digest_start : DataW Unit) = Lib.tabData .u32 (h0.list.map fun n : Nat => (n : Int)) := by kernel_rfl
theorem dRounds : (Rows.laid_satchel_digest_rounds : DataW Unit) = Lib.tabData .u32 (kTab.map fun n : Nat => (n : Int)) := by kernel_rfl
theorem dK : (Rows.laid_satchel_satchelref_k256 : DataW Unit) = Lib.tabData .i64 (kTab.map fun n : Nat => (n : Int)) := by kernel_rfl
theorem dH : (Rows.laid_satchel_satchelref_h256 : DataW Unit) = Lib.tabData .i64 (h0.list.map fun n : Nat => (n : Int)) := by kernel_rfl
/-- What the list of laid variables gives the walks. -/
theorem of_laid {W : World} (h : laidMetH Tryd.prog Rows.digestsRow.laid W) : TabP W ∧ TabR W := by
  have hd : laidMet Tryd.prog [("satchel/digest.start", Rows.laid_satchel_digest_start), ("satchel/digest.rounds", Rows.laid_satchel_digest_rounds), ("satchel/satchelref.k256", Rows.laid_satchel_satchelref_k256), ("satchel/satchelref.h256", Rows.laid_satchel_satchelref_h256)] W := h
  rw [dStart, dRounds, dK, dH] at hd
  have h1 := Lib.tabIs_of_head gStart tStart Tryd.underlying29 Tryd.underlying28 cU c8U hd
  have h2 := Lib.tabIs_of_head gRounds tRounds Tryd.underlying37 Tryd.underlying28 cU c64U hd.tail
  have h3 := Lib.tabIs_of_head gK tK Tryd.underlying36 Tryd.underlying3 cI c64I hd.tail.tail
  have h4 := Lib.tabIs_of_head gH tH Tryd.underlying26 Tryd.underlying3 cI c8I hd.tail.tail.tail
  refine ⟨⟨fun i hi => ?_, fun i hi => ?_⟩, ⟨fun i hi => ?_, fun i hi => ?_⟩⟩
  · rw [h2.cell gRounds i (by rw [List.length_map, kTab_len]; exact hi), map_getD]
  · rw [h1.cell gStart i (by rw [List.length_map]; exact hi), map_getD]
  · rw [h3.cell gK i (by rw [List.length_map, kTab_len]; exact hi), map_getD]
  · rw [h4.cell gH i (by rw [List.length_map]; exact hi), map_getD]

set_option maxRecDepth 100000 in
theorem contract (H : Type) (enc : TypeId × Value → H) (W : World) (base : Nat) (args : Array Value) (ds gs : List (DataW H)) (before : List MemPlace)
    (hval : ∀ (j : Nat) t v, Tryd.f3.params[j]? = some t → args[j]? = some v → Value.okWide Tryd.prog W .any base t v)
    (hW : DataW.Whole enc Tryd.prog Tryd.f3.params.toList Rows.digestsSpec.vars false W args.toList ds gs before)
    (hsz : (DataW.weightsEach Tryd.prog (Tryd.f3.params.toList ++ (OpenSpec.ofChange Rows.digestsSpec).bare.plain.varTypes Tryd.prog) (ds ++ gs)).all (· ≤ reachBytes) = true) (hL : laidMetH Tryd.prog Rows.digestsRow.laid W) :
    Calls Tryd.prog 3 args W fun e W' => ∃ v, e = .returned v ∧ Rows.digestsSpec.post enc Tryd.prog Tryd.f3 false true false false W args v W' := by
  have hW' := hW
  obtain ⟨p, q, hA0, hV, rfl, hfz, hnd⟩ := hW
  have hA : DataW.TrodAll enc Tryd.prog W 0 (fun _ => true) true Tryd.f3.params.toList args.toList ds p := hA0
  rw [Tryd.params3] at hA hval hsz
  obtain ⟨v0, d0, rfl, rfl, h0'⟩ := trodAll_one hA
  obtain ⟨rfl, rfl⟩ := trodVars_none hV
  obtain ⟨s, rfl, rfl, rfl, hs⟩ := open_string Tryd.underlying9 (hval 0 9 v0 rfl rfl) h0'
  clear hA0
  have hb : s.size ≤ 140737488351232 := by
    have h := sized_string hsz (j := 0) (t := 9) (bytes := s.data.toList) rfl rfl
    have e : s.data.toList.length = s.size := by simp
    unfold reachBytes at h
    omega
  simp only [List.append_nil] at hW'
  obtain ⟨hP, hR⟩ := of_laid hL
  refine (digests_walk s W hb hP hR).mono fun e W' ⟨he, hg⟩ => ?_
  subst he
  refine ⟨_, rfl, _, _, _, [], [], [], hW', ?_, ?_, ?_, hg.frame _, fun h => by cases h⟩
  · exact trodAll_mk1 (shut_bool Tryd.underlying4 _)
  · exact trodAll_mk1 (shut_string Tryd.underlying9 hs)
  · rfl

/-- A start for the witness: the heap that the variables' own initialisers leave; the text is empty. -/
theorem start (os : Os) : ∃ w0 : World, w0.os = os ∧ (w0.forCall (fun _ _ => 0) ⟨#[], #[.string ⟨#[]⟩], []⟩).variablesRefB Tryd.prog = true ∧
    ((w0.forCall (fun _ _ => 0) ⟨#[], #[.string ⟨#[]⟩], []⟩).heap.toList.drop Tryd.prog.globals.size).take ((begin Tryd.prog (fun _ _ => 0) default).world.heap.size - Tryd.prog.globals.size) = (begin Tryd.prog (fun _ _ => 0) default).world.heap.toList.drop Tryd.prog.globals.size ∧
    Input.okWideB Tryd.prog (w0.forCall (fun _ _ => 0) ⟨#[], #[.string ⟨#[]⟩], []⟩) 3 ⟨#[], #[.string ⟨#[]⟩], []⟩ = true ∧
    laidMetH Tryd.prog Rows.digestsRow.laid (w0.forCall (fun _ _ => 0) ⟨#[], #[.string ⟨#[]⟩], []⟩).memory ∧
    (∀ (H : Type) (enc : TypeId × Value → H), DataW.whole enc Tryd.prog (w0.forCall (fun _ _ => 0) ⟨#[], #[.string ⟨#[]⟩], []⟩).memory Tryd.f3.params.toList Rows.digestsSpec.vars false #[Value.string ⟨#[]⟩].toList 8 = some ([.lit (.string [])], [], [])) ∧
    (∀ (H : Type) (enc : TypeId × Value → H), (OpenSpec.ofChange Rows.digestsSpec).bare.sizedB enc Tryd.prog Tryd.f3 false (w0.forCall (fun _ _ => 0) ⟨#[], #[.string ⟨#[]⟩], []⟩).memory #[.string ⟨#[]⟩] 8 = true) :=
  ⟨World.doorLaid Tryd.prog 29 os,
    rfl, by kernel_rfl, by kernel_rfl, by kernel_rfl, laidMetH_of_parts3 (fuel := 8) (laidMet_of_run' 8 (by kernel_rfl) (by kernel_rfl)) (by kernel_rfl) (by kernel_rfl), fun _ _ => by kernel_rfl, fun _ _ => by kernel_rfl⟩

set_option maxRecDepth 100000 in
theorem lifted (os : Os) (started : os.Started) (H : Type) (enc : TypeId × Value → H) (F : Stop.Interp) :
    ReturnsInHanded {} Tryd.checked os 3 .any ((OpenSpec.ofChange Rows.digestsSpec).preRow enc Tryd.prog Tryd.f3 Rows.digestsRow.domain false Rows.digestsRow.laid) (((OpenSpec.ofChange Rows.digestsSpec).at F).post enc Tryd.prog Tryd.f3 false true false false) := by
  obtain ⟨w0, h1, h2, h3, h4, h5, h6, h7⟩ := start os
  refine returnsInHanded_of_row (C := Tryd.checked) (s := OpenSpec.ofChange Rows.digestsSpec) own started (by kernel_rfl) Tryd.func3
    (witness_row_atRef (enc := enc) (C := Tryd.checked) false w0 #[.string ⟨#[]⟩] h1 h2 h3 h4
      (OpenSpec.preRow_of_cond 8 (h6 H enc) (by kernel_rfl) (fun k hk => by cases hk) (h7 H enc) h5)) ?_
  intro W base args ds gs before hval hW _ _ hsz hL _ _
  exact contract H enc W base args ds gs before hval hW hsz hL

theorem said : Rows.DigestsSaid :=
  OpenClaim.holds_of_cond 3 Tryd.f3 rfl rfl rfl rfl rfl rfl rfl ⟨rfl, rfl, rfl, rfl, rfl⟩ rfl rfl rfl rfl rfl (by kernel_rfl) Tryd.func3 (by kernel_rfl)
    (of_decide_eq_true (by kernel_rfl)) (by unfold Func.isWrapper; first | (rw [if_pos (by decide +kernel)]; kernel_rfl) | (rw [if_neg (by decide +kernel)]; exact ⟨rfl, rfl⟩))
    (fun os started H enc _ F => by rw [OpenClaim.pre_eq_preRow]; exact lifted os started H enc F)

/-- No parameter wants a stand-in. -/
theorem plain (f : FuncId) (fn : Func) (hf : Tryd.pinned.checked.prog.funcNamed "satchel/satchellaw.Digests" = some f) (hfn : Tryd.pinned.checked.prog.funcs[f]? = some fn) :
    false = Tryd.pinned.checked.prog.looks [] ∧ ∀ (j : Nat) t, fn.params[j]? = some t → Tryd.pinned.checked.prog.wantsStandIn t = false := by
  obtain rfl : f = 3 := Option.some.inj ((show Tryd.prog.funcNamed "satchel/satchellaw.Digests" = some 3 by kernel_rfl).symm.trans hf) |>.symm
  obtain rfl : fn = Tryd.f3 := (Option.some.inj (Tryd.func3.symm.trans hfn)).symm
  refine ⟨by kernel_rfl, fun j t ht => ?_⟩
  rw [Tryd.params3] at ht
  have hm : t ∈ [9] := by simpa using Array.mem_of_getElem? ht
  obtain rfl : t = 9 := by simpa using hm
  exact (show Tryd.prog.wantsStandIn 9 = false by kernel_rfl)
end Go.Proofs.YtpboclnfjpofjaaDoor.DigestsP
namespace Go.Proofs.YtpboclnfjpofjaaDoor
/-- THE CARD. -/
theorem digests_card : Rows.DigestsCardSaid :=
  Claim7.holds_tied_plain_at .later [] _ _ _ _ DigestsP.said (fun _ h => by cases h) (by kernel_rfl) (fun _ h => by cases h) digests_row_tie rfl ⟨rfl, rfl⟩ (by kernel_rfl) rfl DigestsP.plain (by kernel_rfl)
end Go.Proofs.YtpboclnfjpofjaaDoor
