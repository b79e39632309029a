/- satchellaw.Words answers true of every two texts of together at most some 2^20 bytes, and leaves them as they were: the card of the second form. -/
import Derived.Test.YtoeolaienpopfaaGreatDoorWords
import Derived.Test.YtoeolaienpopfaaGreatDoorCards
import Derived.Test.YtoeolaienpopfaaGreatDoorTie
import Derived.OpenShut
import Derived.LaidMore
import Derived.Stop.LaidTwo
import Derived.Deep.DeepHandedRow
import Derived.Deep.DeepWitnessRowRef
import Derived.Shelf.Vars
namespace Go.Proofs.YtoeolaienpopfaaGreatDoor.WordsP
open Go.ChangeShapes Go.WideShapes Go.ChangeAt Go.RowKit
open Go.ChangeMaps (open_string shut_string)

theorem own : ownKnob Tryz.prog.godebug = none := by kernel_rfl
theorem gType : Tryz.prog.globalNamed "errors.errorType" = some 18 := by kernel_rfl
theorem star : "*errors.errorString" = "*" ++ "errors.errorString" := by decide
theorem rowE (u : TypeId) (h : Tryz.prog.typeName? 3 u = some "*errors.errorString") : u = 142 :=
  typeName_ptr_named (nm := "errors.errorString") (by kernel_rfl) (by kernel_rfl) (by decide) u (by rw [← star]; exact h)
theorem cellsE : Tryz.prog.cellsOf 161 = 1 := by kernel_rfl
theorem cellsS : Tryz.prog.cellsOf 9 = 1 := by kernel_rfl
theorem rt : (Tryz.prog.cutTypes.find? (·.1 == "internal/reflectlite.rtype")).map (·.2) = some 101 := by kernel_rfl
theorem oneRow : ((List.range 172).filter fun t => Tryz.prog.rowNamed t [101, 114, 114, 111, 114]) = [37] := by kernel_rfl
theorem nTypes : Tryz.prog.types.size = 172 := by kernel_rfl

/-- Some of the laid variables, in their order. -/
theorem laidVars_sub {P : Program} {w : World} {l' l : List (String × DataW Unit)} (hs : l'.Sublist l) : ∀ {ps}, DataW.LaidVars P w l ps → ∃ ps', DataW.LaidVars P w l' ps' ∧ ps'.Sublist ps := by
  induction hs with
  | slnil => intro ps h; exact ⟨ps, h, List.Sublist.refl _⟩
  | cons x _ ih =>
    intro ps h
    obtain ⟨n, d⟩ := x
    obtain ⟨g, t, cs, fuel, p, q, _, _, _, _, hq, rfl⟩ := h
    obtain ⟨ps', h1, h2⟩ := ih hq
    exact ⟨ps', h1, h2.trans (List.sublist_append_right _ _)⟩
  | cons_cons x _ ih =>
    intro ps h
    obtain ⟨n, d⟩ := x
    obtain ⟨g, t, cs, fuel, p, q, e1, e2, e3, e4, hq, rfl⟩ := h
    obtain ⟨ps', h1, h2⟩ := ih hq
    exact ⟨_, ⟨g, t, cs, fuel, p, ps', e1, e2, e3, e4, h1, rfl⟩, (List.Sublist.refl _).append h2⟩
theorem laidMet_sub {P : Program} {w : World} {l' l : List (String × DataW Unit)} (hs : l'.Sublist l) (h : laidMet P l w) : laidMet P l' w := by
  obtain ⟨ps, hv, hnd, hrows⟩ := h
  obtain ⟨ps', h1, h2⟩ := laidVars_sub hs hv
  exact ⟨ps', h1, hnd.sublist h2, fun b off hm => hrows b off (h2.mem hm)⟩
/-- Two sentinels are different; each lies in a row of its own. -/
theorem two {W : World} {n0 n1 : String} {x0 x1 : List UInt8} {g0 g1 : Nat} {r : List (String × DataW Unit)} (h : laidMet Tryz.prog ((n0, .iface "*errors.errorString" (.ptr (.agg [.lit (.string x0)]))) :: (n1, .iface "*errors.errorString" (.ptr (.agg [.lit (.string x1)]))) :: r) W)
    (h0 : Tryz.prog.globalNamed n0 = some g0) (k0 : (Tryz.prog.globals[g0]?).map (·.type) = some 37) (h1 : Tryz.prog.globalNamed n1 = some g1) (k1 : (Tryz.prog.globals[g1]?).map (·.type) = some 37) :
    ∃ a0 a1 : Addr, W.cell? ⟨g0, 0, none⟩ = some (.iface 142 (.pointer (some a0))) ∧ W.cell? ⟨g1, 0, none⟩ = some (.iface 142 (.pointer (some a1))) ∧ a0 ≠ a1 ∧ (∃ c t, W.heap[a0.block]? = some (.cells c t (0, 0))) ∧ ∃ c t, W.heap[a1.block]? = some (.cells c t (0, 0)) := by
  obtain ⟨a0, a1, s0, s1, c0, c1, t0, t1, hv0, hv1, _, _, _, _, _, _, hne, hb0, hb1⟩ := laid_sentinels2 h h0 k0 h1 k1 Tryz.underlying37 rowE Tryz.underlying142 Tryz.underlying161 rfl rfl Tryz.underlying9 cellsE cellsS
  exact ⟨a0, a1, by simpa using World.var?_cell h0 hv0 0, by simpa using World.var?_cell h1 hv1 0, hne, ⟨_, _, hb0⟩, ⟨_, _, hb1⟩⟩
/-- The errors that the text lays: name, text, number. -/
def errs : List (String × List UInt8 × Nat) := [("satchel/fault.ErrArg", [110, 111, 32, 115, 117, 99, 104, 32, 97, 114, 103, 117, 109, 101, 110, 116], 0), ("satchel/deflate.ErrDeflate", [110, 111, 32, 100, 101, 102, 108, 97, 116, 101, 100, 32, 116, 101, 120, 116], 5), ("satchel/mirrors.ErrMirrors", [110, 111, 32, 108, 105, 115, 116, 32, 111, 102, 32, 109, 105, 114, 114, 111, 114, 115], 1), ("satchel/names.ErrName", [110, 111, 32, 110, 97, 109, 101], 3), ("satchel/names.ErrVersion", [110, 111, 32, 118, 101, 114, 115, 105, 111, 110], 4), ("satchel/names.errEmpty", [110, 111, 116, 104, 105, 110, 103, 32, 119, 104, 101, 114, 101, 32, 115, 111, 109, 101, 116, 104, 105, 110, 103, 32, 109, 117, 115, 116, 32, 115, 116, 97, 110, 100], 19), ("satchel/names.errLong", [116, 111, 111, 32, 109, 97, 110, 121, 32, 98, 121, 116, 101, 115], 15), ("satchel/names.errByte", [97, 32, 98, 121, 116, 101, 32, 116, 104, 97, 116, 32, 109, 97, 121, 32, 110, 111, 116, 32, 115, 116, 97, 110, 100, 32, 116, 104, 101, 114, 101], 16), ("satchel/names.errDot", [97, 32, 100, 111, 116, 32, 97, 116, 32, 97, 110, 32, 101, 108, 101, 109, 101, 110, 116, 39, 115, 32, 101, 110, 100], 20), ("satchel/names.errZero", [97, 32, 48, 32, 97, 104, 101, 97, 100, 32, 111, 102, 32, 111, 116, 104, 101, 114, 32, 100, 105, 103, 105, 116, 115], 23), ("satchel/names.errShape", [110, 111, 116, 32, 118, 32, 97, 110, 100, 32, 116, 104, 114, 101, 101, 32, 110, 117, 109, 98, 101, 114, 115], 21), ("satchel/names.errEscape", [110, 111, 116, 32, 97, 32, 116, 101, 120, 116, 32, 116, 104, 97, 116, 32, 105, 115, 32, 101, 115, 99, 97, 112, 101, 100], 17), ("satchel/info.ErrInfo", [110, 111, 32, 116, 101, 120, 116, 32, 97, 98, 111, 117, 116, 32, 97, 32, 118, 101, 114, 115, 105, 111, 110], 7), ("satchel/bundle.ErrBundle", [110, 111, 32, 97, 114, 99, 104, 105, 118, 101], 6), ("satchel/sums.ErrSums", [110, 111, 32, 116, 97, 98, 108, 101, 32, 111, 102, 32, 115, 117, 109, 115], 2), ("satchel/sums.ErrNoSum", [116, 104, 101, 32, 116, 97, 98, 108, 101, 32, 104, 97, 115, 32, 110, 111, 32, 115, 117, 99, 104, 32, 107, 101, 121], 8), ("satchel/walk.ErrSum", [110, 111, 116, 32, 116, 104, 101, 32, 115, 117, 109, 32, 116, 104, 97, 116, 32, 116, 104, 101, 32, 116, 97, 98, 108, 101, 32, 104, 97, 115], 9), ("satchel/walk.ErrOff", [116, 104, 101, 32, 108, 105, 115, 116, 32, 115, 97, 121, 115, 32, 111, 102, 102], 10), ("satchel/walk.ErrDirect", [116, 104, 101, 32, 108, 105, 115, 116, 32, 115, 97, 121, 115, 32, 100, 105, 114, 101, 99, 116], 11), ("satchel/walk.ErrNotFound", [110, 111, 32, 109, 105, 114, 114, 111, 114, 32, 104, 97, 115, 32, 105, 116], 12), ("satchel/walk.ErrFailed", [97, 32, 109, 105, 114, 114, 111, 114, 32, 102, 97, 105, 108, 101, 100], 13), ("satchel/client.ErrNone", [110, 111, 116, 32, 105, 110, 32, 116, 104, 101, 32, 99, 97, 99, 104, 101], 14)]
def ent (x : String × List UInt8 × Nat) : String × DataW Unit := (x.1, .iface "*errors.errorString" (.ptr (.agg [.lit (.string x.2.1)])))
theorem named : (errs.all fun x => Tryz.prog.globalNamed x.1 == some x.2.2 && (Tryz.prog.globals[x.2.2]?).map (·.type) == some 37) = true := by kernel_rfl
theorem named' : ∀ x ∈ errs, Tryz.prog.globalNamed x.1 = some x.2.2 ∧ (Tryz.prog.globals[x.2.2]?).map (·.type) = some 37 := fun x hx => by
  have h := List.all_eq_true.1 named x hx
  rw [Bool.and_eq_true] at h
  exact ⟨eq_of_beq h.1, eq_of_beq h.2⟩
theorem pair {W : World} (l : List (String × List UInt8 × Nat)) (h : laidMet Tryz.prog (l.map ent) W) (hl : ∀ x ∈ l, Tryz.prog.globalNamed x.1 = some x.2.2 ∧ (Tryz.prog.globals[x.2.2]?).map (·.type) = some 37) (i j : Nat) (hij : i < j) (hj : j < l.length) :
    ∃ a0 a1 : Addr, W.cell? ⟨(l[i]'(by omega)).2.2, 0, none⟩ = some (.iface 142 (.pointer (some a0))) ∧ W.cell? ⟨l[j].2.2, 0, none⟩ = some (.iface 142 (.pointer (some a1))) ∧ a0 ≠ a1 ∧ (∃ c t, W.heap[a0.block]? = some (.cells c t (0, 0))) ∧ ∃ c t, W.heap[a1.block]? = some (.cells c t (0, 0)) := by
  have hi : i < l.length := by omega
  have hs : [l[i], l[j]].Sublist l := by
    have h1 : (l.drop i).Sublist l := List.drop_sublist i l
    rw [List.drop_eq_getElem_cons hi] at h1
    refine List.Sublist.trans (List.Sublist.cons_cons _ (List.singleton_sublist.2 ?_)) h1
    have e : l[j] = (l.drop (i + 1))[j - (i + 1)]'(by rw [List.length_drop]; omega) := by
      rw [List.getElem_drop]
      congr 1
      omega
    rw [e]
    exact List.getElem_mem _
  have h2 : laidMet Tryz.prog [ent l[i], ent l[j]] W := laidMet_sub (hs.map ent) h
  exact two h2 (hl _ (List.getElem_mem hi)).1 (hl _ (List.getElem_mem hi)).2 (hl _ (List.getElem_mem hj)).1 (hl _ (List.getElem_mem hj)).2
theorem sents {W : World} (l : List (String × List UInt8 × Nat)) (h : laidMet Tryz.prog (l.map ent) W) (hl : ∀ x ∈ l, Tryz.prog.globalNamed x.1 = some x.2.2 ∧ (Tryz.prog.globals[x.2.2]?).map (·.type) = some 37) (h2 : 2 ≤ l.length) :
    ∃ ad : Nat → Addr, (∀ i (hi : i < l.length), W.cell? ⟨l[i].2.2, 0, none⟩ = some (.iface 142 (.pointer (some (ad i)))) ∧ ∃ c t, W.heap[(ad i).block]? = some (.cells c t (0, 0))) ∧ ∀ i j, i < l.length → j < l.length → i ≠ j → ad i ≠ ad j := by
  have ex : ∀ i, ∃ a : Addr, ∀ hi : i < l.length, W.cell? ⟨l[i].2.2, 0, none⟩ = some (.iface 142 (.pointer (some a))) ∧ ∃ c t, W.heap[a.block]? = some (.cells c t (0, 0)) := by
    intro i
    by_cases hi : i < l.length
    · by_cases h3 : i + 1 < l.length
      · obtain ⟨a0, a1, c0, c1, ne, r0, r1⟩ := pair l h hl i (i + 1) (by omega) h3
        exact ⟨a0, fun _ => ⟨c0, r0⟩⟩
      · obtain ⟨a0, a1, c0, c1, ne, r0, r1⟩ := pair l h hl (i - 1) i (by omega) hi
        exact ⟨a1, fun _ => ⟨c1, r1⟩⟩
    · exact ⟨⟨0, 0, none⟩, fun h => absurd h hi⟩
  refine ⟨fun i => (ex i).choose, fun i hi => (ex i).choose_spec hi, ?_⟩
  have lt : ∀ i j, i < j → j < l.length → (ex i).choose ≠ (ex j).choose := by
    intro i j hij hj e
    obtain ⟨a0, a1, c0, c1, ne, _, _⟩ := pair l h hl i j hij hj
    have d0 := ((ex i).choose_spec (by omega)).1
    have d1 := ((ex j).choose_spec hj).1
    rw [c0] at d0
    rw [c1] at d1
    injection d0 with d0; injection d0 with _ d0; injection d0 with d0; injection d0 with d0
    injection d1 with d1; injection d1 with _ d1; injection d1 with d1; injection d1 with d1
    exact ne (by rw [d0, d1]; exact e)
  intro i j hi hj hij
  rcases Nat.lt_or_gt_of_ne hij with q | q
  · exact lt i j q hj
  · exact fun e => lt j i q hi e.symm
/-- Where each error that number asks for stands in the list. -/
def pos (i : Nat) : Nat := [0, 2, 14, 3, 4, 1, 13, 12, 15, 16, 17, 18, 19, 20, 21].getD i 0
theorem pos_lt : ∀ i, i < 15 → pos i < errs.length := by decide
theorem pos_ne : ∀ i, i < 15 → ∀ j, j < 15 → i ≠ j → pos i ≠ pos j := by decide
/-- What the list of laid variables, and the world's shape, give the walks. -/
theorem of_laid {W : World} (h : laidMetH Tryz.prog Rows.wordsUptoRow.laid W) (hsh : W.ShapedOpen Tryz.prog) : ∃ ad m, WordsW ad m W := by
  have h' : laidMet Tryz.prog [("unicode/utf8.acceptRanges", Rows.laid_unicode_utf8_acceptRanges), ("satchel/fault.ErrArg", Rows.laid_satchel_fault_ErrArg), ("satchel/deflate.ErrDeflate", Rows.laid_satchel_deflate_ErrDeflate), ("satchel/mirrors.ErrMirrors", Rows.laid_satchel_mirrors_ErrMirrors), ("satchel/names.ErrName", Rows.laid_satchel_names_ErrName), ("satchel/names.ErrVersion", Rows.laid_satchel_names_ErrVersion), ("satchel/names.errEmpty", Rows.laid_satchel_names_errEmpty), ("satchel/names.errLong", Rows.laid_satchel_names_errLong), ("satchel/names.errByte", Rows.laid_satchel_names_errByte), ("satchel/names.errDot", Rows.laid_satchel_names_errDot), ("satchel/names.errZero", Rows.laid_satchel_names_errZero), ("satchel/names.errShape", Rows.laid_satchel_names_errShape), ("satchel/names.errEscape", Rows.laid_satchel_names_errEscape), ("satchel/info.ErrInfo", Rows.laid_satchel_info_ErrInfo), ("satchel/bundle.ErrBundle", Rows.laid_satchel_bundle_ErrBundle), ("satchel/sums.ErrSums", Rows.laid_satchel_sums_ErrSums), ("satchel/sums.ErrNoSum", Rows.laid_satchel_sums_ErrNoSum), ("satchel/walk.ErrSum", Rows.laid_satchel_walk_ErrSum), ("satchel/walk.ErrOff", Rows.laid_satchel_walk_ErrOff), ("satchel/walk.ErrDirect", Rows.laid_satchel_walk_ErrDirect), ("satchel/walk.ErrNotFound", Rows.laid_satchel_walk_ErrNotFound), ("satchel/walk.ErrFailed", Rows.laid_satchel_walk_ErrFailed), ("satchel/client.ErrNone", Rows.laid_satchel_client_ErrNone), ("unicode/utf8.first", Rows.laid_unicode_utf8_first)] W ∧ handlesMet Tryz.prog [("errors.errorType", Rows.laid_errors_errorType)] W := h
  obtain ⟨hd, hh⟩ := h'
  have hS : laidMet Tryz.prog (errs.map ent) W := laidMet_sub (l' := [("satchel/fault.ErrArg", Rows.laid_satchel_fault_ErrArg), ("satchel/deflate.ErrDeflate", Rows.laid_satchel_deflate_ErrDeflate), ("satchel/mirrors.ErrMirrors", Rows.laid_satchel_mirrors_ErrMirrors), ("satchel/names.ErrName", Rows.laid_satchel_names_ErrName), ("satchel/names.ErrVersion", Rows.laid_satchel_names_ErrVersion), ("satchel/names.errEmpty", Rows.laid_satchel_names_errEmpty), ("satchel/names.errLong", Rows.laid_satchel_names_errLong), ("satchel/names.errByte", Rows.laid_satchel_names_errByte), ("satchel/names.errDot", Rows.laid_satchel_names_errDot), ("satchel/names.errZero", Rows.laid_satchel_names_errZero), ("satchel/names.errShape", Rows.laid_satchel_names_errShape), ("satchel/names.errEscape", Rows.laid_satchel_names_errEscape), ("satchel/info.ErrInfo", Rows.laid_satchel_info_ErrInfo), ("satchel/bundle.ErrBundle", Rows.laid_satchel_bundle_ErrBundle), ("satchel/sums.ErrSums", Rows.laid_satchel_sums_ErrSums), ("satchel/sums.ErrNoSum", Rows.laid_satchel_sums_ErrNoSum), ("satchel/walk.ErrSum", Rows.laid_satchel_walk_ErrSum), ("satchel/walk.ErrOff", Rows.laid_satchel_walk_ErrOff), ("satchel/walk.ErrDirect", Rows.laid_satchel_walk_ErrDirect), ("satchel/walk.ErrNotFound", Rows.laid_satchel_walk_ErrNotFound), ("satchel/walk.ErrFailed", Rows.laid_satchel_walk_ErrFailed), ("satchel/client.ErrNone", Rows.laid_satchel_client_ErrNone)]) (by repeat (first | exact List.nil_sublist _ | apply List.Sublist.cons_cons | apply List.Sublist.cons)) hd
  obtain ⟨ad, hc, hne⟩ := sents errs hS named' (by decide)
  obtain ⟨name, u, ty, e1, e2, e3, e4, e5⟩ := hh _ (List.mem_singleton.2 rfl)
  have en : name = [101, 114, 114, 111, 114] := (Option.some.inj e1).symm
  subst en
  obtain rfl := Option.some.inj (rt.symm.trans e2)
  have hm : ty ∈ (List.range 172).filter fun t => Tryz.prog.rowNamed t [101, 114, 114, 111, 114] := List.mem_filter.2 ⟨List.mem_range.2 (by rw [← nTypes]; exact e3), e4⟩
  rw [oneRow] at hm
  obtain rfl := List.mem_singleton.1 hm
  have hth : typeHandle Tryz.prog 37 = .pointer (some ⟨26, 37, none⟩) := by kernel_rfl
  rw [hth] at e5
  have htyp : W.cell? ⟨18, 0, none⟩ = some (.iface 101 (.agg #[.pointer (some ⟨26, 37, none⟩)])) := by simpa using World.var?_cell gType e5 0
  obtain ⟨m, hmax⟩ : ∃ m, W.cell? ⟨22, 0, none⟩ = some (.int .i64 m) := cell_of_shapedOpen_int (t := 3) (zero := #[.int .i64 0]) hsh (of_decide_eq_true (by kernel_rfl)) (by kernel_rfl) rfl (by kernel_rfl) (by kernel_rfl) Tryz.underlying3
  refine ⟨fun i => ad (pos i), m, ⟨⟨⟨(hc 4 (by decide)).1, ⟨_, (hc 5 (by decide)).1⟩, ⟨_, (hc 6 (by decide)).1⟩, ⟨_, (hc 7 (by decide)).1⟩, ⟨_, (hc 9 (by decide)).1⟩, ⟨_, (hc 10 (by decide)).1⟩, hmax⟩, ⟨(hc 0 (by decide)).1, (hc 2 (by decide)).1, (hc 14 (by decide)).1, (hc 3 (by decide)).1, (hc 4 (by decide)).1, (hc 1 (by decide)).1, (hc 13 (by decide)).1, (hc 12 (by decide)).1, (hc 15 (by decide)).1, (hc 16 (by decide)).1, (hc 17 (by decide)).1, (hc 18 (by decide)).1, (hc 19 (by decide)).1, (hc 20 (by decide)).1, (hc 21 (by decide)).1, htyp, ?_, ?_⟩, ⟨_, (hc 8 (by decide)).1⟩⟩, ⟨_, (hc 11 (by decide)).1⟩⟩⟩
  · intro i j hi hj hij
    exact hne _ _ (pos_lt i hi) (pos_lt j hj) (pos_ne i hi j hj hij)
  · intro i hi
    exact (hc (pos i) (pos_lt i hi)).2

set_option maxRecDepth 100000 in
theorem contract (H : Type) (enc : TypeId × Value → H) (W : World) (base : Nat) (args : Array Value) (ds gs : List (DataW H)) (before : List MemPlace)
    (hval : ∀ (j : Nat) t v, Tryz.f3.params[j]? = some t → args[j]? = some v → Value.okWide Tryz.prog W .any base t v)
    (hW : DataW.Whole enc Tryz.prog Tryz.f3.params.toList Rows.wordsSpec.vars false W args.toList ds gs before) (hk : Rows.uptoSmall H (ds ++ gs) = true) (hL : laidMetH Tryz.prog Rows.wordsUptoRow.laid W) (hsh : W.ShapedOpen Tryz.prog) :
    Calls Tryz.prog 3 args W fun e W' => ∃ v, e = .returned v ∧ Rows.wordsSpec.post enc Tryz.prog Tryz.f3 false true false false W args v W' := by
  have hW' := hW
  obtain ⟨p, q, hA0, hV, rfl, hfz, hnd⟩ := hW
  have hA : DataW.TrodAll enc Tryz.prog W 0 (fun _ => true) true Tryz.f3.params.toList args.toList ds p := hA0
  rw [Tryz.params3] at hA hval
  obtain ⟨v0, v1, d0, d1, p0, p1, rfl, rfl, rfl, h0, h1⟩ := trodAll_two hA
  obtain ⟨rfl, rfl⟩ := trodVars_none hV
  obtain ⟨a, rfl, rfl, rfl, ha⟩ := open_string Tryz.underlying9 (hval 0 9 v0 rfl rfl) h0
  obtain ⟨b, rfl, rfl, rfl, hb⟩ := open_string Tryz.underlying9 (hval 1 9 v1 rfl rfl) h1
  clear hA0
  have hbd : a.size ≤ 1048576 ∧ b.size ≤ 1048576 := by
    have h := of_decide_eq_true hk
    simp only [List.append_nil, Rows.uptoBulkAll, Rows.uptoBulk] at h
    have e : a.data.toList.length = a.size := by simp
    have e' : b.data.toList.length = b.size := by simp
    omega
  simp only [List.append_nil] at hW'
  obtain ⟨ad, m, hB⟩ := of_laid hL hsh
  refine (words_walk a b W ad m hbd.1 hbd.2 hB).mono fun e W' ⟨he, hg⟩ => ?_
  subst he
  refine ⟨_, rfl, _, _, _, [], [], [], hW', ?_, ?_, ?_, hg.frame _, fun h => by cases h⟩
  · exact trodAll_mk1 (shut_bool Tryz.underlying4 _)
  · exact trodAll_mk2 (shut_string Tryz.underlying9 ha) (shut_string Tryz.underlying9 hb)
  · rfl

/-- A start for the witness: the heap that the variables' own initialisers leave, the library's table laid in its block; the texts are empty. -/
theorem start (os : Os) : ∃ w0 : World, w0.os = os ∧ (w0.forCall (fun _ _ => 0) ⟨#[], #[.string ⟨#[]⟩, .string ⟨#[]⟩], []⟩).variablesRefB Tryz.prog = true ∧
    ((w0.forCall (fun _ _ => 0) ⟨#[], #[.string ⟨#[]⟩, .string ⟨#[]⟩], []⟩).heap.toList.drop Tryz.prog.globals.size).take ((begin Tryz.prog (fun _ _ => 0) default).world.heap.size - Tryz.prog.globals.size) = (begin Tryz.prog (fun _ _ => 0) default).world.heap.toList.drop Tryz.prog.globals.size ∧
    Input.okWideB Tryz.prog (w0.forCall (fun _ _ => 0) ⟨#[], #[.string ⟨#[]⟩, .string ⟨#[]⟩], []⟩) 3 ⟨#[], #[.string ⟨#[]⟩, .string ⟨#[]⟩], []⟩ = true ∧
    laidMetH Tryz.prog Rows.wordsUptoRow.laid (w0.forCall (fun _ _ => 0) ⟨#[], #[.string ⟨#[]⟩, .string ⟨#[]⟩], []⟩).memory ∧
    (∀ (H : Type) (enc : TypeId × Value → H), DataW.whole enc Tryz.prog (w0.forCall (fun _ _ => 0) ⟨#[], #[.string ⟨#[]⟩, .string ⟨#[]⟩], []⟩).memory Tryz.f3.params.toList Rows.wordsSpec.vars false #[Value.string ⟨#[]⟩, Value.string ⟨#[]⟩].toList 8 = some ([.lit (.string []), .lit (.string [])], [], [])) ∧
    (∀ (H : Type) (enc : TypeId × Value → H), (Rows.OpenSpec.upto Rows.wordsSpec).bare.sizedB enc Tryz.prog Tryz.f3 false (w0.forCall (fun _ _ => 0) ⟨#[], #[.string ⟨#[]⟩, .string ⟨#[]⟩], []⟩).memory #[.string ⟨#[]⟩, .string ⟨#[]⟩] 8 = true) :=
  ⟨{ World.doorLaid Tryz.prog 444 os with heap := (World.doorLaid Tryz.prog 444 os).heap.modify 24 fun | .cells _ t frozen => .cells (Go.Pinned.utf8FirstZ.map fun n : Nat => Value.int .u8 (Int.ofNat n)).toArray t frozen | o => o },
    rfl, by kernel_rfl, by kernel_rfl, by kernel_rfl, laidMetH_of_parts3 (fuel := 8) (laidMet_of_run' 8 (by kernel_rfl) (by kernel_rfl)) (by kernel_rfl) (by kernel_rfl), fun _ _ => by kernel_rfl, fun _ _ => by kernel_rfl⟩

set_option maxRecDepth 100000 in
theorem lifted (os : Os) (started : os.Started) (H : Type) (enc : TypeId × Value → H) (F : Stop.Interp) :
    ReturnsInHanded {} Tryz.checked os 3 .any ((Rows.OpenSpec.upto Rows.wordsSpec).preRow enc Tryz.prog Tryz.f3 Rows.wordsUptoRow.domain false Rows.wordsUptoRow.laid) (((Rows.OpenSpec.upto Rows.wordsSpec).at F).post enc Tryz.prog Tryz.f3 false true false false) := by
  obtain ⟨w0, h1, h2, h3, h4, h5, h6, h7⟩ := start os
  refine returnsInHanded_of_row (C := Tryz.checked) (s := Rows.OpenSpec.upto Rows.wordsSpec) own started (by kernel_rfl) Tryz.func3
    (witness_row_atRef (enc := enc) (C := Tryz.checked) false w0 #[.string ⟨#[]⟩, .string ⟨#[]⟩] h1 h2 h3 h4
      (OpenSpec.preRow_of_cond 8 (h6 H enc) (by kernel_rfl) (fun k hk => by cases hk; kernel_rfl) (h7 H enc) h5)) ?_
  intro W base args ds gs before hval hW _ hcond _ hL hsh _
  exact contract H enc W base args ds gs before hval hW (hcond _ rfl) hL hsh

theorem said : Rows.WordsUptoSaid :=
  OpenClaim.holds_of_cond 3 Tryz.f3 rfl rfl rfl rfl rfl rfl rfl ⟨rfl, rfl, rfl, rfl, rfl⟩ rfl rfl rfl rfl rfl (by kernel_rfl) Tryz.func3 (by kernel_rfl)
    (of_decide_eq_true (by kernel_rfl)) (by unfold Func.isWrapper; first | (rw [if_pos (by decide +kernel)]; kernel_rfl) | (rw [if_neg (by decide +kernel)]; exact ⟨rfl, rfl⟩))
    (fun os started H enc _ F => by rw [OpenClaim.pre_eq_preRow]; exact lifted os started H enc F)

/-- No parameter wants a stand-in. -/
theorem plain (f : FuncId) (fn : Func) (hf : Tryz.pinned.checked.prog.funcNamed "satchel/satchellaw.Words" = some f) (hfn : Tryz.pinned.checked.prog.funcs[f]? = some fn) :
    true = Tryz.pinned.checked.prog.looks [] ∧ ∀ (j : Nat) t, fn.params[j]? = some t → Tryz.pinned.checked.prog.wantsStandIn t = false := by
  obtain rfl : f = 3 := Option.some.inj ((show Tryz.prog.funcNamed "satchel/satchellaw.Words" = some 3 by kernel_rfl).symm.trans hf) |>.symm
  obtain rfl : fn = Tryz.f3 := (Option.some.inj (Tryz.func3.symm.trans hfn)).symm
  refine ⟨by kernel_rfl, fun j t ht => ?_⟩
  rw [Tryz.params3] at ht
  have hm : t ∈ [9, 9] := by simpa using Array.mem_of_getElem? ht
  obtain rfl : t = 9 := by simpa using hm
  exact (show Tryz.prog.wantsStandIn 9 = false by kernel_rfl)
end Go.Proofs.YtoeolaienpopfaaGreatDoor.WordsP
namespace Go.Proofs.YtoeolaienpopfaaGreatDoor
/-- THE CARD OF THE SECOND FORM. -/
theorem words_upto_card : Rows.WordsUptoCardSaid :=
  Claim7.holds_tied_plain_at .later [] _ _ _ _ WordsP.said (fun _ h => by cases h) (by kernel_rfl) (fun _ h => by cases h) wordsUpto_row_tie rfl ⟨rfl, rfl⟩ (by kernel_rfl) rfl WordsP.plain (by kernel_rfl)
end Go.Proofs.YtoeolaienpopfaaGreatDoor
