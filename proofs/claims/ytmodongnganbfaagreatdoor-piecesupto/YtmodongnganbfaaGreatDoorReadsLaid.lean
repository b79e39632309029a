/- What the laid variables of satchellaw.Reads give the walks. -/
import Derived.Test.YtmodongnganbfaaGreatDoorPcLawToRqE
import Derived.Test.YtmodongnganbfaaGreatDoorCards
import Derived.Test.YtmodongnganbfaaGreatDoorTie
import Derived.ProofKit
import Derived.OpenShut
import Derived.LaidMore
import Derived.Stop.LaidTwo
import Derived.Deep.DeepHandedRow
import Derived.Deep.DeepWitnessRowRef
import Derived.Shelf.Vars
namespace Go.Proofs.YtmodongnganbfaaGreatDoor.ReadsP
open Go.ChangeShapes Go.WideShapes Go.ChangeAt Go.RowKit Go.Proofs.YtmodongnganbfaaGreatDoor Go.Proofs.YtmodongnganbfaaGreatDoor.Rep
open Go.ChangeMaps (open_string shut_string)

theorem own : ownKnob Tryz.prog.godebug = none := by kernel_rfl
theorem gType : Tryz.prog.globalNamed "errors.errorType" = some 7 := by kernel_rfl
theorem star : "*errors.errorString" = "*" ++ "errors.errorString" := by decide
theorem rowE (u : TypeId) (h : Tryz.prog.typeName? 3 u = some "*errors.errorString") : u = 182 :=
  typeName_ptr_named (nm := "errors.errorString") (by kernel_rfl) (by kernel_rfl) (by decide) u (by rw [← star]; exact h)
theorem cellsE : Tryz.prog.cellsOf 200 = 1 := by kernel_rfl
theorem cellsS : Tryz.prog.cellsOf 9 = 1 := by kernel_rfl
theorem rt : (Tryz.prog.cutTypes.find? (·.1 == "internal/reflectlite.rtype")).map (·.2) = some 125 := by kernel_rfl
theorem oneRow : ((List.range 211).filter fun t => Tryz.prog.rowNamed t [101, 114, 114, 111, 114]) = [50] := by kernel_rfl
theorem nTypes : Tryz.prog.types.size = 211 := by kernel_rfl

/-- Some of the laid variables, in their order. -/
theorem laidVars_sub {P : Program} {w : World} {l' l : List (String × DataW Unit)} (hs : l'.Sublist l) : ∀ {ps}, DataW.LaidVars P w l ps → ∃ ps', DataW.LaidVars P w l' ps' ∧ ps'.Sublist ps := by
  induction hs with
  | slnil => intro ps h; exact ⟨ps, h, List.Sublist.refl _⟩
  | cons x _ ih =>
    intro ps h
    obtain ⟨n, d⟩ := x
    obtain ⟨g, t, cs, fuel, p, q, _, _, _, _, hq, rfl⟩ := h
    obtain ⟨ps', h1, h2⟩ := ih hq
    exact ⟨ps', h1, h2.trans (List.sublist_append_right _ _)⟩
  | cons_cons x _ ih =>
    intro ps h
    obtain ⟨n, d⟩ := x
    obtain ⟨g, t, cs, fuel, p, q, e1, e2, e3, e4, hq, rfl⟩ := h
    obtain ⟨ps', h1, h2⟩ := ih hq
    exact ⟨_, ⟨g, t, cs, fuel, p, ps', e1, e2, e3, e4, h1, rfl⟩, (List.Sublist.refl _).append h2⟩
theorem laidMet_sub {P : Program} {w : World} {l' l : List (String × DataW Unit)} (hs : l'.Sublist l) (h : laidMet P l w) : laidMet P l' w := by
  obtain ⟨ps, hv, hnd, hrows⟩ := h
  obtain ⟨ps', h1, h2⟩ := laidVars_sub hs hv
  exact ⟨ps', h1, hnd.sublist h2, fun b off hm => hrows b off (h2.mem hm)⟩
/-- Two sentinels are different; each lies in a row of its own. -/
theorem two {W : World} {n0 n1 : String} {x0 x1 : List UInt8} {g0 g1 : Nat} {r : List (String × DataW Unit)} (h : laidMet Tryz.prog ((n0, .iface "*errors.errorString" (.ptr (.agg [.lit (.string x0)]))) :: (n1, .iface "*errors.errorString" (.ptr (.agg [.lit (.string x1)]))) :: r) W)
    (h0 : Tryz.prog.globalNamed n0 = some g0) (k0 : (Tryz.prog.globals[g0]?).map (·.type) = some 50) (h1 : Tryz.prog.globalNamed n1 = some g1) (k1 : (Tryz.prog.globals[g1]?).map (·.type) = some 50) :
    ∃ a0 a1 : Addr, W.cell? ⟨g0, 0, none⟩ = some (.iface 182 (.pointer (some a0))) ∧ W.cell? ⟨g1, 0, none⟩ = some (.iface 182 (.pointer (some a1))) ∧ a0 ≠ a1 ∧ (∃ c t, W.heap[a0.block]? = some (.cells c t (0, 0))) ∧ ∃ c t, W.heap[a1.block]? = some (.cells c t (0, 0)) := by
  obtain ⟨a0, a1, s0, s1, c0, c1, t0, t1, hv0, hv1, _, _, _, _, _, _, hne, hb0, hb1⟩ := laid_sentinels2 h h0 k0 h1 k1 Tryz.underlying50 rowE Tryz.underlying182 Tryz.underlying200 rfl rfl Tryz.underlying9 cellsE cellsS
  exact ⟨a0, a1, by simpa using World.var?_cell h0 hv0 0, by simpa using World.var?_cell h1 hv1 0, hne, ⟨_, _, hb0⟩, ⟨_, _, hb1⟩⟩
/-- The errors that the text lays: name, text, number. -/
def errs : List (String × List UInt8 × Nat) := [("satchel/reply.errTwice", [97, 32, 102, 105, 101, 108, 100, 32, 116, 104, 97, 116, 32, 105, 115, 32, 116, 104, 101, 114, 101, 32, 116, 119, 105, 99, 101], 9), ("satchel/reply.errNumber", [110, 111, 116, 32, 49, 32, 116, 111, 32, 57, 32, 100, 105, 103, 105, 116, 115], 14), ("satchel/reply.errCoding", [110, 111, 116, 32, 99, 104, 117, 110, 107, 101, 100], 15), ("satchel/reply.errSpan", [110, 111, 32, 114, 97, 110, 103, 101, 32, 111, 102, 32, 98, 121, 116, 101, 115], 16), ("satchel/reply.errBoth", [97, 32, 108, 101, 110, 103, 116, 104, 44, 32, 97, 110, 100, 32, 99, 104, 117, 110, 107, 115], 10), ("satchel/reply.errNoRange", [97, 32, 112, 97, 114, 116, 32, 111, 102, 32, 110, 111, 116, 104, 105, 110, 103], 11), ("satchel/reply.errByte", [97, 32, 98, 121, 116, 101, 32, 116, 104, 97, 116, 32, 99, 97, 110, 110, 111, 116, 32, 115, 116, 97, 110, 100, 32, 116, 104, 101, 114, 101], 5), ("satchel/reply.errLong", [109, 111, 114, 101, 32, 98, 121, 116, 101, 115, 32, 111, 102, 32, 108, 105, 110, 101, 115, 32, 116, 104, 97, 110, 32, 116, 104, 101, 114, 101, 32, 109, 97, 121, 32, 98, 101], 8), ("satchel/reply.errHead", [97, 32, 119, 114, 111, 110, 103, 32, 104, 101, 97, 100], 1), ("satchel/reply.errLimit", [109, 111, 114, 101, 32, 98, 121, 116, 101, 115, 32, 111, 102, 32, 98, 111, 100, 121, 32, 116, 104, 97, 110, 32, 109, 97, 121, 32, 99, 111, 109, 101], 4), ("satchel/reply.errPart", [110, 111, 116, 32, 115, 111, 32, 109, 97, 110, 121, 32, 98, 121, 116, 101, 115, 32, 111, 102, 32, 98, 111, 100, 121, 32, 97, 115, 32, 116, 104, 101, 32, 104, 101, 97, 100, 32, 115, 97, 121, 115], 0), ("satchel/reply.errAgain", [97, 32, 114, 101, 112, 108, 121, 32, 116, 104, 97, 116, 32, 119, 97, 115, 32, 99, 117, 116, 32, 111, 102, 102], 3), ("satchel/reply.errBroken", [110, 111, 32, 114, 101, 112, 108, 121], 6), ("satchel/reply.errRefused", [116, 104, 101, 32, 100, 105, 97, 108, 32, 119, 97, 115, 32, 114, 101, 102, 117, 115, 101, 100], 12), ("satchel/reply.errLate", [116, 104, 101, 32, 100, 101, 97, 100, 108, 105, 110, 101, 32, 105, 115, 32, 111, 118, 101, 114], 17), ("satchel/reply.errReset", [116, 104, 101, 32, 99, 111, 110, 110, 101, 99, 116, 105, 111, 110, 32, 98, 114, 111, 107, 101], 13), ("satchel/reply.errClosed", [116, 104, 101, 32, 111, 116, 104, 101, 114, 32, 115, 105, 100, 101, 32, 101, 110, 100, 101, 100, 32, 116, 104, 101, 32, 99, 111, 110, 110, 101, 99, 116, 105, 111, 110], 2)]
def ent (x : String × List UInt8 × Nat) : String × DataW Unit := (x.1, .iface "*errors.errorString" (.ptr (.agg [.lit (.string x.2.1)])))
theorem named : (errs.all fun x => Tryz.prog.globalNamed x.1 == some x.2.2 && (Tryz.prog.globals[x.2.2]?).map (·.type) == some 50) = true := by kernel_rfl
theorem named' : ∀ x ∈ errs, Tryz.prog.globalNamed x.1 = some x.2.2 ∧ (Tryz.prog.globals[x.2.2]?).map (·.type) = some 50 := fun x hx => by
  have h := List.all_eq_true.1 named x hx
  rw [Bool.and_eq_true] at h
  exact ⟨eq_of_beq h.1, eq_of_beq h.2⟩
theorem pair {W : World} (l : List (String × List UInt8 × Nat)) (h : laidMet Tryz.prog (l.map ent) W) (hl : ∀ x ∈ l, Tryz.prog.globalNamed x.1 = some x.2.2 ∧ (Tryz.prog.globals[x.2.2]?).map (·.type) = some 50) (i j : Nat) (hij : i < j) (hj : j < l.length) :
    ∃ a0 a1 : Addr, W.cell? ⟨(l[i]'(by omega)).2.2, 0, none⟩ = some (.iface 182 (.pointer (some a0))) ∧ W.cell? ⟨l[j].2.2, 0, none⟩ = some (.iface 182 (.pointer (some a1))) ∧ a0 ≠ a1 ∧ (∃ c t, W.heap[a0.block]? = some (.cells c t (0, 0))) ∧ ∃ c t, W.heap[a1.block]? = some (.cells c t (0, 0)) := by
  have hi : i < l.length := by omega
  have hs : [l[i], l[j]].Sublist l := by
    have h1 : (l.drop i).Sublist l := List.drop_sublist i l
    rw [List.drop_eq_getElem_cons hi] at h1
    refine List.Sublist.trans (List.Sublist.cons_cons _ (List.singleton_sublist.2 ?_)) h1
    have e : l[j] = (l.drop (i + 1))[j - (i + 1)]'(by rw [List.length_drop]; omega) := by
      rw [List.getElem_drop]
      congr 1
      omega
    rw [e]
    exact List.getElem_mem _
  have h2 : laidMet Tryz.prog [ent l[i], ent l[j]] W := laidMet_sub (hs.map ent) h
  exact two h2 (hl _ (List.getElem_mem hi)).1 (hl _ (List.getElem_mem hi)).2 (hl _ (List.getElem_mem hj)).1 (hl _ (List.getElem_mem hj)).2
theorem sents {W : World} (l : List (String × List UInt8 × Nat)) (h : laidMet Tryz.prog (l.map ent) W) (hl : ∀ x ∈ l, Tryz.prog.globalNamed x.1 = some x.2.2 ∧ (Tryz.prog.globals[x.2.2]?).map (·.type) = some 50) (h2 : 2 ≤ l.length) :
    ∃ ad : Nat → Addr, (∀ i (hi : i < l.length), W.cell? ⟨l[i].2.2, 0, none⟩ = some (.iface 182 (.pointer (some (ad i)))) ∧ ∃ c t, W.heap[(ad i).block]? = some (.cells c t (0, 0))) ∧ ∀ i j, i < l.length → j < l.length → i ≠ j → ad i ≠ ad j := by
  have ex : ∀ i, ∃ a : Addr, ∀ hi : i < l.length, W.cell? ⟨l[i].2.2, 0, none⟩ = some (.iface 182 (.pointer (some a))) ∧ ∃ c t, W.heap[a.block]? = some (.cells c t (0, 0)) := by
    intro i
    by_cases hi : i < l.length
    · by_cases h3 : i + 1 < l.length
      · obtain ⟨a0, a1, c0, c1, ne, r0, r1⟩ := pair l h hl i (i + 1) (by omega) h3
        exact ⟨a0, fun _ => ⟨c0, r0⟩⟩
      · obtain ⟨a0, a1, c0, c1, ne, r0, r1⟩ := pair l h hl (i - 1) i (by omega) hi
        exact ⟨a1, fun _ => ⟨c1, r1⟩⟩
    · exact ⟨⟨0, 0, none⟩, fun h => absurd h hi⟩
  refine ⟨fun i => (ex i).choose, fun i hi => (ex i).choose_spec hi, ?_⟩
  have lt : ∀ i j, i < j → j < l.length → (ex i).choose ≠ (ex j).choose := by
    intro i j hij hj e
    obtain ⟨a0, a1, c0, c1, ne, _, _⟩ := pair l h hl i j hij hj
    have d0 := ((ex i).choose_spec (by omega)).1
    have d1 := ((ex j).choose_spec hj).1
    rw [c0] at d0
    rw [c1] at d1
    injection d0 with d0; injection d0 with _ d0; injection d0 with d0; injection d0 with d0
    injection d1 with d1; injection d1 with _ d1; injection d1 with d1; injection d1 with d1
    exact ne (by rw [d0, d1]; exact e)
  intro i j hi hj hij
  rcases Nat.lt_or_gt_of_ne hij with q | q
  · exact lt i j q hj
  · exact fun e => lt j i q hi e.symm
/-- Where each error that number asks for stands in the list. -/
def pos (i : Nat) : Nat := [13, 15, 14, 16, 11, 12, 6, 7, 8, 9, 10, 0, 1, 2, 3, 4, 5].getD i 0
theorem pos_lt : ∀ i, i < 17 → pos i < errs.length := by decide
theorem pos_ne : ∀ i, i < 17 → ∀ j, j < 17 → i ≠ j → pos i ≠ pos j := by decide
/-- What the list of laid variables, and the world's shape, give the walks. -/
theorem of_laid {W : World} (h : laidMetH Tryz.prog Rows.readsRow.laid W) (hsh : W.ShapedOpen Tryz.prog) : ∃ ad mx, RepX ad W.heap.size mx W := by
  have h' : laidMet Tryz.prog [("unicode/utf8.acceptRanges", Rows.laid_unicode_utf8_acceptRanges), ("satchel/reply.errTwice", Rows.laid_satchel_reply_errTwice), ("satchel/reply.errNumber", Rows.laid_satchel_reply_errNumber), ("satchel/reply.errCoding", Rows.laid_satchel_reply_errCoding), ("satchel/reply.errSpan", Rows.laid_satchel_reply_errSpan), ("satchel/reply.errBoth", Rows.laid_satchel_reply_errBoth), ("satchel/reply.errNoRange", Rows.laid_satchel_reply_errNoRange), ("satchel/reply.errByte", Rows.laid_satchel_reply_errByte), ("satchel/reply.errLong", Rows.laid_satchel_reply_errLong), ("satchel/reply.errHead", Rows.laid_satchel_reply_errHead), ("satchel/reply.errLimit", Rows.laid_satchel_reply_errLimit), ("satchel/reply.errPart", Rows.laid_satchel_reply_errPart), ("satchel/reply.errAgain", Rows.laid_satchel_reply_errAgain), ("satchel/reply.errBroken", Rows.laid_satchel_reply_errBroken), ("satchel/reply.errRefused", Rows.laid_satchel_reply_errRefused), ("satchel/reply.errLate", Rows.laid_satchel_reply_errLate), ("satchel/reply.errReset", Rows.laid_satchel_reply_errReset), ("satchel/reply.errClosed", Rows.laid_satchel_reply_errClosed), ("unicode.CaseRanges", Rows.laid_unicode_CaseRanges), ("unicode/utf8.first", Rows.laid_unicode_utf8_first)] W ∧ handlesMet Tryz.prog [("errors.errorType", Rows.laid_errors_errorType)] W := h
  obtain ⟨hd, hh⟩ := h'
  have hS : laidMet Tryz.prog (errs.map ent) W := laidMet_sub (l' := [("satchel/reply.errTwice", Rows.laid_satchel_reply_errTwice), ("satchel/reply.errNumber", Rows.laid_satchel_reply_errNumber), ("satchel/reply.errCoding", Rows.laid_satchel_reply_errCoding), ("satchel/reply.errSpan", Rows.laid_satchel_reply_errSpan), ("satchel/reply.errBoth", Rows.laid_satchel_reply_errBoth), ("satchel/reply.errNoRange", Rows.laid_satchel_reply_errNoRange), ("satchel/reply.errByte", Rows.laid_satchel_reply_errByte), ("satchel/reply.errLong", Rows.laid_satchel_reply_errLong), ("satchel/reply.errHead", Rows.laid_satchel_reply_errHead), ("satchel/reply.errLimit", Rows.laid_satchel_reply_errLimit), ("satchel/reply.errPart", Rows.laid_satchel_reply_errPart), ("satchel/reply.errAgain", Rows.laid_satchel_reply_errAgain), ("satchel/reply.errBroken", Rows.laid_satchel_reply_errBroken), ("satchel/reply.errRefused", Rows.laid_satchel_reply_errRefused), ("satchel/reply.errLate", Rows.laid_satchel_reply_errLate), ("satchel/reply.errReset", Rows.laid_satchel_reply_errReset), ("satchel/reply.errClosed", Rows.laid_satchel_reply_errClosed)]) (by repeat (first | exact List.nil_sublist _ | apply List.Sublist.cons_cons | apply List.Sublist.cons)) hd
  obtain ⟨ad, hc, hne⟩ := sents errs hS named' (by decide)
  obtain ⟨name, u, ty, e1, e2, e3, e4, e5⟩ := hh _ (List.mem_singleton.2 rfl)
  have en : name = [101, 114, 114, 111, 114] := (Option.some.inj e1).symm
  subst en
  obtain rfl := Option.some.inj (rt.symm.trans e2)
  have hm : ty ∈ (List.range 211).filter fun t => Tryz.prog.rowNamed t [101, 114, 114, 111, 114] := List.mem_filter.2 ⟨List.mem_range.2 (by rw [← nTypes]; exact e3), e4⟩
  rw [oneRow] at hm
  obtain rfl := List.mem_singleton.1 hm
  have hth : typeHandle Tryz.prog 50 = .pointer (some ⟨22, 50, none⟩) := by kernel_rfl
  rw [hth] at e5
  have htyp : W.cell? ⟨7, 0, none⟩ = some (.iface 125 (.agg #[.pointer (some ⟨22, 50, none⟩)])) := by simpa using World.var?_cell gType e5 0
  obtain ⟨m, hmax⟩ : ∃ m, W.cell? ⟨21, 0, none⟩ = some (.int .i64 m) := cell_of_shapedOpen_int (t := 3) (zero := #[.int .i64 0]) hsh (of_decide_eq_true (by kernel_rfl)) (by kernel_rfl) rfl (by kernel_rfl) (by kernel_rfl) Tryz.underlying3
  have hng : 22 ≤ W.heap.size := by
    have k1 := lt_of_cell htyp
    have k0 := lt_of_cell hmax
    have q0 : 9 < W.heap.size := lt_of_cell (hc 0 (by decide)).1
    have q1 : 14 < W.heap.size := lt_of_cell (hc 1 (by decide)).1
    have q2 : 15 < W.heap.size := lt_of_cell (hc 2 (by decide)).1
    have q3 : 16 < W.heap.size := lt_of_cell (hc 3 (by decide)).1
    have q4 : 10 < W.heap.size := lt_of_cell (hc 4 (by decide)).1
    have q5 : 11 < W.heap.size := lt_of_cell (hc 5 (by decide)).1
    have q6 : 5 < W.heap.size := lt_of_cell (hc 6 (by decide)).1
    have q7 : 8 < W.heap.size := lt_of_cell (hc 7 (by decide)).1
    have q8 : 1 < W.heap.size := lt_of_cell (hc 8 (by decide)).1
    have q9 : 4 < W.heap.size := lt_of_cell (hc 9 (by decide)).1
    have q10 : 0 < W.heap.size := lt_of_cell (hc 10 (by decide)).1
    have q11 : 3 < W.heap.size := lt_of_cell (hc 11 (by decide)).1
    have q12 : 6 < W.heap.size := lt_of_cell (hc 12 (by decide)).1
    have q13 : 12 < W.heap.size := lt_of_cell (hc 13 (by decide)).1
    have q14 : 17 < W.heap.size := lt_of_cell (hc 14 (by decide)).1
    have q15 : 13 < W.heap.size := lt_of_cell (hc 15 (by decide)).1
    have q16 : 2 < W.heap.size := lt_of_cell (hc 16 (by decide)).1
    simp only at k0 k1
    omega
  refine ⟨fun i => ad (pos i), m, ⟨⟨(hc 13 (by decide)).1, (hc 15 (by decide)).1, (hc 14 (by decide)).1, (hc 16 (by decide)).1, (hc 11 (by decide)).1, (hc 12 (by decide)).1, (hc 6 (by decide)).1, (hc 7 (by decide)).1, (hc 8 (by decide)).1, (hc 9 (by decide)).1, (hc 10 (by decide)).1, (hc 0 (by decide)).1, (hc 1 (by decide)).1, (hc 2 (by decide)).1, (hc 3 (by decide)).1, (hc 4 (by decide)).1, (hc 5 (by decide)).1, htyp, ?_, ?_, hng⟩, hmax⟩⟩
  · intro i j hi hj hij
    exact hne _ _ (pos_lt i hi) (pos_lt j hj) (pos_ne i hi j hj hij)
  · intro i hi
    obtain ⟨c, t, e⟩ := (hc (pos i) (pos_lt i hi)).2
    exact ⟨lt_of_block e, c, t, e⟩
end Go.Proofs.YtmodongnganbfaaGreatDoor.ReadsP
