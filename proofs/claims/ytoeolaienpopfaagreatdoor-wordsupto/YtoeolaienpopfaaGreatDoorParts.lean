/- names.parseParts and names.parse: they answer what the plain parseV tells, of every text. -/
import Derived.Test.YtoeolaienpopfaaGreatDoorMarks
namespace Go.Proofs.YtoeolaienpopfaaGreatDoor
open Go.RowKit

/-- A version's value in memory. -/
def VerIs (w : World) (vv : Value) (x : List (List UInt8) × List (List UInt8)) : Prop :=
  ∃ p0 p1 p2 mv L, x = ([p0, p1, p2], L.map (fun b : ByteArray => b.data.toList)) ∧ vv = .agg #[.int .i64 (val p0), .int .i64 (val p1), .int .i64 (val p2), mv] ∧ MarksAt w mv L
theorem VerIs.below {w w' : World} {vv : Value} {x : List (List UInt8) × List (List UInt8)} (h : VerIs w vv x) (hb : Below w.heap.size w w') : VerIs w' vv x := by
  obtain ⟨p0, p1, p2, mv, L, e1, e2, hm⟩ := h
  exact ⟨p0, p1, p2, mv, L, e1, e2, hm.below hb⟩
/-- How parseParts ends. -/
def PartsEnd (l : List UInt8) (e : Ending) (w' : World) : Prop :=
  (∃ x vv, parseV l = some x ∧ e = .returned (.tuple #[vv, .nilIface]) ∧ VerIs w' vv x) ∨
  (parseV l = none ∧ ∃ y, e = .returned (.tuple #[.agg #[.int .i64 0, .int .i64 0, .int .i64 0, .slice none 0 0], .iface 142 y]))

theorem cutD_len (l : List UInt8) : (cutD l).1.length ≤ l.length ∧ (cutD l).2.1.length ≤ l.length := by
  induction l with
  | nil => exact ⟨Nat.le_refl _, Nat.le_refl _⟩
  | cons c r ih =>
    unfold cutD
    split
    · simp
    · simp; omega
theorem toList_mk' (r : List UInt8) : (⟨r.toArray⟩ : ByteArray).data.toList = r := by simp
theorem size_mk' (r : List UInt8) : (⟨r.toArray⟩ : ByteArray).size = r.length := by rw [← size_len, toList_mk']

theorem cutPrefix_yes (s : ByteArray) (r : List UInt8) (w : World) (h : s.data.toList = 118 :: r) :
    Calls Tryz.prog 65 #[.string s, .string ⟨#[118]⟩] w fun e w' => e = .returned (.tuple #[.string ⟨r.toArray⟩, .bool true]) ∧ w' = w := by
  refine (Tryz.strings_CutPrefix s ⟨#[118]⟩ w).mono ?_
  rintro e w' ⟨rfl, rfl⟩
  have := prefix_v 118 r rfl
  have e0 : (⟨#[118]⟩ : ByteArray).data.toList = [118] := rfl
  rw [h, e0, this.1, this.2]
  exact ⟨rfl, rfl⟩
theorem cutPrefix_no (s : ByteArray) (w : World) (h : ∀ r, s.data.toList ≠ 118 :: r) :
    Calls Tryz.prog 65 #[.string s, .string ⟨#[118]⟩] w fun e w' => (∃ t, e = .returned (.tuple #[.string t, .bool false])) ∧ w' = w := by
  refine (Tryz.strings_CutPrefix s ⟨#[118]⟩ w).mono ?_
  rintro e w' ⟨rfl, rfl⟩
  have e0 : (⟨#[118]⟩ : ByteArray).data.toList = [118] := rfl
  have hp : Lib.hasPrefix s.data.toList [118] = false := by
    cases hl : s.data.toList with
    | nil => exact prefix_nil
    | cons c r => exact prefix_not c r (fun e => h r (by rw [hl, e]))
  rw [e0, hp]
  exact ⟨⟨_, rfl⟩, rfl⟩
theorem cut_dash (r : List UInt8) (m : Int) (w : World) (hs : r.length ≤ 100) (hm : w.cell? ⟨22, 0, none⟩ = some (.int .i64 m)) :
    Calls Tryz.prog 66 #[.string ⟨r.toArray⟩, .string ⟨#[45]⟩] w fun e w' => e = .returned (.tuple #[.string ⟨(cutD r).1.toArray⟩, .string ⟨(cutD r).2.1.toArray⟩, .bool (cutD r).2.2]) ∧ Below w.heap.size w w' := by
  refine (Tryz.strings_Cut ⟨r.toArray⟩ ⟨#[45]⟩ m w (by rw [size_mk']; omega) hm).mono ?_
  rintro e w' ⟨rfl, n, rfl⟩
  have e0 : (⟨#[45]⟩ : ByteArray).data.toList = [45] := rfl
  rw [toList_mk', e0, cut_cutD]
  exact ⟨rfl, below_drewN n⟩

/-- A block of four cells that may be written. -/
structure Res4 (B : Nat) (w : World) : Prop where
  blk : ∃ c, w.heap[B]? = some (.cells c 64 (0, 0))
  f : ∀ o, w.frozen? ⟨B, o, none⟩ = false
  c0 : ∃ v, w.cell? ⟨B, 0, none⟩ = some v
  c1 : ∃ v, w.cell? ⟨B, 1, none⟩ = some v
  c2 : ∃ v, w.cell? ⟨B, 2, none⟩ = some v
  c3 : ∃ v, w.cell? ⟨B, 3, none⟩ = some v
theorem Res4.below {B : Nat} {w w' : World} (h : Res4 B w) (hb : Below w.heap.size w w') : Res4 B w' := by
  obtain ⟨v0, e0⟩ := h.c0
  obtain ⟨v1, e1⟩ := h.c1
  obtain ⟨v2, e2⟩ := h.c2
  obtain ⟨v3, e3⟩ := h.c3
  have hl : B < w.heap.size := lt_of_cell e0
  obtain ⟨c, hc⟩ := h.blk
  exact ⟨⟨c, by rw [hb.block B hl]; exact hc⟩, fun o => by rw [hb.frozen (p := ⟨B, o, none⟩) hl]; exact h.f o, ⟨v0, cell_below hb e0⟩, ⟨v1, cell_below hb e1⟩, ⟨v2, cell_below hb e2⟩, ⟨v3, cell_below hb e3⟩⟩
theorem res4_new (w : World) (a b c d : Value) : Res4 w.heap.size (w.alloc (.cells #[a, b, c, d] 64)) where
  blk := ⟨_, heap_alloc_new w _⟩
  f := fun o => by simp
  c0 := ⟨a, by simp⟩
  c1 := ⟨b, by simp⟩
  c2 := ⟨c, by simp⟩
  c3 := ⟨d, by simp⟩
theorem below_set4 {B : Nat} {w w' : World} (h : Below B w w') (k : Nat) (hk : B ≤ k) (a b c d : Value) : Below B w ((((w'.setCell ⟨k, 0, none⟩ a).setCell ⟨k, 1, none⟩ b).setCell ⟨k, 2, none⟩ c).setCell ⟨k, 3, none⟩ d) :=
  (((h.setCell (p := ⟨k, 0, none⟩) hk _).setCell (p := ⟨k, 1, none⟩) hk _).setCell (p := ⟨k, 2, none⟩) hk _).setCell (p := ⟨k, 3, none⟩) hk _

theorem parseV_cut {r core tail : List UInt8} {mk : Bool} (h30 : r.length ≤ 29) (h : cutD r = (core, tail, mk)) :
    parseV (118 :: r) = if (spl core).length = 3 ∧ (spl core).all numOk = true then (if mk = true then (if (spl tail).all markOk = true then some (spl core, spl tail) else none) else some (spl core, [])) else none := by
  unfold parseV
  rw [if_neg (by simp; omega)]
  simp only [h, if_true]
theorem MarksAt.slice {w : World} {v : Value} {L : List ByteArray} (h : MarksAt w v L) : ∃ ao cap, v = .slice ao L.length cap := by
  obtain ⟨base, _, h⟩ := h
  rcases h.2 with ⟨rfl, h0⟩ | ⟨g, cap, cur, rfl, _⟩
  · exact ⟨none, 0, by rw [h0]⟩
  · exact ⟨_, cap, rfl⟩
theorem marksAt_nil (w : World) : MarksAt w (.slice none 0 0) [] := ⟨0, by decide, World.ownsRow_nil _ _ _ _⟩
theorem MarksAt.set4 {w : World} {v : Value} {L : List ByteArray} (h : MarksAt w v L) (k : Nat) (hk : ∃ c, w.heap[k]? = some (.cells c 64 (0, 0))) (a b c d : Value) :
    MarksAt ((((w.setCell ⟨k, 0, none⟩ a).setCell ⟨k, 1, none⟩ b).setCell ⟨k, 2, none⟩ c).setCell ⟨k, 3, none⟩ d) v L := by
  obtain ⟨base, hl, h⟩ := h
  refine ⟨base, hl, h.kept (row := some k) ⟨rfl, rfl, rfl, by simp, fun j _ hj => ?_⟩ ?_⟩
  · have hjk : j ≠ k := fun e => hj (by rw [e])
    rw [Below.heap_setCell _ _ _ _ hjk, Below.heap_setCell _ _ _ _ hjk, Below.heap_setCell _ _ _ _ hjk, Below.heap_setCell _ _ _ _ hjk]
  · rcases h.2 with ⟨rfl, _⟩ | ⟨g, cap, cur, rfl, _, hg, _⟩
    · left; rfl
    · right
      intro e
      simp only [Value.ownBlock, Option.some.injEq] at e
      subst e
      obtain ⟨c, hc⟩ := hk
      rw [hc] at hg
      cases hg

set_option maxRecDepth 100000 in
set_option maxHeartbeats 2000000 in
theorem parseParts_walk (s : ByteArray) (w : World) (a0 a1 : Addr) (m : Int) (hs : s.size ≤ maxLen) (hW : VerW a0 a1 m w) :
    Calls Tryz.prog 52 #[.string s] w fun e w' => PartsEnd s.data.toList e w' ∧ Below w.heap.size w w' := by
  obtain ⟨x5, hx5⟩ := hW.long
  obtain ⟨x6, hx6⟩ := hW.shape
  have hl5 := lt_of_cell hx5
  have hl6 := lt_of_cell hx6
  unfold maxLen at hs
  by_cases h30 : 30 < s.size
  · have HN : Hid (parseV s.data.toList = none) := by
      show _ = _
      unfold parseV
      rw [if_pos (by rw [size_len]; exact h30)]
    clear hW
    go_enter Tryz.func52, Tryz.ntmps52
    go_wp2
    go_region
    all_goals (try go_wp2)
    exact bodyPost_ret (v := .tuple #[.agg #[.int .i64 0, .int .i64 0, .int .i64 0, .slice none 0 0], .iface 142 x5]) (by simp [results, Tryz.results52, go_sem]) rfl ⟨Or.inr ⟨HN.out, _, rfl⟩, by repeat (first | exact below_one _ _ | refine Below.drew ?_)⟩
  · by_cases hv : ∃ r, s.data.toList = 118 :: r
    · obtain ⟨r, hr⟩ := hv
      have HR : Hid (s.data.toList = 118 :: r) := hr
      have hrl : r.length ≤ 29 := by
        have := size_len s
        rw [hr] at this
        simp at this
        omega
      clear hr hx5 hx6 hl5 hl6
      obtain ⟨core, tail, mk, hcd⟩ : ∃ a b c, cutD r = (a, b, c) := ⟨_, _, _, rfl⟩
      have hcl := cutD_len r
      have HP := parseV_cut hrl hcd
      rw [hcd] at hcl
      have HCD : Hid (cutD r = (core, tail, mk)) := hcd
      have HPV : Hid (parseV s.data.toList = if (spl core).length = 3 ∧ (spl core).all numOk = true then (if mk = true then (if (spl tail).all markOk = true then some (spl core, spl tail) else none) else some (spl core, [])) else none) := by
        show _ = _
        rw [HR.out]; exact HP
      clear HP hcd
      obtain ⟨hc1, hc2⟩ := hcl
      simp only at hc1 hc2
      have hW0 := hW.below (below_one w (.cells #[.int .i64 0, .int .i64 0, .int .i64 0, .slice none 0 0] 64))
      go_enter Tryz.func52, Tryz.ntmps52
      go_wp2_with fail
      refine (cutPrefix_yes s r _ HR.out).mono ?_
      rintro e w' ⟨rfl, rfl⟩
      go_wp2_with fail
      refine (cut_dash r m _ (by omega) hW0.maxLen).mono ?_
      rintro e w1 ⟨he, hb1⟩
      rw [HCD.out] at he
      subst he
      have hR1 := (res4_new w (.int .i64 0) (.int .i64 0) (.int .i64 0) (.slice none 0 0)).below hb1
      have hB1 : Below w.heap.size w w1 := (below_one w _).trans (hb1.mono (by simp))
      have hz1 := hb1.size
      simp only [World.size_alloc] at hz1
      clear hW0 hb1
      have hV1 := hW.below hB1
      go_wp2_with fail
      refine (parseNumbers_walk ⟨core.toArray⟩ w1 a0 a1 m (by rw [size_mk']; omega) hV1).mono ?_
      rintro e w2 ⟨he, hb2⟩
      rw [toList_mk'] at he
      have hR2 := hR1.below hb2
      have hB2 : Below w.heap.size w w2 := hB1.trans (hb2.mono (by omega))
      have hz2 := hb2.size
      clear hR1 hb2 hV1 hB1
      rcases he with ⟨p0, p1, p2, hsp, hok, rfl⟩ | ⟨hno, n0, n1, n2, y, rfl⟩
      · have hR3 := hR2.below (below_one w2 (.cells #[.int .i64 (val p0), .int .i64 (val p1), .int .i64 (val p2)] 40))
        have hB3 : Below w.heap.size w (w2.alloc (.cells #[.int .i64 (val p0), .int .i64 (val p1), .int .i64 (val p2)] 40)) := hB2.alloc (by omega) _
        have HSP : Hid (spl core = [p0, p1, p2]) := hsp
        have HPV2 : Hid (parseV s.data.toList = if mk = true then (if (spl tail).all markOk = true then some ([p0, p1, p2], spl tail) else none) else some ([p0, p1, p2], [])) := by
          show _ = _
          rw [HPV.out, if_pos ⟨by rw [hsp]; rfl, by rw [hsp]; simp [hok]⟩, hsp]
        clear hsp hok HPV hR2 hB2
        obtain ⟨q0, hq0⟩ : ∃ q, q = val p0 := ⟨_, rfl⟩
        obtain ⟨q1, hq1⟩ : ∃ q, q = val p1 := ⟨_, rfl⟩
        obtain ⟨q2, hq2⟩ : ∃ q, q = val p2 := ⟨_, rfl⟩
        rw [← hq0, ← hq1, ← hq2] at hR3 hB3 ⊢
        have HQ0 : Hid (q0 = val p0) := hq0
        have HQ1 : Hid (q1 = val p1) := hq1
        have HQ2 : Hid (q2 = val p2) := hq2
        clear hq0 hq1 hq2
        cases mk
        · obtain ⟨v0, r0⟩ := hR3.c0
          obtain ⟨v1, r1⟩ := hR3.c1
          obtain ⟨v2, r2⟩ := hR3.c2
          obtain ⟨v3, r3⟩ := hR3.c3
          have rf := hR3.f
          clear hR3
          go_wp2
          refine bodyPost_ret (v := .tuple #[.agg #[.int .i64 q0, .int .i64 q1, .int .i64 q2, .slice none 0 0], .nilIface]) (by simp [results, Tryz.results52, go_sem, r0, r1, r2, r3]) rfl ⟨Or.inl ⟨_, _, HPV2.out, rfl, p0, p1, p2, _, [], rfl, by rw [HQ0.out, HQ1.out, HQ2.out], marksAt_nil _⟩, ?_⟩
          exact below_set4 hB3 _ (Nat.le_refl _) _ _ _ _
        · have hV3 := hW.below hB3
          have hz3 : w.heap.size < (w2.alloc (.cells #[.int .i64 q0, .int .i64 q1, .int .i64 q2] 40)).heap.size := by simp; omega
          go_wp2_with fail
          refine (parseMarks_walk ⟨tail.toArray⟩ _ a0 a1 m (by rw [size_mk']; omega) hV3).mono ?_
          rintro e w4 ⟨he, hb4⟩
          rw [toList_mk'] at he
          have hR4 := hR3.below hb4
          have hB4 : Below w.heap.size w w4 := hB3.trans (hb4.mono (by omega))
          have n0 := cell_below (a := ⟨w2.heap.size, 0, none⟩) (v := .int .i64 q0) hb4 (by simp)
          have n1 := cell_below (a := ⟨w2.heap.size, 1, none⟩) (v := .int .i64 q1) hb4 (by simp)
          have n2 := cell_below (a := ⟨w2.heap.size, 2, none⟩) (v := .int .i64 q2) hb4 (by simp)
          obtain ⟨v0, r0⟩ := hR4.c0
          obtain ⟨v1, r1⟩ := hR4.c1
          obtain ⟨v2, r2⟩ := hR4.c2
          obtain ⟨v3, r3⟩ := hR4.c3
          have rf := hR4.f
          have hblk := hR4.blk
          have HBlk : Hid (∃ c, w4.heap[w.heap.size]? = some (.cells c 64 (0, 0))) := hblk
          clear hR3 hR4 hV3 hB3 hb4 hblk hz3
          rcases he with ⟨L, mv, hL, hok, rfl, hM⟩ | ⟨hno, y, rfl⟩
          · have HPV3 : Hid (parseV s.data.toList = some ([p0, p1, p2], L.map (fun b : ByteArray => b.data.toList))) := by
              show _ = _
              first | rw [HPV2.out, if_pos trivial, if_pos hok, hL] | rw [HPV2.out, if_pos rfl, if_pos hok, hL]
            clear hL hok HPV2
            obtain ⟨ao, cap, rfl⟩ := hM.slice
            go_wp2
            refine bodyPost_ret (v := .tuple #[.agg #[.int .i64 q0, .int .i64 q1, .int .i64 q2, .slice ao L.length cap], .nilIface]) (by simp [results, Tryz.results52, go_sem, r0, r1, r2, r3]) rfl ⟨Or.inl ⟨_, _, HPV3.out, rfl, p0, p1, p2, _, L, rfl, by rw [HQ0.out, HQ1.out, HQ2.out], ?_⟩, ?_⟩
            · exact hM.set4 _ HBlk.out _ _ _ _
            · exact below_set4 hB4 _ (Nat.le_refl _) _ _ _ _
          · have HN : Hid (parseV s.data.toList = none) := by
              show _ = _
              first | rw [HPV2.out, if_pos trivial, if_neg (by rw [hno]; decide)] | rw [HPV2.out, if_pos rfl, if_neg (by rw [hno]; decide)]
            clear hno HPV2
            go_wp2
            refine bodyPost_ret (v := .tuple #[.agg #[.int .i64 0, .int .i64 0, .int .i64 0, .slice none 0 0], .iface 142 y]) (by simp [results, Tryz.results52, go_sem, r0, r1, r2, r3]) rfl ⟨Or.inr ⟨HN.out, _, rfl⟩, ?_⟩
            exact below_set4 hB4 _ (Nat.le_refl _) _ _ _ _
      · have hR3 := hR2.below (below_one w2 (.cells #[.int .i64 n0, .int .i64 n1, .int .i64 n2] 40))
        have hB3 : Below w.heap.size w (w2.alloc (.cells #[.int .i64 n0, .int .i64 n1, .int .i64 n2] 40)) := hB2.alloc (by omega) _
        have HN : Hid (parseV s.data.toList = none) := by show _ = _; rw [HPV.out, if_neg hno]
        obtain ⟨v0, r0⟩ := hR3.c0
        obtain ⟨v1, r1⟩ := hR3.c1
        obtain ⟨v2, r2⟩ := hR3.c2
        obtain ⟨v3, r3⟩ := hR3.c3
        have rf := hR3.f
        clear hno hR2 hR3
        go_wp2
        refine bodyPost_ret (v := .tuple #[.agg #[.int .i64 0, .int .i64 0, .int .i64 0, .slice none 0 0], .iface 142 y]) (by simp [results, Tryz.results52, go_sem, r0, r1, r2, r3]) rfl ⟨Or.inr ⟨HN.out, _, rfl⟩, ?_⟩
        exact below_set4 hB3 _ (Nat.le_refl _) _ _ _ _
    · have hv' : ∀ r, s.data.toList ≠ 118 :: r := fun r e => hv ⟨r, e⟩
      have HV : Hid (∀ r, s.data.toList ≠ 118 :: r) := hv'
      have HN : Hid (parseV s.data.toList = none) := by
        show _ = _
        unfold parseV
        rw [if_neg (by rw [size_len]; exact h30)]
        cases hl : s.data.toList with
        | nil => rfl
        | cons c r =>
          have : c ≠ 118 := fun e => hv' r (by rw [hl, e])
          simp [this]
      clear hW hv hv'
      go_enter Tryz.func52, Tryz.ntmps52
      go_wp2_with fail
      refine (cutPrefix_no s _ HV.out).mono ?_
      rintro e w' ⟨⟨t, rfl⟩, rfl⟩
      go_wp2
      go_region
      all_goals (try go_wp2)
      exact bodyPost_ret (v := .tuple #[.agg #[.int .i64 0, .int .i64 0, .int .i64 0, .slice none 0 0], .iface 142 x6]) (by simp [results, Tryz.results52, go_sem]) rfl ⟨Or.inr ⟨HN.out, _, rfl⟩, by repeat (first | exact below_one _ _ | refine Below.drew ?_)⟩
end Go.Proofs.YtoeolaienpopfaaGreatDoor
