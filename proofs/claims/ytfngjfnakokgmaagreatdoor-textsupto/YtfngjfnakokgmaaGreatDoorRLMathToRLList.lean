/- The document's own List: how a version is put at its place. Plain lists; what lies in memory. -/
import Derived.Test.YtfngjfnakokgmaaGreatDoorListBToRLSplit
import Derived.Test.YtfngjfnakokgmaaGreatDoorRefG
import Derived.Laws.AppendOwnNone
namespace Go.Proofs.YtfngjfnakokgmaaGreatDoor
open Go.RowKit
/-- The first k lines, those that are versions, each put at its place. -/
def putK (L : List ByteArray) (k : Nat) : List (List UInt8) := Lst.putAll ltT (((L.take k).map (·.data.toList)).filter fun x => (parseV x).isSome)
theorem putK_skip (L : List ByteArray) (k : Nat) (hk : k < L.length) (hp : parseV L[k].data.toList = none) : putK L (k + 1) = putK L k := by
  unfold putK
  rw [List.take_succ_eq_append_getElem hk, List.map_append, List.filter_append]
  simp [hp]
theorem putK_put (L : List ByteArray) (k : Nat) (hk : k < L.length) (hp : parseV L[k].data.toList ≠ none) : putK L (k + 1) = Lst.put ltT L[k].data.toList (putK L k) := by
  unfold putK Lst.putAll
  have : (parseV L[k].data.toList).isSome = true := by cases hq : parseV L[k].data.toList with
    | none => exact absurd hq hp
    | some x => rfl
  rw [List.take_succ_eq_append_getElem hk, List.map_append, List.filter_append]
  simp [this]
theorem putK_all (L : List ByteArray) (l : List UInt8) (h : L.map (·.data.toList) = splC 10 l) (k : Nat) (hk : L.length ≤ k) : putK L k = listP l := by
  unfold putK listP lines
  rw [List.take_of_length_le hk, h]
theorem place_le (x : List UInt8) : ∀ l : List (List UInt8), Lst.place ltT x l ≤ l.length
  | [] => Nat.le_refl _
  | y :: l => by
    have := place_le x l
    unfold Lst.place
    split <;> simp; omega
theorem place_cons (x y : List UInt8) (l : List (List UInt8)) : Lst.place ltT x (y :: l) = if ltT x y = true then 0 else Lst.place ltT x l + 1 := rfl
theorem ltT_cmp {a b : List UInt8} {x y : List (List UInt8) × List (List UInt8)} (ha : parseV a = some x) (hb : parseV b = some y) : (cmpV x y < 0 ↔ ltT a b = true) ∧ (cmpV x y = 0 ↔ a = b) := by
  constructor
  · unfold ltT
    rw [xOf_some ha, xOf_some hb]; simp
  · rw [cmpV_good.eq0 x y (parse_ok ha) (parse_ok hb)]
    constructor
    · intro e; subst e; exact parse_inj ha hb
    · intro e; subst e; rw [ha] at hb; injection hb
/-- What the loop over what was put already keeps: from p on. -/
def atP (x : List UInt8) (l : List (List UInt8)) (p : Nat) : Nat := p + Lst.place ltT x (l.drop p)
theorem atP_end (x : List UInt8) (l : List (List UInt8)) : atP x l l.length = l.length := by unfold atP; simp [Lst.place]
theorem atP_step (x : List UInt8) (l : List (List UInt8)) (q : Nat) (hq : q < l.length) : atP x l q = if ltT x l[q] = true then q else atP x l (q + 1) := by
  unfold atP
  rw [List.drop_eq_getElem_cons hq, place_cons]
  split
  · rfl
  · omega
theorem mem_step (x : List UInt8) (l : List (List UInt8)) (q : Nat) (hq : q < l.length) : (x ∈ l.drop q) ↔ (x = l[q] ∨ x ∈ l.drop (q + 1)) := by
  rw [List.drop_eq_getElem_cons hq, List.mem_cons]
/-- The texts put so far, in a row of the call's own. -/
structure Put (base : Nat) (v : Value) (T : List ByteArray) (w : World) : Prop where
  own : w.ownsRow base 9 1 v T.length (T.map Value.string)
  none' : T = [] → v = .slice none 0 0
  good : ∀ t ∈ T, parseV t.data.toList ≠ none
theorem put_nil (base : Nat) (w : World) : Put base (.slice none 0 0) [] w := ⟨World.ownsRow_nil _ _ _ _, fun _ => rfl, fun t ht => by cases ht⟩
theorem Put.below {base : Nat} {v : Value} {T : List ByteArray} {w w' : World} (h : Put base v T w) (hb : Below w.heap.size w w') : Put base v T w' := ⟨own_below h.own hb, h.none', h.good⟩
theorem Put.row {base : Nat} {v : Value} {T : List ByteArray} {w : World} (h : Put base v T w) (hne : T ≠ []) : ∃ g cap, v = .slice (some ⟨g, 0, none⟩) T.length cap ∧ base ≤ g ∧ g < w.heap.size ∧ T.length ≤ cap ∧ ∀ k (hk : k < T.length), w.cell? ⟨g, k, none⟩ = some (.string T[k]) := by
  have h2 := h.own
  rcases h.own.2 with ⟨_, h0⟩ | ⟨g, cap, cur, rfl, hb, hg, hc, _⟩
  · exact absurd (List.eq_nil_of_length_eq_zero h0) hne
  · refine ⟨g, cap, rfl, hb, lt_of_block hg, hc, fun k hk => ?_⟩
    have := h2.cellAt k (by omega)
    rw [this]; simp [hk]
theorem ver_len {l : List UInt8} (h : parseV l ≠ none) : l.length ≤ 30 := by
  rcases Nat.lt_or_ge 30 l.length with h1 | h1
  · exact absurd (by unfold parseV; rw [if_pos h1]) h
  · exact h1
theorem own_base {w : World} {base base' : Nat} {e : TypeId} {size : Nat} {v : Value} {n : Nat} {xs : List Value} (h : w.ownsRow base e size v n xs) (hb : base' ≤ base) : w.ownsRow base' e size v n xs := by
  refine ⟨h.1, ?_⟩
  rcases h.2 with h | ⟨g, cap, cur, q1, q2, q3⟩
  · exact .inl h
  · exact .inr ⟨g, cap, cur, q1, Nat.le_trans hb q2, q3⟩
theorem marks_ok {l : List UInt8} {x : List (List UInt8) × List (List UInt8)} (h : parseV l = some x) : ∀ a ∈ x.2, markOk a = true ∧ a.length ≤ 30 := fun a ha => ⟨(parse_ok h).2 a ha, parse_len h a ha⟩
theorem rverIs_form {w : World} {vv : Value} {x : List (List UInt8) × List (List UInt8)} (h : RVerIs w vv x) : ∃ q0 q1 q2 ao n cap, vv = .agg #[.int .i64 q0, .int .i64 q1, .int .i64 q2, .slice ao n cap] := by
  obtain ⟨p0, p1, p2, mv, L, rfl, rfl, hM⟩ := h
  obtain ⟨ao, cap, rfl⟩ := hM.slice
  exact ⟨_, _, _, _, _, _, rfl⟩
end Go.Proofs.YtfngjfnakokgmaaGreatDoor
/- The document's own List. -/
namespace Go.Proofs.YtfngjfnakokgmaaGreatDoor
open Go.RowKit
def RLPost (s : ByteArray) (w : World) (e : Ending) (w' : World) : Prop :=
  ∃ (v : Value) (T : List ByteArray), e = .returned v ∧ T.map (·.data.toList) = listP s.data.toList ∧ Put w.heap.size v T w' ∧ T.length ≤ 1048577 ∧ Below w.heap.size w w'
def RLRel (w w1 : World) (L : List ByteArray) (v i : Value) (wr : World) : Prop :=
  ∃ (k : Nat) (T : List ByteArray), k ≤ L.length ∧ i = .int .i64 (k : Int) ∧ Put w.heap.size v T wr ∧ T.length ≤ k ∧ T.map (·.data.toList) = putK L k ∧ Below w1.heap.size w1 wr
/-- What the inner loop keeps. -/
def RIn (wv : World) (x : List UInt8) (T : List ByteArray) (at_ again k : Value) (wx : World) : Prop :=
  ∃ p : Nat, p ≤ T.length ∧ at_ = .int .i64 ((atP x (T.map (·.data.toList)) p : Nat) : Int) ∧ again = .bool (decide (x ∈ (T.map (·.data.toList)).drop p)) ∧ k = .int .i64 ((p : Int) - 1) ∧ Below wv.heap.size wv wx
theorem len_map (T : List ByteArray) : (T.map (·.data.toList)).length = T.length := List.length_map _
theorem nth_map (T : List ByteArray) (q : Nat) (hq : q < T.length) : (T.map (·.data.toList))[q]'(by rw [len_map]; exact hq) = T[q].data.toList := by simp
theorem strs_one (T : List ByteArray) : ∀ u ∈ T.map Value.string, u.oneCell' = true := by
  intro u hu
  obtain ⟨t, _, rfl⟩ := List.mem_map.1 hu
  rfl
theorem take_cells {w : World} {g : Nat} {T : List ByteArray} (h : ∀ k (hk : k < T.length), w.cell? ⟨g, k, none⟩ = some (.string T[k])) {pl : Nat} (j : Nat) (u : Value) (hj : ((T.take pl).map Value.string)[j]? = some u) : w.cell? ((⟨g, 0, none⟩ : Addr).add j) = some u := by
  rw [List.getElem?_map] at hj
  obtain ⟨t, ht, rfl⟩ := Option.map_eq_some_iff.1 hj
  rw [List.getElem?_take] at ht
  split at ht
  · obtain ⟨hjl, rfl⟩ := List.getElem?_eq_some_iff.1 ht
    rw [Addr.add_lit, Nat.zero_add]; exact h j hjl
  · cases ht
theorem drop_cells {w : World} {g : Nat} {T : List ByteArray} (h : ∀ k (hk : k < T.length), w.cell? ⟨g, k, none⟩ = some (.string T[k])) (pl j : Nat) (u : Value) (hj : ((T.drop pl).map Value.string)[j]? = some u) : w.cell? ((⟨g, pl, none⟩ : Addr).add j) = some u := by
  rw [List.getElem?_map] at hj
  obtain ⟨t, ht, rfl⟩ := Option.map_eq_some_iff.1 hj
  rw [List.getElem?_drop] at ht
  obtain ⟨hjl, rfl⟩ := List.getElem?_eq_some_iff.1 ht
  rw [Addr.add_lit]; exact h (pl + j) hjl
theorem drop_cells' {w : World} {g off : Nat} {T : List ByteArray} (h : ∀ k (hk : k < T.length), w.cell? ⟨g, k, none⟩ = some (.string T[k])) {pl : Nat} (ho : pl < T.length → off = pl) (j : Nat) (u : Value) (hj : ((T.drop pl).map Value.string)[j]? = some u) : w.cell? ((⟨g, off, none⟩ : Addr).add j) = some u := by
  by_cases hp : pl < T.length
  · rw [ho hp]; exact drop_cells h pl j u hj
  · rw [List.drop_of_length_le (by omega)] at hj
    simp at hj
theorem slice_rest (g n cv pl : Nat) (h1 : pl ≤ n) (h2 : n ≤ cv) : ∃ off, (pl < n → off = pl) ∧ ∀ wx, (Instr.slice 39 (.slice (some ⟨g, 0, none⟩) n cv) (some (.int .i64 (pl : Int))) none none).run Tryz.prog wx = .ok (.slice (some ⟨g, off, none⟩) (n - pl) (cv - pl)) wx := by
  refine ⟨if cv = pl then 0 else pl, fun h => if_neg (by omega), fun wx => ?_⟩
  have hsz : (Go.sizeOf (Tryz.prog.elem 39)).run Tryz.prog wx = .ok 1 wx := by kernel_rfl
  rw [run_slice_l wx 39 (some ⟨g, 0, none⟩) n cv (by kernel_rfl) .i64 (pl : Int) (by omega) (by omega), hsz]
  simp only [Result.andThen, sliced, Int.toNat_natCast, Nat.mul_one]
  by_cases h : cv = pl
  · simp [h]
  · simp [h, Addr.add]
    intro e; exact e.symm
theorem Put.slice {base : Nat} {v : Value} {T : List ByteArray} {w : World} (h : Put base v T w) : ∃ ao cap, v = .slice ao T.length cap := by
  by_cases hT : T = []
  · exact ⟨none, 0, by rw [h.none' hT, hT]; rfl⟩
  · obtain ⟨g, cap, e, _⟩ := h.row hT
    exact ⟨_, _, e⟩
set_option maxRecDepth 100000 in
set_option maxHeartbeats 4000000 in
theorem rlist_walk (s : ByteArray) (w : World) (hs : s.size ≤ 1048576) :
    Calls Tryz.prog 7 #[.string s] w fun e w' => RLPost s w e w' := by
  obtain ⟨i0, hi, hz0, hz1, hz2⟩ := info_parts strInfo
  go_enter Tryz.func7, Tryz.ntmps7
  go_wp2_with fail
  refine (refSplitN_walk s 10 w hs).mono ?_
  rintro e w1 ⟨L, vt, hL, hl, rfl, hown1, hb1⟩
  have hLne : L ≠ [] := fun e => by
    rw [e] at hL
    exact splC_ne 10 _ hL.symm
  have HL : Hid (L.map (·.data.toList) = splC 10 s.data.toList) := hL
  have hzw := hb1.size
  obtain ⟨gt, capt, hvt, hgtl, hcellt⟩ : ∃ gt capt, vt = .slice (some ⟨gt, 0, none⟩) L.length capt ∧ gt < w1.heap.size ∧ ∀ k (hk : k < L.length), w1.cell? ⟨gt, k, none⟩ = some (.string L[k]) := by
    have h2 := hown1
    rcases hown1.2 with ⟨_, h0⟩ | ⟨g, cap, cur, rfl, hb, hg, hc, _⟩
    · exact absurd (List.eq_nil_of_length_eq_zero h0) hLne
    · refine ⟨g, cap, rfl, lt_of_block hg, fun k hk => ?_⟩
      have := h2.cellAt k (by omega)
      rw [this]; simp [hk]
  subst hvt
  have HCt : Hid (∀ k (hk : k < L.length), w1.cell? ⟨gt, k, none⟩ = some (.string L[k])) := hcellt
  have HPz : Hid (∀ p ∈ L, p.size ≤ 1048576) := fun p hp => by
    have := (splC_len 10 s.data.toList).1 p.data.toList (by rw [← hL]; exact List.mem_map_of_mem hp)
    rw [size_len, size_len] at this
    omega
  clear hL hown1 hcellt hLne
  go_wp2
  go_loopw [4, 5] (fun v i wr => RLRel w w1 L v i wr) (fun _ i _ => L.length - (intOf i).toNat)
  case atStart => exact ⟨0, [], Nat.zero_le _, rfl, put_nil _ _, Nat.zero_le _, rfl, Below.refl _ _⟩
  case round =>
    obtain ⟨k, T, hk, rfl, hPt, hTl, hTm, hB⟩ := hrel
    have HPt : Hid (Put w.heap.size _ T wr) := hPt
    have HTm : Hid (T.map (·.data.toList) = putK L k) := hTm
    have hBw : Below w.heap.size w wr := hb1.trans (hB.mono hzw)
    have hszr := hB.size
    clear hPt hTm
    by_cases hlt : k < L.length
    · have hlt' : (k : Int) < (L.length : Int) := by omega
      have hcell : wr.cell? ⟨gt, k, none⟩ = some (.string L[k]) := by rw [hB.cell (p := ⟨gt, k, none⟩) hgtl]; exact HCt.out k hlt
      have hq := HPz.out L[k] (List.getElem_mem hlt)
      go_wp2_with fail
      refine (refVersion_walk L[k] wr (by omega)).mono ?_
      rintro e w2 ⟨he, hb2⟩
      have hB2 : Below w1.heap.size w1 w2 := hB.trans (hb2.mono hszr)
      have hBw2 : Below w.heap.size w w2 := hBw.trans (hb2.mono (by omega))
      have HPt2 : Hid (Put w.heap.size _ T w2) := HPt.out.below hb2
      have hzB2 := hb2.size
      clear hcell hB hBw hb2 HPt
      rcases he with ⟨x, vv, hx, rfl, hv⟩ | ⟨hx, n0, n1, n2, ao0, nn, cap0, rfl⟩
      · obtain ⟨q0, q1, q2, ao1, n1, cap1, rfl⟩ := rverIs_form hv
        obtain ⟨wv, HWv⟩ : ∃ wv, Hid (w2.alloc (.cells #[.int .i64 q0, .int .i64 q1, .int .i64 q2, .slice ao1 n1 cap1] 58) = wv) := ⟨_, rfl⟩
        obtain ⟨V, HVb⟩ : ∃ V, Hid (w2.heap.size = V) := ⟨_, rfl⟩
        have hbv : Below w2.heap.size w2 wv := by rw [← HWv.out]; exact below_one w2 _
        have hVl : V < wv.heap.size := by rw [← HWv.out, ← HVb.out]; simp
        have d0 : wv.cell? ⟨V, 0, none⟩ = some (.int .i64 q0) := by rw [← HWv.out, ← HVb.out]; simp
        have d1 : wv.cell? ⟨V, 1, none⟩ = some (.int .i64 q1) := by rw [← HWv.out, ← HVb.out]; simp
        have d2 : wv.cell? ⟨V, 2, none⟩ = some (.int .i64 q2) := by rw [← HWv.out, ← HVb.out]; simp
        have d3 : wv.cell? ⟨V, 3, none⟩ = some (.slice ao1 n1 cap1) := by rw [← HWv.out, ← HVb.out]; simp
        have HDs : Hid (wv.cell? ⟨V, 0, none⟩ = some (.int .i64 q0) ∧ wv.cell? ⟨V, 1, none⟩ = some (.int .i64 q1) ∧ wv.cell? ⟨V, 2, none⟩ = some (.int .i64 q2) ∧ wv.cell? ⟨V, 3, none⟩ = some (.slice ao1 n1 cap1)) := ⟨d0, d1, d2, d3⟩
        have HVi : Hid (RVerIs wv (.agg #[.int .i64 q0, .int .i64 q1, .int .i64 q2, .slice ao1 n1 cap1]) x) := hv.below hbv
        have HX : Hid (parseV L[k].data.toList = some x) := hx
        have hBv : Below w1.heap.size w1 wv := hB2.trans (hbv.mono (by omega))
        have hBwv : Below w.heap.size w wv := hBw2.trans (hbv.mono (by omega))
        have HPv : Hid (Put w.heap.size _ T wv) := HPt2.out.below hbv
        obtain ⟨lv, cv, hlv⟩ := HPv.out.slice
        subst hlv
        clear d0 d1 d2 d3 hv hx hbv hB2 hBw2 HPt2
        go_wp2
        rw [HWv.out, HVb.out]
        go_loopw [8, 9, 10] (fun at_ again kk wx => RIn wv L[k].data.toList T at_ again kk wx) (fun _ _ kk _ => (intOf kk + 1).toNat)
        case atStart =>
          refine ⟨T.length, Nat.le_refl _, ?_, ?_, by go_num, Below.refl _ _⟩
          · have := atP_end L[k].data.toList (T.map (·.data.toList))
            rw [len_map] at this
            rw [this]
          · rw [List.drop_of_length_le (by rw [len_map]; exact Nat.le_refl _)]; rfl
        case round =>
          obtain ⟨p, hp, rfl, rfl, rfl, hBx⟩ := hrel
          have hzx := hBx.size
          cases p with
          | zero =>
            have HAt : Hid (atP L[k].data.toList (T.map (·.data.toList)) 0 = Lst.place ltT L[k].data.toList (T.map (·.data.toList))) := by show 0 + _ = _; rw [Nat.zero_add]; rfl
            rw [HAt.out, List.drop_zero]
            have hle := place_le L[k].data.toList (T.map (·.data.toList))
            rw [len_map] at hle
            by_cases hmem : L[k].data.toList ∈ T.map (·.data.toList)
            · have HR : Hid (RLRel w w1 L (.slice lv T.length cv) (.int .i64 ((k : Int) + 1)) wr) :=
                ⟨k + 1, T, by omega, by simp, HPv.out.below hBx, by omega, by
                  rw [putK_put L k hlt (by rw [HX.out]; exact Option.some_ne_none _), Lst.put, if_pos (by rw [← HTm.out]; exact hmem)]; exact HTm.out, hBv.trans (hBx.mono (by have := hBv.size; omega))⟩
              rw [decide_eq_true hmem]
              clear hmem hle HAt
              go_wp2
              go_roundw
              case rel => exact HR.out
              case measure => simp [intOf]; omega
            · rw [decide_eq_false hmem]
              obtain ⟨pl, hpl⟩ : ∃ pl, pl = Lst.place ltT L[k].data.toList (T.map (·.data.toList)) := ⟨_, rfl⟩
              have HPl : Hid (Lst.place ltT L[k].data.toList (T.map (·.data.toList)) = pl) := hpl.symm
              clear hpl
              rw [HPl.out] at hle ⊢
              have HPx : Hid (Put w.heap.size (.slice lv T.length cv) T wr) := HPv.out.below hBx
              have HPut : Hid (putK L (k + 1) = (T.map (·.data.toList)).take pl ++ [L[k].data.toList] ++ (T.map (·.data.toList)).drop pl) := by
                show _ = _
                rw [putK_put L k hlt (by rw [HX.out]; exact Option.some_ne_none _), Lst.put, if_neg (by rw [← HTm.out]; exact hmem), ← HTm.out, HPl.out]
              have hcell : wr.cell? ⟨gt, k, none⟩ = some (.string L[k]) := by
                rw [hBx.cell (p := ⟨gt, k, none⟩) (by show gt < _; have := hBv.size; omega), hBv.cell (p := ⟨gt, k, none⟩) hgtl]; exact HCt.out k hlt
              have hBwx : Below w.heap.size w wr := hBwv.trans (hBx.mono (by have := hBwv.size; omega))
              have hB1x : Below w1.heap.size w1 wr := hBv.trans (hBx.mono (by have := hBv.size; omega))
              have hzz := hBwx.size
              clear hmem HAt
              by_cases hT : T = []
              · subst hT
                have hv0 := HPx.out.none' rfl
                injection hv0 with hv1 hv2 hv3
                subst hv1 hv3
                have hpl0 : pl = 0 := by simp at hle; exact hle
                subst hpl0
                have hn0 : wr.ownsRow wr.heap.size 9 1 (.slice none 0 0) 0 ([] : List Value) := World.ownsRow_nil _ _ _ _
                go_wp2_with (at_builtin; first | refine wpList_append_own_none rfl _ _ 39 rfl wr.heap.size 9 i0 1 Tryz.underlying39 hi _ 0 [] rfl hn0 rfl ?_ | refine wpList_append_own _ rfl _ _ 39 rfl wr.heap.size 9 i0 (.string ⟨#[]⟩) 1 16 Tryz.underlying39 hi hz0 hz1 hz2 rfl (by decide) _ _ _ rfl (hn0.alloc _) ⟨wr.heap.size, 0, none⟩ 1 1 [.string L[k]] rfl rfl (cells_new1 _ _ _) (fun u hu => by simp at hu; subst hu; rfl) (by unfold maxLen; omega) (by omega) (by simp) ?_)
                intro v6 w6 hown6 hgrow6 _
                have hB6 : Below wr.heap.size wr w6 := (below_one wr _).grown hgrow6 (by simp) (fun j hj => by cases hj)
                have HR : Hid (RLRel w w1 L v6 (.int .i64 ((k : Int) + 1)) w6) := by
                  refine ⟨k + 1, [L[k]], by omega, by simp, ⟨own_base hown6 hzz, fun e => (by cases e), fun t ht => ?_⟩, by simp, ?_, hB1x.trans (hB6.mono (by have := hB1x.size; omega))⟩
                  · rw [List.mem_singleton.1 ht, HX.out]; exact Option.some_ne_none _
                  · rw [HPut.out]; rfl
                clear hgrow6
                go_wp2_with (at_builtin; refine wpList_append_own_none rfl _ _ 39 rfl wr.heap.size 9 i0 1 Tryz.underlying39 hi _ _ _ rfl hown6 rfl ?_)
                go_roundw
                case rel => exact HR.out
                case measure => simp [intOf]; omega
              · obtain ⟨g, cap, hv0, hbg, hgl, hcap, hcl⟩ := HPx.out.row hT
                injection hv0 with hv1 hv2 hv3
                subst hv1 hv3
                have hn0 : wr.ownsRow wr.heap.size 9 1 (.slice none 0 0) 0 ([] : List Value) := World.ownsRow_nil _ _ _ _
                have hTlen : T.length ≤ 1048577 := by omega
                have hpl1 : (pl : Int) ≤ (T.length : Int) := by omega
                have hpl2 : (pl : Int) ≤ (cv : Int) := by omega
                have hpl0 : (0 : Int) ≤ (pl : Int) := by omega
                have HCl : Hid (∀ k (hk : k < T.length), wr.cell? ⟨g, k, none⟩ = some (.string T[k])) := hcl
                clear hcl hv2
                go_wp2_with (at_builtin; refine wpList_append_own _ rfl _ _ 39 rfl wr.heap.size 9 i0 (.string ⟨#[]⟩) 1 16 Tryz.underlying39 hi hz0 hz1 hz2 rfl (by decide) _ _ _ rfl hn0 ⟨g, 0, none⟩ pl cv ((T.take pl).map Value.string) rfl (by rw [List.length_map, List.length_take]; omega) (fun j u hj => take_cells HCl.out j u hj) (strs_one _) (by unfold maxLen; omega) (by omega) (Nat.le_refl _) ?_)
                intro v6 w6 hown6 hgrow6 _
                have hB6 : Below wr.heap.size wr w6 := (Below.refl _ wr).grown hgrow6 (Nat.le_refl _) (fun j hj => by cases hj)
                have hz6 := hB6.size
                have hc6 : w6.cell? ⟨gt, k, none⟩ = some (.string L[k]) := cell_below hB6 hcell
                clear hgrow6 hcell
                go_wp2_with (at_builtin; refine wpList_append_own _ rfl _ _ 39 rfl wr.heap.size 9 i0 (.string ⟨#[]⟩) 1 16 Tryz.underlying39 hi hz0 hz1 hz2 rfl (by decide) _ _ _ rfl (hown6.alloc _) ⟨w6.heap.size, 0, none⟩ 1 1 [.string L[k]] rfl rfl (cells_new1 _ _ _) (fun u hu => by simp at hu; subst hu; rfl) (by unfold maxLen; omega) (by omega) (by simp; omega) ?_)
                intro v7 w7 hown7 hgrow7 _
                have hB7 : Below wr.heap.size wr w7 := (hB6.alloc hz6 _).grown hgrow7 (by simp; omega) (fun j hj => (hown6.lt j hj).1)
                have hz7 := hB7.size
                clear hgrow7 hc6
                obtain ⟨off3, hoff, hsl3⟩ := slice_rest g T.length cv pl hle hcap
                have HOff : Hid (pl < T.length → off3 = pl) := hoff
                clear hoff
                have HCl7 : Hid (∀ k (hk : k < T.length), w7.cell? ⟨g, k, none⟩ = some (.string T[k])) := fun k hk => by rw [hB7.cell (p := ⟨g, k, none⟩) hgl]; exact HCl.out k hk
                go_wp2_with (at_builtin; refine wpList_append_own _ rfl _ _ 39 rfl wr.heap.size 9 i0 (.string ⟨#[]⟩) 1 16 Tryz.underlying39 hi hz0 hz1 hz2 rfl (by decide) _ _ _ rfl hown7 ⟨g, off3, none⟩ (T.length - pl) (cv - pl) ((T.drop pl).map Value.string) rfl (by rw [List.length_map, List.length_drop]; omega) (fun j u hj => drop_cells' HCl7.out HOff.out j u hj) (strs_one _) (by unfold maxLen; omega) (by omega) hz7 ?_)
                intro v8 w8 hown8 hgrow8 _
                have hB8 : Below wr.heap.size wr w8 := hB7.grown hgrow8 hz7 (fun j hj => (hown7.lt j hj).1)
                have HR : Hid (RLRel w w1 L v8 (.int .i64 ((k : Int) + 1)) w8) := by
                  have hlen : (T.take pl ++ [L[k]] ++ T.drop pl).length = pl + 1 + (T.length - pl) := by simp; omega
                  refine ⟨k + 1, T.take pl ++ [L[k]] ++ T.drop pl, by omega, by simp, ⟨?_, fun e => (by simp at e), fun t ht => ?_⟩, by rw [hlen]; omega, ?_, hB1x.trans (hB8.mono (by have := hB1x.size; omega))⟩
                  · rw [hlen]
                    have e2 : (T.take pl ++ [L[k]] ++ T.drop pl).map Value.string = (T.map Value.string).take pl ++ .string L[k] :: (T.map Value.string).drop pl := by simp
                    rw [e2]
                    exact own_base hown8 hzz
                  · rcases List.mem_append.1 ht with ht | ht
                    · rcases List.mem_append.1 ht with ht | ht
                      · exact HPx.out.good t (List.mem_of_mem_take ht)
                      · rw [List.mem_singleton.1 ht, HX.out]; exact Option.some_ne_none _
                    · exact HPx.out.good t (List.mem_of_mem_drop ht)
                  · rw [HPut.out]; simp
                clear hgrow8
                go_wp2
                go_roundw
                case rel => exact HR.out
                case measure => simp [intOf]; omega
          | succ q =>
            have hqT : q < T.length := by omega
            have eq1 : (((q + 1 : Nat) : Int) - 1) = (q : Int) := by omega
            rw [eq1]
            have hT : T ≠ [] := fun e => by rw [e] at hqT; cases hqT
            obtain ⟨g, cap, hv0, hbg, hgl, hcap, hcl⟩ := HPv.out.row hT
            injection hv0 with hv1 hv2 hv3
            subst hv1 hv3
            have hcq : wr.cell? ⟨g, q, none⟩ = some (.string T[q]) := by rw [hBx.cell (p := ⟨g, q, none⟩) hgl]; exact hcl q hqT
            have hgood := HPv.out.good T[q] (List.getElem_mem hqT)
            have hlen := ver_len hgood
            have hq0 : (0 : Int) ≤ (q : Int) := by omega
            have hqi : (q : Int) < (T.length : Int) := by omega
            have HAs : Hid (atP L[k].data.toList (T.map (·.data.toList)) q = if ltT L[k].data.toList T[q].data.toList = true then q else atP L[k].data.toList (T.map (·.data.toList)) (q + 1)) := by
              show _ = _
              rw [atP_step _ _ q (by rw [len_map]; exact hqT), nth_map T q hqT]
            have HMs : Hid ((L[k].data.toList ∈ (T.map (·.data.toList)).drop q) ↔ (L[k].data.toList = T[q].data.toList ∨ L[k].data.toList ∈ (T.map (·.data.toList)).drop (q + 1))) := by
              show _ ↔ _
              rw [mem_step _ _ q (by rw [len_map]; exact hqT), nth_map T q hqT]
            clear hcl hv2
            obtain ⟨A0, hA0⟩ : ∃ A0, A0 = atP L[k].data.toList (T.map (·.data.toList)) (q + 1) := ⟨_, rfl⟩
            have HA0 : Hid (atP L[k].data.toList (T.map (·.data.toList)) (q + 1) = A0) := hA0.symm
            obtain ⟨M0, hM0⟩ : ∃ M0, M0 = decide (L[k].data.toList ∈ (T.map (·.data.toList)).drop (q + 1)) := ⟨_, rfl⟩
            have HM0 : Hid (decide (L[k].data.toList ∈ (T.map (·.data.toList)).drop (q + 1)) = M0) := hM0.symm
            clear hA0 hM0
            rw [HA0.out, HM0.out]
            rw [size_len] at hlen
            go_wp2_with fail
            refine (refVersion_walk T[q] wr (by omega)).mono ?_
            rintro e w3 ⟨he, hb3⟩
            have hB3 : Below wv.heap.size wv w3 := hBx.trans (hb3.mono hzx)
            have hz3 := hB3.size
            rcases he with ⟨y, uu, hy, rfl, hu⟩ | ⟨hy, _⟩
            · obtain ⟨r0, r1, r2, ao2, n2, cap2, rfl⟩ := rverIs_form hu
              have hb4 := below_one w3 (.cells #[.int .i64 r0, .int .i64 r1, .int .i64 r2, .slice ao2 n2 cap2] 58)
              have hB4 : Below wv.heap.size wv _ := hB3.trans (hb4.mono hz3)
              obtain ⟨D0, D1, D2, D3⟩ := HDs.out
              have d0 := cell_below hB4 D0
              have d1 := cell_below hB4 D1
              have d2 := cell_below hB4 D2
              have d3 := cell_below hB4 D3
              have HU : Hid (RVerIs _ _ y) := hu.below hb4
              have HV4 : Hid (RVerIs _ _ x) := HVi.out.below hB4
              have HC := ltT_cmp HX.out hy
              have HC1 : Hid ((cmpV x y < 0 ↔ ltT L[k].data.toList T[q].data.toList = true) ∧ (cmpV x y = 0 ↔ L[k].data.toList = T[q].data.toList)) := HC
              have HY : Hid (parseV T[q].data.toList = some y) := hy
              clear hy hu HC hb3 hb4 D0 D1 D2 D3 hcq
              go_wp2_with fail
              refine (refVOrder_walk x y _ _ _ HV4.out HU.out (marks_ok HX.out) (marks_ok HY.out)).mono ?_
              rintro e w5 ⟨rfl, hb5⟩
              have hB5 : Below wv.heap.size wv w5 := hB4.trans (hb5.mono (by simp; omega))
              clear hb5 d0 d1 d2 d3
              obtain ⟨c, hcv⟩ : ∃ c, c = cmpV x y := ⟨_, rfl⟩
              rw [← hcv]
              rw [← hcv] at HC1
              clear hcv
              by_cases hc0 : c = 0
              · have t0 : (c == 0) = true := by simp [hc0]
                have tn : ¬ c < 0 := by omega
                have HR : Hid (RIn wv L[k].data.toList T (.int .i64 ((A0 : Nat) : Int)) (.bool true) (.int .i64 ((q : Int) - 1)) w5) := by
                  have h1 : ltT L[k].data.toList T[q].data.toList ≠ true := fun e => tn (HC1.out.1.2 e)
                  refine ⟨q, by omega, by rw [HAs.out, if_neg h1, HA0.out], ?_, rfl, hB5⟩
                  rw [decide_eq_true (HMs.out.2 (Or.inl (HC1.out.2.1 hc0)))]
                subst hc0
                clear t0 tn
                go_wp2
                go_roundw
                case rel => exact HR.out
                case measure => simp [intOf]
              · have t0 : (c == 0) = false := by simpa using hc0
                have hmm : decide (L[k].data.toList ∈ (T.map (·.data.toList)).drop q) = M0 := by
                  rw [← HM0.out]
                  exact decide_eq_decide.2 ⟨fun h => (HMs.out.1 h).resolve_left (fun e => hc0 (HC1.out.2.2 e)), fun h => HMs.out.2 (Or.inr h)⟩
                by_cases hcl : c < 0
                · have HR : Hid (RIn wv L[k].data.toList T (.int .i64 (q : Int)) (.bool M0) (.int .i64 ((q : Int) - 1)) w5) :=
                    ⟨q, by omega, by rw [HAs.out, if_pos (HC1.out.1.1 hcl)], by rw [hmm], rfl, hB5⟩
                  clear hmm hc0
                  go_wp2
                  go_roundw
                  case rel => exact HR.out
                  case measure => simp [intOf]
                · have HR : Hid (RIn wv L[k].data.toList T (.int .i64 ((A0 : Nat) : Int)) (.bool M0) (.int .i64 ((q : Int) - 1)) w5) := by
                    have h1 : ltT L[k].data.toList T[q].data.toList ≠ true := fun e => hcl (HC1.out.1.2 e)
                    exact ⟨q, by omega, by rw [HAs.out, if_neg h1, HA0.out], by rw [hmm], rfl, hB5⟩
                  clear hmm hc0
                  go_wp2
                  go_roundw
                  case rel => exact HR.out
                  case measure => simp [intOf]
            · exact absurd hy hgood
      · have HR : Hid (RLRel w w1 L _ (.int .i64 ((k : Int) + 1)) (w2.alloc (.cells #[.int .i64 n0, .int .i64 n1, .int .i64 n2, .slice ao0 nn cap0] 58))) :=
          ⟨k + 1, T, by omega, by simp, HPt2.out.below (below_one _ _), by omega, by rw [putK_skip L k hlt hx]; exact HTm.out, hB2.alloc (by omega) _⟩
        clear hx hB2 hBw2
        go_wp2
        go_roundw
        case rel => exact HR.out
        case measure => simp [intOf]; omega
    · have hlt' : ¬ (k : Int) < (L.length : Int) := by omega
      have HF : Hid (RLPost s w (.returned _) wr) := ⟨_, T, rfl, by rw [HTm.out]; exact putK_all L _ HL.out k (by omega), HPt.out, by omega, hBw⟩
      go_wp2
      go_ret
      exact HF.out
end Go.Proofs.YtfngjfnakokgmaaGreatDoor
