/- Replies: the program's parseSpan. -/
import Derived.Test.YtmodongnganbfaaGreatDoorRpMToRpN
namespace Go.Proofs.YtmodongnganbfaaGreatDoor.Rep
open Go.RowKit Go.Proofs.YtmodongnganbfaaGreatDoor Go.Proofs.YtmodongnganbfaaGreatDoor.Sha Go.Proofs.YtmodongnganbfaaGreatDoor.Inf
/-- How parseSpan ends. -/
def SpanF (r : Option Span) (e : Ending) : Prop := match r with
  | some sp => e = .returned (.tuple #[.agg #[.int .i64 (sp.first : Int), .int .i64 (sp.last : Int), .int .i64 (sp.total : Int)], .nilIface])
  | none => ∃ t x, e = .returned (.tuple #[.agg #[.int .i64 0, .int .i64 0, .int .i64 0], .iface t x])
/-- The worlds of parseSpan's loop: the result's block, the numbers' block, the texts' block. -/
structure SpW (B V : Nat) (b0 b1 b2 : ByteArray) (n0 n1 n2 : Int) (wr : World) : Prop where
  lt : B < V
  res : ∀ o, wr.frozen? ⟨B, o, none⟩ = false
  r0 : wr.cell? ⟨B, 0, none⟩ = some (.int .i64 0)
  r1 : wr.cell? ⟨B, 1, none⟩ = some (.int .i64 0)
  r2 : wr.cell? ⟨B, 2, none⟩ = some (.int .i64 0)
  num : ∀ o, wr.frozen? ⟨V, o, none⟩ = false
  c0 : wr.cell? ⟨V, 0, none⟩ = some (.int .i64 n0)
  c1 : wr.cell? ⟨V, 1, none⟩ = some (.int .i64 n1)
  c2 : wr.cell? ⟨V, 2, none⟩ = some (.int .i64 n2)
  p0 : wr.cell? ⟨V + 1, 0, none⟩ = some (.string b0)
  p1 : wr.cell? ⟨V + 1, 1, none⟩ = some (.string b1)
  p2 : wr.cell? ⟨V + 1, 2, none⟩ = some (.string b2)
theorem SpW.below {B V : Nat} {b0 b1 b2 : ByteArray} {n0 n1 n2 : Int} {wr w' : World} (h : SpW B V b0 b1 b2 n0 n1 n2 wr) (hb : Below wr.heap.size wr w') : SpW B V b0 b1 b2 n0 n1 n2 w' := by
  have l0 : B < wr.heap.size := lt_of_cell h.r0
  have l1 : V < wr.heap.size := lt_of_cell h.c0
  exact ⟨h.lt, fun o => by rw [hb.frozen (p := ⟨B, o, none⟩) l0]; exact h.res o, cell_below hb h.r0, cell_below hb h.r1, cell_below hb h.r2, fun o => by rw [hb.frozen (p := ⟨V, o, none⟩) l1]; exact h.num o,
    cell_below hb h.c0, cell_below hb h.c1, cell_below hb h.c2, cell_below hb h.p0, cell_below hb h.p1, cell_below hb h.p2⟩
theorem SpW.put {B V : Nat} {b0 b1 b2 : ByteArray} {n0 n1 n2 : Int} {wr : World} (h : SpW B V b0 b1 b2 n0 n1 n2 wr) (v : Int) :
    SpW B V b0 b1 b2 v n1 n2 (wr.setCell ⟨V, 0, none⟩ (.int .i64 v)) ∧ SpW B V b0 b1 b2 n0 v n2 (wr.setCell ⟨V, 1, none⟩ (.int .i64 v)) ∧ SpW B V b0 b1 b2 n0 n1 v (wr.setCell ⟨V, 2, none⟩ (.int .i64 v)) := by
  obtain ⟨lt, res, r0, r1, r2, num, c0, c1, c2, p0, p1, p2⟩ := h
  have oth : ∀ (j : Nat) (x : Addr) (u : Value), (⟨V, j, none⟩ : Addr) ≠ x → wr.cell? x = some u → (wr.setCell ⟨V, j, none⟩ (.int .i64 v)).cell? x = some u := fun j x u hne h => by
    rw [World.cell?_setCell_other _ _ _ _ hne]; exact h
  have nb : ∀ (j k : Nat), (⟨V, j, none⟩ : Addr) ≠ ⟨B, k, none⟩ := fun j k e => by injection e; omega
  exact ⟨⟨lt, fun o => by rw [World.frozen?_setCell]; exact res o, oth 0 _ _ (nb _ _) r0, oth 0 _ _ (nb _ _) r1, oth 0 _ _ (nb _ _) r2, fun o => by rw [World.frozen?_setCell]; exact num o, World.cell?_setCell_same _ _ _ c0, oth 0 _ _ (by simp) c1, oth 0 _ _ (by simp) c2, oth 0 _ _ (by simp) p0, oth 0 _ _ (by simp) p1, oth 0 _ _ (by simp) p2⟩,
    ⟨lt, fun o => by rw [World.frozen?_setCell]; exact res o, oth 1 _ _ (nb _ _) r0, oth 1 _ _ (nb _ _) r1, oth 1 _ _ (nb _ _) r2, fun o => by rw [World.frozen?_setCell]; exact num o, oth 1 _ _ (by simp) c0, World.cell?_setCell_same _ _ _ c1, oth 1 _ _ (by simp) c2, oth 1 _ _ (by simp) p0, oth 1 _ _ (by simp) p1, oth 1 _ _ (by simp) p2⟩,
    ⟨lt, fun o => by rw [World.frozen?_setCell]; exact res o, oth 2 _ _ (nb _ _) r0, oth 2 _ _ (nb _ _) r1, oth 2 _ _ (nb _ _) r2, fun o => by rw [World.frozen?_setCell]; exact num o, oth 2 _ _ (by simp) c0, oth 2 _ _ (by simp) c1, World.cell?_setCell_same _ _ _ c2, oth 2 _ _ (by simp) p0, oth 2 _ _ (by simp) p1, oth 2 _ _ (by simp) p2⟩⟩
theorem spW_start (w w2 : World) (b0 b1 b2 : ByteArray) (t t' t'' : TypeId) (hb : Below (w.alloc (.cells #[.int .i64 0, .int .i64 0, .int .i64 0] t)).heap.size (w.alloc (.cells #[.int .i64 0, .int .i64 0, .int .i64 0] t)) w2) : SpW w.heap.size w2.heap.size b0 b1 b2 0 0 0 ((w2.alloc (.cells #[.int .i64 0, .int .i64 0, .int .i64 0] t')).alloc (.cells #[.string b0, .string b1, .string b2] t'')) := by
  have hz := hb.size
  simp only [World.size_alloc] at hz
  have hl : w.heap.size < w2.heap.size := by omega
  have hb2 : Below w2.heap.size w2 ((w2.alloc (.cells #[.int .i64 0, .int .i64 0, .int .i64 0] t')).alloc (.cells #[.string b0, .string b1, .string b2] t'')) := ((Below.refl _ _).alloc (Nat.le_refl _) _).alloc (by simp) _
  have rc : ∀ j, j < 3 → w2.cell? ⟨w.heap.size, j, none⟩ = some (.int .i64 0) := fun j hj => cell_below hb (by
    match j, hj with
    | 0, _ => simp
    | 1, _ => simp
    | 2, _ => simp)
  refine ⟨hl, fun o => ?_, cell_below hb2 (rc 0 (by decide)), cell_below hb2 (rc 1 (by decide)), cell_below hb2 (rc 2 (by decide)), fun o => ?_, ?_, ?_, ?_, ?_, ?_, ?_⟩
  · rw [hb2.frozen (p := ⟨w.heap.size, o, none⟩) hl, hb.frozen (p := ⟨w.heap.size, o, none⟩) (by simp)]; simp
  · rw [World.frozen?_alloc_old _ _ _ (by simp)]; simp
  · rw [World.cell?_alloc_lt _ _ _ (by simp)]; simp
  · rw [World.cell?_alloc_lt _ _ _ (by simp)]; simp
  · rw [World.cell?_alloc_lt _ _ _ (by simp)]; simp
  · rw [World.cell?_alloc_at _ _ _ _ (by simp)]; rfl
  · rw [World.cell?_alloc_at _ _ _ _ (by simp)]; rfl
  · rw [World.cell?_alloc_at _ _ _ _ (by simp)]; rfl
theorem ofList_data (r : Bytes) : (⟨r.toArray⟩ : ByteArray).data.toList = r := by simp
theorem ofList_size (r : Bytes) : (⟨r.toArray⟩ : ByteArray).size = r.length := by rw [← size_len, ofList_data]
theorem cut_one (r : Bytes) (x : UInt8) (m : Int) (w : World) (hs : r.length ≤ 1000) (hm : w.cell? ⟨21, 0, none⟩ = some (.int .i64 m)) :
    Calls Tryz.prog 100 #[.string ⟨r.toArray⟩, .string ⟨#[x]⟩] w fun e w' => e = .returned (.tuple #[.string ⟨(cutAt x r).1.toArray⟩, .string ⟨((cutAt x r).2.getD []).toArray⟩, .bool (cutAt x r).2.isSome]) ∧ Below w.heap.size w w' := by
  refine (Tryz.strings_Cut ⟨r.toArray⟩ ⟨#[x]⟩ m w (by rw [ofList_size]; omega) hm).mono ?_
  rintro e w' ⟨rfl, n, rfl⟩
  have e0 : (⟨#[x]⟩ : ByteArray).data.toList = [x] := rfl
  rw [ofList_data, e0, cut_cutAt]
  exact ⟨rfl, below_drewN n⟩
theorem cutBytes_yes (s : ByteArray) (r : Bytes) (w : World) (h : s.data.toList = bytesSp ++ r) :
    Calls Tryz.prog 99 #[.string s, .string ⟨#[98, 121, 116, 101, 115, 32]⟩] w fun e w' => e = .returned (.tuple #[.string ⟨r.toArray⟩, .bool true]) ∧ w' = w := by
  refine (Tryz.strings_CutPrefix s ⟨#[98, 121, 116, 101, 115, 32]⟩ w).mono ?_
  rintro e w' ⟨rfl, rfl⟩
  have e0 : (⟨#[98, 121, 116, 101, 115, 32]⟩ : ByteArray).data.toList = bytesSp := rfl
  have hp : Lib.hasPrefix (bytesSp ++ r) bytesSp = true := by unfold Lib.hasPrefix; exact List.isPrefixOf_iff_prefix.2 ⟨r, rfl⟩
  obtain ⟨r', hr, ht⟩ := prefix_yes _ hp
  have : r' = r := (List.append_cancel_left hr).symm
  rw [h, e0, hp, ht, this]
  exact ⟨rfl, rfl⟩
theorem cutBytes_no (s : ByteArray) (w : World) (h : Lib.hasPrefix s.data.toList bytesSp = false) :
    Calls Tryz.prog 99 #[.string s, .string ⟨#[98, 121, 116, 101, 115, 32]⟩] w fun e w' => (∃ t, e = .returned (.tuple #[.string t, .bool false])) ∧ w' = w := by
  refine (Tryz.strings_CutPrefix s ⟨#[98, 121, 116, 101, 115, 32]⟩ w).mono ?_
  rintro e w' ⟨rfl, rfl⟩
  have e0 : (⟨#[98, 121, 116, 101, 115, 32]⟩ : ByteArray).data.toList = bytesSp := rfl
  rw [e0, h]
  exact ⟨⟨_, rfl⟩, rfl⟩
theorem below_set3 {B : Nat} {w w' : World} (h : Below B w w') (k : Nat) (hk : B ≤ k) (a b c : Value) : Below B w (((w'.setCell ⟨k, 0, none⟩ a).setCell ⟨k, 1, none⟩ b).setCell ⟨k, 2, none⟩ c) :=
  ((h.setCell (p := ⟨k, 0, none⟩) hk _).setCell (p := ⟨k, 1, none⟩) hk _).setCell (p := ⟨k, 2, none⟩) hk _
theorem fin3 {b : Nat} {wr : World} (h0 : ∃ v, wr.cell? ⟨b, 0, none⟩ = some v) (h1 : ∃ v, wr.cell? ⟨b, 1, none⟩ = some v) (h2 : ∃ v, wr.cell? ⟨b, 2, none⟩ = some v) (x y z : Value) (o : Obj) :
    ((((wr.setCell ⟨b, 0, none⟩ x).setCell ⟨b, 1, none⟩ y).setCell ⟨b, 2, none⟩ z).alloc o).cell? ⟨b, 0, none⟩ = some x ∧ ((((wr.setCell ⟨b, 0, none⟩ x).setCell ⟨b, 1, none⟩ y).setCell ⟨b, 2, none⟩ z).alloc o).cell? ⟨b, 1, none⟩ = some y ∧ ((((wr.setCell ⟨b, 0, none⟩ x).setCell ⟨b, 1, none⟩ y).setCell ⟨b, 2, none⟩ z).alloc o).cell? ⟨b, 2, none⟩ = some z := by
  obtain ⟨v0, h0⟩ := h0
  obtain ⟨v1, h1⟩ := h1
  obtain ⟨v2, h2⟩ := h2
  have hl : b < (((wr.setCell ⟨b, 0, none⟩ x).setCell ⟨b, 1, none⟩ y).setCell ⟨b, 2, none⟩ z).heap.size := by simp; exact lt_of_cell h0
  refine ⟨?_, ?_, ?_⟩
  · rw [World.cell?_alloc_lt _ _ _ hl, World.cell?_setCell_other _ _ _ _ (by simp), World.cell?_setCell_other _ _ _ _ (by simp)]
    exact World.cell?_setCell_same _ _ _ h0
  · rw [World.cell?_alloc_lt _ _ _ hl, World.cell?_setCell_other _ _ _ _ (by simp)]
    refine World.cell?_setCell_same _ _ _ (u := v1) ?_
    rw [World.cell?_setCell_other _ _ _ _ (by simp)]
    exact h1
  · rw [World.cell?_alloc_lt _ _ _ hl]
    refine World.cell?_setCell_same _ _ _ (u := v2) ?_
    rw [World.cell?_setCell_other _ _ _ _ (by simp), World.cell?_setCell_other _ _ _ _ (by simp)]
    exact h2
/-- The worlds that the head's functions read: the errors, and the library's bound. -/
structure RepX (ad : Nat → Addr) (B : Nat) (mx : Int) (w : World) : Prop where
  er : RepW ad B w
  mx : w.cell? ⟨21, 0, none⟩ = some (.int .i64 mx)
theorem RepX.keep {ad : Nat → Addr} {B : Nat} {mx : Int} {w w' : World} (h : RepX ad B mx w) (hb : Below B w w') : RepX ad B mx w' :=
  ⟨h.er.keep hb, by rw [hb.cell (p := ⟨21, 0, none⟩) (Nat.lt_of_lt_of_le (by decide) h.er.ng)]; exact h.mx⟩
theorem spanOf_no0 {x y t : Option Nat} (h : x = none) : spanOf x y t = none := by rw [h]; rfl
theorem spanOf_no1 {x y t : Option Nat} (h : y = none) : spanOf x y t = none := by rw [h]; cases x <;> rfl
theorem spanOf_no2 {x y t : Option Nat} (h : t = none) : spanOf x y t = none := by rw [h]; cases x <;> cases y <;> rfl
set_option maxRecDepth 100000 in
set_option maxHeartbeats 4000000 in
theorem parseSpan_walk (s : ByteArray) (ad : Nat → Addr) (B : Nat) (mx : Int) (w : World) (hX : RepX ad B mx w) (hB0 : B ≤ w.heap.size) (hs : s.size ≤ 1000) :
    Calls Tryz.prog 85 #[.string s] w fun e w' => SpanF (Rep.span s.data.toList) e ∧ Below w.heap.size w w' := by
  have HX : Hid (RepX ad B mx w) := hX
  cases hp : Lib.hasPrefix s.data.toList bytesSp with
  | false =>
    have HN : Hid (Rep.span s.data.toList = none) := span_noB _ hp
    have HC := fun wx => cutBytes_no s wx hp
    have gs := cell_below (below_one w (.cells #[.int .i64 0, .int .i64 0, .int .i64 0] 45)) hX.er.span
    clear hX hp
    go_enter Tryz.func85, Tryz.ntmps85
    go_wp2_with fail
    refine (HC _).mono ?_
    rintro e w1 ⟨⟨t, rfl⟩, rfl⟩
    go_wp2
    go_region
    all_goals (try go_wp2)
    refine bodyPost_ret (v := .tuple #[.agg #[.int .i64 0, .int .i64 0, .int .i64 0], .iface 182 (.pointer (some (ad 14)))]) (by simp [results, Tryz.results85, go_sem]) rfl ⟨?_, by repeat (first | exact below_one _ _ | refine Below.drew ?_)⟩
    rw [HN.out]
    exact ⟨_, _, rfl⟩
  | true =>
    obtain ⟨r, hr, _⟩ := prefix_yes _ hp
    have hrl : r.length ≤ 1000 := by
      have := size_len s
      rw [hr, List.length_append] at this
      omega
    have HSp : Hid (Rep.span s.data.toList = spanOf (few (sX r)) (few (sY r)) (few (sT r))) := by show _ = _; rw [hr]; exact span_eq r
    have HC0 := fun wx => cutBytes_yes s r wx hr
    have hq1 := cutAt_len 47 r
    have hq2 := cutAt_len 45 (cutAt 47 r).1
    obtain ⟨bd, ebd⟩ : ∃ x, (cutAt 47 r).1 = x := ⟨_, rfl⟩
    obtain ⟨b0, e0⟩ : ∃ x : Bytes, sX r = x := ⟨_, rfl⟩
    obtain ⟨b1, e1⟩ : ∃ x : Bytes, sY r = x := ⟨_, rfl⟩
    obtain ⟨b2, e2⟩ : ∃ x : Bytes, sT r = x := ⟨_, rfl⟩
    have f0 : (cutAt 45 bd).1 = b0 := by rw [← e0, ← ebd]; rfl
    have f1 : (cutAt 45 bd).2.getD [] = b1 := by rw [← e1, ← ebd]; rfl
    have f2 : (cutAt 47 r).2.getD [] = b2 := by rw [← e2]; rfl
    rw [ebd] at hq1 hq2
    rw [f2] at hq1
    rw [f0, f1] at hq2
    obtain ⟨q1, q2⟩ := hq1
    obtain ⟨q3, q4⟩ := hq2
    rw [e0, e1, e2] at HSp
    have HC1 : Hid (∀ wx, RepX ad B mx wx → Calls Tryz.prog 100 #[.string ⟨r.toArray⟩, .string ⟨#[47]⟩] wx fun e w' => (∃ x, e = .returned (.tuple #[.string ⟨bd.toArray⟩, .string ⟨b2.toArray⟩, .bool x])) ∧ Below wx.heap.size wx w') := fun wx hx => (cut_one r 47 mx wx hrl hx.mx).mono fun e w' q => by obtain ⟨a, b⟩ := q; rw [ebd, f2] at a; exact ⟨⟨_, a⟩, b⟩
    have HC2 : Hid (∀ wx, RepX ad B mx wx → Calls Tryz.prog 100 #[.string ⟨bd.toArray⟩, .string ⟨#[45]⟩] wx fun e w' => (∃ x, e = .returned (.tuple #[.string ⟨b0.toArray⟩, .string ⟨b1.toArray⟩, .bool x])) ∧ Below wx.heap.size wx w') := fun wx hx => (cut_one bd 45 mx wx (by omega) hx.mx).mono fun e w' q => by obtain ⟨a, b⟩ := q; rw [f0, f1] at a; exact ⟨⟨_, a⟩, b⟩
    have hX0 := hX.keep ((below_one w (.cells #[.int .i64 0, .int .i64 0, .int .i64 0] 45)).mono hB0)
    clear hp hr e0 e1 e2 f0 f1 f2 ebd hX
    go_enter Tryz.func85, Tryz.ntmps85
    go_wp2_with fail
    refine (HC0 _).mono ?_
    rintro e w1 ⟨rfl, rfl⟩
    go_wp2_with fail
    refine (HC1.out _ hX0).mono ?_
    rintro e w1 ⟨⟨x1, rfl⟩, hb1⟩
    have hX1 := hX0.keep (hb1.mono (by simp; omega))
    go_wp2_with fail
    refine (HC2.out _ hX1).mono ?_
    rintro e w2 ⟨⟨x2, rfl⟩, hb2⟩
    have hb02 := hb1.trans (hb2.mono hb1.size)
    have HSt : Hid (∀ t' t'', SpW w.heap.size w2.heap.size ⟨b0.toArray⟩ ⟨b1.toArray⟩ ⟨b2.toArray⟩ 0 0 0 ((w2.alloc (.cells #[.int .i64 0, .int .i64 0, .int .i64 0] t')).alloc (.cells #[.string ⟨b0.toArray⟩, .string ⟨b1.toArray⟩, .string ⟨b2.toArray⟩] t''))) := fun t' t'' => spW_start w w2 _ _ _ _ t' t'' hb02
    have HB2 : Hid (Below w.heap.size w w2) := (below_one w _).trans (hb02.mono (by simp))
    have hz2 : w.heap.size ≤ w2.heap.size := HB2.out.size
    clear hX0 hX1 hb1 hb2 hb02
    go_wp2
    go_loopw [44] (fun i wr => ∃ (k : Nat) (n0 n1 n2 : Nat), k ≤ 3 ∧ i = .int .i64 k ∧ Hid (SpW w.heap.size w2.heap.size ⟨b0.toArray⟩ ⟨b1.toArray⟩ ⟨b2.toArray⟩ n0 n1 n2 wr) ∧ Hid (Below w.heap.size w wr) ∧ Hid (0 < k → few b0 = some n0) ∧ Hid (1 < k → few b1 = some n1) ∧ Hid (2 < k → few b2 = some n2)) (fun i _ => 3 - (intOf i).toNat)
    case atStart =>
      exact ⟨0, 0, 0, 0, Nat.zero_le _, rfl, HSt.out _ _, (HB2.out.alloc (by omega) _).alloc (by simp; omega) _, fun h => absurd h (by decide), fun h => absurd h (by decide), fun h => absurd h (by decide)⟩
    case round =>
      obtain ⟨k, n0, n1, n2, hk, rfl, HN, HB, HA0, HA1, HA2⟩ := hrel
      have hXr := HX.out.keep (HB.out.mono hB0)
      rcases (by omega : k = 0 ∨ k = 1 ∨ k = 2 ∨ k = 3) with rfl | rfl | rfl | rfl
      · have hp0 := HN.out.p0
        have HCn := parseNumber_walk ⟨b0.toArray⟩ ad B wr hXr.er (by rw [ofList_size]; omega)
        go_wp2_with fail
        refine HCn.mono ?_
        rintro e w3 ⟨he, hb3⟩
        have he : NumE (few b0) e := he
        have HN3 : Hid (SpW w.heap.size w2.heap.size ⟨b0.toArray⟩ ⟨b1.toArray⟩ ⟨b2.toArray⟩ n0 n1 n2 w3) := HN.out.below hb3
        have HB3 : Hid (Below w.heap.size w w3) := HB.out.trans (hb3.mono HB.out.size)
        have gs := cell_below hb3 hXr.er.span
        have c0 := HN3.out.c0
        have c1 := HN3.out.c1
        have c2 := HN3.out.c2
        have nf := HN3.out.num
        clear hb3 hXr hp0 HCn
        cases hf : few b0 with
        | some v =>
          rw [hf] at he
          have he : e = .returned (.tuple #[.int .i64 (v : Int), .nilIface]) := he
          subst he
          have HNx : Hid (SpW w.heap.size w2.heap.size ⟨b0.toArray⟩ ⟨b1.toArray⟩ ⟨b2.toArray⟩ v n1 n2 (w3.setCell ⟨w2.heap.size, 0, none⟩ (.int .i64 (v : Int)))) := (HN3.out.put (v : Int)).1
          have HBx : Hid (Below w.heap.size w (w3.setCell ⟨w2.heap.size, 0, none⟩ (.int .i64 (v : Int)))) := HB3.out.setCell (p := ⟨w2.heap.size, 0, none⟩) hz2 _
          have HFx : Hid (few b0 = some v) := hf
          clear hf
          go_wp2
          go_roundw
          case rel => exact ⟨1, v, n1, n2, by decide, rfl, HNx, HBx, fun _ => HFx.out, fun h => absurd h (by decide), fun h => absurd h (by decide)⟩
          case measure => simp [intOf]
        | none =>
          rw [hf] at he
          obtain ⟨ty, xv, rfl⟩ := he
          have HR : Hid (Rep.span s.data.toList = none) := by show _ = _; rw [HSp.out]; exact spanOf_no0 hf
          have r0 := HN3.out.r0
          have r1 := HN3.out.r1
          have r2 := HN3.out.r2
          have rf := HN3.out.res
          have hlB : w.heap.size < w3.heap.size := lt_of_cell r0
          have HBe : Hid (∀ (o : Obj), Below w.heap.size w (w3.alloc o)) := fun o => HB3.out.alloc (Nat.le_of_lt hlB) o
          clear hf
          go_wp2
          refine bodyPost_ret (v := .tuple #[.agg #[.int .i64 0, .int .i64 0, .int .i64 0], .iface 75 (.pointer (some ⟨w3.heap.size, 0, none⟩))]) (by obtain ⟨x0, x1, x2⟩ := fin3 ⟨_, r0⟩ ⟨_, r1⟩ ⟨_, r2⟩ (.int .i64 0) (.int .i64 0) (.int .i64 0) (.cells #[.iface 182 (.pointer (some (ad 14))), .iface ty xv] 92); simp [results, Tryz.results85, go_sem, x0, x1, x2]) rfl ⟨?_, ?_⟩
          · rw [HR.out]; exact ⟨_, _, rfl⟩
          · first | exact below_set3 (HBe.out _) _ (Nat.le_refl _) _ _ _ | exact (below_set3 HB3.out _ (Nat.le_refl _) _ _ _).alloc (by simp; omega) _
      · have hp1 := HN.out.p1
        have HCn := parseNumber_walk ⟨b1.toArray⟩ ad B wr hXr.er (by rw [ofList_size]; omega)
        go_wp2_with fail
        refine HCn.mono ?_
        rintro e w3 ⟨he, hb3⟩
        have he : NumE (few b1) e := he
        have HN3 : Hid (SpW w.heap.size w2.heap.size ⟨b0.toArray⟩ ⟨b1.toArray⟩ ⟨b2.toArray⟩ n0 n1 n2 w3) := HN.out.below hb3
        have HB3 : Hid (Below w.heap.size w w3) := HB.out.trans (hb3.mono HB.out.size)
        have gs := cell_below hb3 hXr.er.span
        have c0 := HN3.out.c0
        have c1 := HN3.out.c1
        have c2 := HN3.out.c2
        have nf := HN3.out.num
        clear hb3 hXr hp1 HCn
        cases hf : few b1 with
        | some v =>
          rw [hf] at he
          have he : e = .returned (.tuple #[.int .i64 (v : Int), .nilIface]) := he
          subst he
          have HNx : Hid (SpW w.heap.size w2.heap.size ⟨b0.toArray⟩ ⟨b1.toArray⟩ ⟨b2.toArray⟩ n0 v n2 (w3.setCell ⟨w2.heap.size, 1, none⟩ (.int .i64 (v : Int)))) := (HN3.out.put (v : Int)).2.1
          have HBx : Hid (Below w.heap.size w (w3.setCell ⟨w2.heap.size, 1, none⟩ (.int .i64 (v : Int)))) := HB3.out.setCell (p := ⟨w2.heap.size, 1, none⟩) hz2 _
          have HFx : Hid (few b1 = some v) := hf
          clear hf
          go_wp2
          go_roundw
          case rel => exact ⟨2, n0, v, n2, by decide, rfl, HNx, HBx, fun _ => HA0.out (by decide), fun _ => HFx.out, fun h => absurd h (by decide)⟩
          case measure => simp [intOf]
        | none =>
          rw [hf] at he
          obtain ⟨ty, xv, rfl⟩ := he
          have HR : Hid (Rep.span s.data.toList = none) := by show _ = _; rw [HSp.out]; exact spanOf_no1 hf
          have r0 := HN3.out.r0
          have r1 := HN3.out.r1
          have r2 := HN3.out.r2
          have rf := HN3.out.res
          have hlB : w.heap.size < w3.heap.size := lt_of_cell r0
          have HBe : Hid (∀ (o : Obj), Below w.heap.size w (w3.alloc o)) := fun o => HB3.out.alloc (Nat.le_of_lt hlB) o
          clear hf
          go_wp2
          refine bodyPost_ret (v := .tuple #[.agg #[.int .i64 0, .int .i64 0, .int .i64 0], .iface 75 (.pointer (some ⟨w3.heap.size, 0, none⟩))]) (by obtain ⟨x0, x1, x2⟩ := fin3 ⟨_, r0⟩ ⟨_, r1⟩ ⟨_, r2⟩ (.int .i64 0) (.int .i64 0) (.int .i64 0) (.cells #[.iface 182 (.pointer (some (ad 14))), .iface ty xv] 92); simp [results, Tryz.results85, go_sem, x0, x1, x2]) rfl ⟨?_, ?_⟩
          · rw [HR.out]; exact ⟨_, _, rfl⟩
          · first | exact below_set3 (HBe.out _) _ (Nat.le_refl _) _ _ _ | exact (below_set3 HB3.out _ (Nat.le_refl _) _ _ _).alloc (by simp; omega) _
      · have hp2 := HN.out.p2
        have HCn := parseNumber_walk ⟨b2.toArray⟩ ad B wr hXr.er (by rw [ofList_size]; omega)
        go_wp2_with fail
        refine HCn.mono ?_
        rintro e w3 ⟨he, hb3⟩
        have he : NumE (few b2) e := he
        have HN3 : Hid (SpW w.heap.size w2.heap.size ⟨b0.toArray⟩ ⟨b1.toArray⟩ ⟨b2.toArray⟩ n0 n1 n2 w3) := HN.out.below hb3
        have HB3 : Hid (Below w.heap.size w w3) := HB.out.trans (hb3.mono HB.out.size)
        have gs := cell_below hb3 hXr.er.span
        have c0 := HN3.out.c0
        have c1 := HN3.out.c1
        have c2 := HN3.out.c2
        have nf := HN3.out.num
        clear hb3 hXr hp2 HCn
        cases hf : few b2 with
        | some v =>
          rw [hf] at he
          have he : e = .returned (.tuple #[.int .i64 (v : Int), .nilIface]) := he
          subst he
          have HNx : Hid (SpW w.heap.size w2.heap.size ⟨b0.toArray⟩ ⟨b1.toArray⟩ ⟨b2.toArray⟩ n0 n1 v (w3.setCell ⟨w2.heap.size, 2, none⟩ (.int .i64 (v : Int)))) := (HN3.out.put (v : Int)).2.2
          have HBx : Hid (Below w.heap.size w (w3.setCell ⟨w2.heap.size, 2, none⟩ (.int .i64 (v : Int)))) := HB3.out.setCell (p := ⟨w2.heap.size, 2, none⟩) hz2 _
          have HFx : Hid (few b2 = some v) := hf
          clear hf
          go_wp2
          go_roundw
          case rel => exact ⟨3, n0, n1, v, by decide, rfl, HNx, HBx, fun _ => HA0.out (by decide), fun _ => HA1.out (by decide), fun _ => HFx.out⟩
          case measure => simp [intOf]
        | none =>
          rw [hf] at he
          obtain ⟨ty, xv, rfl⟩ := he
          have HR : Hid (Rep.span s.data.toList = none) := by show _ = _; rw [HSp.out]; exact spanOf_no2 hf
          have r0 := HN3.out.r0
          have r1 := HN3.out.r1
          have r2 := HN3.out.r2
          have rf := HN3.out.res
          have hlB : w.heap.size < w3.heap.size := lt_of_cell r0
          have HBe : Hid (∀ (o : Obj), Below w.heap.size w (w3.alloc o)) := fun o => HB3.out.alloc (Nat.le_of_lt hlB) o
          clear hf
          go_wp2
          refine bodyPost_ret (v := .tuple #[.agg #[.int .i64 0, .int .i64 0, .int .i64 0], .iface 75 (.pointer (some ⟨w3.heap.size, 0, none⟩))]) (by obtain ⟨x0, x1, x2⟩ := fin3 ⟨_, r0⟩ ⟨_, r1⟩ ⟨_, r2⟩ (.int .i64 0) (.int .i64 0) (.int .i64 0) (.cells #[.iface 182 (.pointer (some (ad 14))), .iface ty xv] 92); simp [results, Tryz.results85, go_sem, x0, x1, x2]) rfl ⟨?_, ?_⟩
          · rw [HR.out]; exact ⟨_, _, rfl⟩
          · first | exact below_set3 (HBe.out _) _ (Nat.le_refl _) _ _ _ | exact (below_set3 HB3.out _ (Nat.le_refl _) _ _ _).alloc (by simp; omega) _
      · have g0 := HA0.out (by decide)
        have g1 := HA1.out (by decide)
        have g2 := HA2.out (by decide)
        have l0 := few_lt g0
        have l1 := few_lt g1
        have l2 := few_lt g2
        have gs := hXr.er.span
        have r0 := HN.out.r0
        have r1 := HN.out.r1
        have r2 := HN.out.r2
        have rf := HN.out.res
        have c0 := HN.out.c0
        have c1 := HN.out.c1
        have c2 := HN.out.c2
        have hlB : w.heap.size < wr.heap.size := lt_of_cell r0
        have HBe : Hid (∀ (a b c : Value) (o : Obj), Below w.heap.size w ((((wr.setCell ⟨w.heap.size, 0, none⟩ a).setCell ⟨w.heap.size, 1, none⟩ b).setCell ⟨w.heap.size, 2, none⟩ c).alloc o)) := fun a b c o => (below_set3 HB.out _ (Nat.le_refl _) _ _ _).alloc (by simp; omega) o
        have hgs := lt_of_cell gs
        have hgw : 16 < w.heap.size := Nat.lt_of_lt_of_le (Nat.lt_of_lt_of_le (by decide) HX.out.er.ng) hB0
        have HFn : Hid (∀ x y z o, _) := fin3 ⟨_, r0⟩ ⟨_, r1⟩ ⟨_, r2⟩
        by_cases ht : n0 ≤ n1
        · have t1 : ¬ (n1 : Int) < (n0 : Int) := by omega
          by_cases ht2 : n1 < n2
          · have t2 : ¬ (n2 : Int) ≤ (n1 : Int) := by omega
            have HR : Hid (Rep.span s.data.toList = some ⟨n0, n1, n2⟩) := by show _ = _; rw [HSp.out, g0, g1, g2]; unfold spanOf; simp only []; rw [if_pos ⟨ht, ht2⟩]
            clear g0 g1 g2 HA0 HA1 HA2 hXr gs ht ht2
            go_wp2
            refine bodyPost_ret (v := .tuple #[.agg #[.int .i64 (n0 : Int), .int .i64 (n1 : Int), .int .i64 (n2 : Int)], .nilIface]) (by obtain ⟨x0, x1, x2⟩ := HFn.out (.int .i64 (n0 : Int)) (.int .i64 (n1 : Int)) (.int .i64 (n2 : Int)) (.cells #[.int .i64 (n0 : Int), .int .i64 (n1 : Int), .int .i64 (n2 : Int)] 45); simp [results, Tryz.results85, go_sem, x0, x1, x2]) rfl ⟨?_, ?_⟩
            · rw [HR.out]; exact rfl
            · exact HBe.out _ _ _ _
          · have t2 : (n2 : Int) ≤ (n1 : Int) := by omega
            have HR : Hid (Rep.span s.data.toList = none) := by show _ = _; rw [HSp.out, g0, g1, g2]; unfold spanOf; simp only []; rw [if_neg (fun h => ht2 h.2)]
            clear g0 g1 g2 HA0 HA1 HA2 hXr ht ht2
            go_wp2
            go_region
            all_goals (try go_wp2)
            refine bodyPost_ret (v := .tuple #[.agg #[.int .i64 0, .int .i64 0, .int .i64 0], .iface 182 (.pointer (some (ad 14)))]) (by obtain ⟨x0, x1, x2⟩ := HFn.out (.int .i64 0) (.int .i64 0) (.int .i64 0) (.cells #[.int .i64 (n0 : Int), .int .i64 (n1 : Int), .int .i64 (n2 : Int)] 45); simp [results, Tryz.results85, go_sem, x0, x1, x2]) rfl ⟨?_, ?_⟩
            · rw [HR.out]; exact ⟨_, _, rfl⟩
            · repeat (first | exact HBe.out _ _ _ _ | refine Below.drew ?_)
        · have t1 : (n1 : Int) < (n0 : Int) := by omega
          have HR : Hid (Rep.span s.data.toList = none) := by show _ = _; rw [HSp.out, g0, g1, g2]; unfold spanOf; simp only []; rw [if_neg (fun h => ht h.1)]
          clear g0 g1 g2 HA0 HA1 HA2 hXr ht
          go_wp2
          go_region
          all_goals (try go_wp2)
          refine bodyPost_ret (v := .tuple #[.agg #[.int .i64 0, .int .i64 0, .int .i64 0], .iface 182 (.pointer (some (ad 14)))]) (by obtain ⟨x0, x1, x2⟩ := HFn.out (.int .i64 0) (.int .i64 0) (.int .i64 0) (.cells #[.int .i64 (n0 : Int), .int .i64 (n1 : Int), .int .i64 (n2 : Int)] 45); simp [results, Tryz.results85, go_sem, x0, x1, x2]) rfl ⟨?_, ?_⟩
          · rw [HR.out]; exact ⟨_, _, rfl⟩
          · repeat (first | exact HBe.out _ _ _ _ | refine Below.drew ?_)
end Go.Proofs.YtmodongnganbfaaGreatDoor.Rep
