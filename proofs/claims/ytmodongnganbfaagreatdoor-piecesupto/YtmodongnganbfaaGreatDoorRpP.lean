/- Replies: the program's note. -/
import Derived.Test.YtmodongnganbfaaGreatDoorRpO
namespace Go.Proofs.YtmodongnganbfaaGreatDoor.Rep
open Go.RowKit Go.Proofs.YtmodongnganbfaaGreatDoor Go.Proofs.YtmodongnganbfaaGreatDoor.Sha Go.Proofs.YtmodongnganbfaaGreatDoor.Inf
/-- A head's cells. -/
def encH (h : Hd) : List Value := [.int .i64 (h.status : Int), .bool h.hasLength, .int .i64 (h.length : Int), .bool h.chunked, .bool h.hasTag, .string ⟨h.tag.toArray⟩, .bool h.hasRange, .int .i64 (h.first : Int), .int .i64 (h.last : Int), .int .i64 (h.total : Int)]
/-- A result and its error. -/
def Both {α : Type} (r : Option α) (y : α → Prop) (x : Value) : Prop := (∃ a, r = some a ∧ y a ∧ x = .nilIface) ∨ (r = none ∧ ∃ t z, x = .iface t z)
theorem NumE.two {r : Option Nat} {e : Ending} (h : NumE r e) : ∃ (n : Nat) (x : Value), e = .returned (.tuple #[.int .i64 (n : Int), x]) ∧ Both r (fun a => a = n) x := by
  cases r with
  | some n => exact ⟨n, _, h, .inl ⟨n, rfl, rfl, rfl⟩⟩
  | none =>
    obtain ⟨t, x, h⟩ := h
    exact ⟨0, _, h, .inr ⟨rfl, t, x, rfl⟩⟩
theorem CodE.two {r : Option Unit} {e : Ending} (h : CodE r e) : ∃ (x : Value), e = .returned x ∧ Both r (fun _ => True) x := by
  cases r with
  | some n => exact ⟨_, h, .inl ⟨n, rfl, trivial, rfl⟩⟩
  | none =>
    obtain ⟨t, x, h⟩ := h
    exact ⟨_, h, .inr ⟨rfl, t, x, rfl⟩⟩
theorem SpanF.two {r : Option Span} {e : Ending} (h : SpanF r e) : ∃ (a b c : Nat) (x : Value), e = .returned (.tuple #[.agg #[.int .i64 (a : Int), .int .i64 (b : Int), .int .i64 (c : Int)], x]) ∧ Both r (fun s => s = ⟨a, b, c⟩) x := by
  cases r with
  | some s => exact ⟨s.first, s.last, s.total, _, h, .inl ⟨s, rfl, rfl, rfl⟩⟩
  | none =>
    obtain ⟨t, x, h⟩ := h
    exact ⟨0, 0, 0, _, h, .inr ⟨rfl, t, x, rfl⟩⟩
/-- What the name's small letters are. -/
def LowT (s : ByteArray) (lw : Bytes) : Prop := ∀ wx, Calls Tryz.prog 82 #[.string s] wx fun e w' => e = .returned (.string ⟨lw.toArray⟩) ∧ Below wx.heap.size wx w'
set_option maxRecDepth 100000 in
set_option maxHeartbeats 2000000 in
theorem note_length_true (hb : Nat) (h : Hd) (s v : ByteArray) (lw : Bytes) (ad : Nat → Addr) (B : Nat) (mx : Int) (w : World) (hR : Row w hb (encH h)) (hX : RepX ad B mx w) (hB : B ≤ hb) (HL : LowT s lw) (t0 : (lw == [99, 111, 110, 116, 101, 110, 116, 45, 108, 101, 110, 103, 116, 104]) = true) (hv : v.size ≤ 1000) (htx : ∀ c ∈ v.data.toList, isText c = true) (hth : h.hasLength = true) :
    Calls Tryz.prog 60 #[.pointer (some ⟨hb, 0, none⟩), .agg #[.string s, .string v]] w fun e w' => (∃ t x, e = .returned (.iface t x)) ∧ Only (· = hb) w w' := by
  have hlt : hb < w.heap.size := hR.lt (by simp [encH])
  have hBw : B ≤ w.heap.size := by omega
  have HRow : Hid (Row w hb (encH h)) := hR
  have HX : Hid (RepX ad B mx w) := hX
  have HLo : Hid (LowT s lw) := HL
  have HV : Hid (∀ c ∈ v.data.toList, isText c = true) := htx
  have Hth : Hid (h.hasLength = true) := hth
  clear hR hX HL htx hth
  go_enter Tryz.func60, Tryz.ntmps60
  go_wp2_with fail
  refine (HLo.out _).mono ?_
  rintro e w1 ⟨rfl, hb1⟩
  have p1 : w1.cell? ⟨w.heap.size, 1, none⟩ = some (.string v) := cell_below hb1 (by simp)
  have hB1 : Below w.heap.size w w1 := (below_one w _).trans (hb1.mono (by simp))
  have hX1 := HX.out.keep (hB1.mono hBw)
  have htx := HV.out
  have HC2 := parseNumber_walk v ad B w1 hX1.er hv
  clear hX1 hb1 htx
  go_wp2_with fail
  refine HC2.mono ?_
  rintro e w2 ⟨he, hb2⟩
  obtain ⟨n, x, rfl, hx⟩ := he.two
  have hB2 : Below w.heap.size w w2 := hB1.trans (hb2.mono hB1.size)
  clear HC2 hb2
  have hR2 : Row w2 hb (encH h) := HRow.out.below (by simp [encH]) hB2
  have c1 : w2.cell? ⟨hb, 1, none⟩ = some (.bool true) := by have q := hR2.cell 1 _ rfl; rw [Hth.out] at q; exact q
  have f1 := hR2.fro 1
  have c2 := hR2.cell 2 _ rfl
  have f2 := hR2.fro 2
  have gt := (HX.out.keep (hB2.mono hBw)).er.twice
  have HK : Hid (Only (· = hb) w (w2.setCell ⟨hb, 2, none⟩ (.int .i64 (n : Int)))) := ((Only.of_below hB2).trans (Only.set (S := (· = hb)) _ 2 _ rfl))
  clear hR2 hB1 hB2
  go_wp2
  go_ret
  exact ⟨⟨_, _, rfl⟩, HK.out⟩
set_option maxRecDepth 100000 in
set_option maxHeartbeats 2000000 in
theorem note_length_false (hb : Nat) (h : Hd) (s v : ByteArray) (lw : Bytes) (ad : Nat → Addr) (B : Nat) (mx : Int) (w : World) (hR : Row w hb (encH h)) (hX : RepX ad B mx w) (hB : B ≤ hb) (HL : LowT s lw) (t0 : (lw == [99, 111, 110, 116, 101, 110, 116, 45, 108, 101, 110, 103, 116, 104]) = true) (hv : v.size ≤ 1000) (htx : ∀ c ∈ v.data.toList, isText c = true) (hth : h.hasLength = false) :
    Calls Tryz.prog 60 #[.pointer (some ⟨hb, 0, none⟩), .agg #[.string s, .string v]] w fun e w' => (∃ (n : Nat) (x : Value), e = .returned x ∧ Row w' hb (encH { h with hasLength := true, length := n }) ∧ Both (few v.data.toList) (fun a => a = n) x) ∧ Only (· = hb) w w' := by
  have hlt : hb < w.heap.size := hR.lt (by simp [encH])
  have hBw : B ≤ w.heap.size := by omega
  have HRow : Hid (Row w hb (encH h)) := hR
  have HX : Hid (RepX ad B mx w) := hX
  have HLo : Hid (LowT s lw) := HL
  have HV : Hid (∀ c ∈ v.data.toList, isText c = true) := htx
  have Hth : Hid (h.hasLength = false) := hth
  clear hR hX HL htx hth
  go_enter Tryz.func60, Tryz.ntmps60
  go_wp2_with fail
  refine (HLo.out _).mono ?_
  rintro e w1 ⟨rfl, hb1⟩
  have p1 : w1.cell? ⟨w.heap.size, 1, none⟩ = some (.string v) := cell_below hb1 (by simp)
  have hB1 : Below w.heap.size w w1 := (below_one w _).trans (hb1.mono (by simp))
  have hX1 := HX.out.keep (hB1.mono hBw)
  have htx := HV.out
  have HC2 := parseNumber_walk v ad B w1 hX1.er hv
  clear hX1 hb1 htx
  go_wp2_with fail
  refine HC2.mono ?_
  rintro e w2 ⟨he, hb2⟩
  obtain ⟨n, x, rfl, hx⟩ := he.two
  have hB2 : Below w.heap.size w w2 := hB1.trans (hb2.mono hB1.size)
  clear HC2 hb2
  have hR2 : Row w2 hb (encH h) := HRow.out.below (by simp [encH]) hB2
  have c1 : w2.cell? ⟨hb, 1, none⟩ = some (.bool false) := by have q := hR2.cell 1 _ rfl; rw [Hth.out] at q; exact q
  have f1 := hR2.fro 1
  have c2 := hR2.cell 2 _ rfl
  have f2 := hR2.fro 2
  have gt := (HX.out.keep (hB2.mono hBw)).er.twice
  have HK : Hid (Only (· = hb) w ((w2.setCell ⟨hb, 2, none⟩ (.int .i64 (n : Int))).setCell ⟨hb, 1, none⟩ (.bool true))) := (((Only.of_below hB2).trans (Only.set (S := (· = hb)) _ 2 _ rfl)).trans (Only.set (S := (· = hb)) _ 1 _ rfl))
  have HF : Hid (Row ((w2.setCell ⟨hb, 2, none⟩ (.int .i64 (n : Int))).setCell ⟨hb, 1, none⟩ (.bool true)) hb (encH { h with hasLength := true, length := n })) := ((hR2.set 2 (.int .i64 (n : Int)) (by simp [encH])).set 1 (.bool true) (by simp [encH]))
  have Hx : Hid (Both (few v.data.toList) (fun a => a = n) x) := hx
  clear hx
  clear hR2 hB1 hB2
  go_wp2
  go_ret
  exact ⟨⟨n, x, rfl, HF.out, Hx.out⟩, HK.out⟩
set_option maxRecDepth 100000 in
set_option maxHeartbeats 2000000 in
theorem note_coding_true (hb : Nat) (h : Hd) (s v : ByteArray) (lw : Bytes) (ad : Nat → Addr) (B : Nat) (mx : Int) (w : World) (hR : Row w hb (encH h)) (hX : RepX ad B mx w) (hB : B ≤ hb) (HL : LowT s lw) (t0 : (lw == [99, 111, 110, 116, 101, 110, 116, 45, 108, 101, 110, 103, 116, 104]) = false) (t1 : (lw == [116, 114, 97, 110, 115, 102, 101, 114, 45, 101, 110, 99, 111, 100, 105, 110, 103]) = true) (hv : v.size ≤ 1000) (htx : ∀ c ∈ v.data.toList, isText c = true) (hth : h.chunked = true) :
    Calls Tryz.prog 60 #[.pointer (some ⟨hb, 0, none⟩), .agg #[.string s, .string v]] w fun e w' => (∃ t x, e = .returned (.iface t x)) ∧ Only (· = hb) w w' := by
  have hlt : hb < w.heap.size := hR.lt (by simp [encH])
  have hBw : B ≤ w.heap.size := by omega
  have HRow : Hid (Row w hb (encH h)) := hR
  have HX : Hid (RepX ad B mx w) := hX
  have HLo : Hid (LowT s lw) := HL
  have HV : Hid (∀ c ∈ v.data.toList, isText c = true) := htx
  have Hth : Hid (h.chunked = true) := hth
  clear hR hX HL htx hth
  go_enter Tryz.func60, Tryz.ntmps60
  go_wp2_with fail
  refine (HLo.out _).mono ?_
  rintro e w1 ⟨rfl, hb1⟩
  have p1 : w1.cell? ⟨w.heap.size, 1, none⟩ = some (.string v) := cell_below hb1 (by simp)
  have hB1 : Below w.heap.size w w1 := (below_one w _).trans (hb1.mono (by simp))
  have hX1 := HX.out.keep (hB1.mono hBw)
  have htx := HV.out
  have HC2 := checkCoding_walk v ad B w1 hX1.er hv htx
  clear hX1 hb1 htx
  go_wp2_with fail
  refine HC2.mono ?_
  rintro e w2 ⟨he, hb2⟩
  obtain ⟨x, rfl, hx⟩ := he.two
  have hB2 : Below w.heap.size w w2 := hB1.trans (hb2.mono hB1.size)
  clear HC2 hb2
  have hR2 : Row w2 hb (encH h) := HRow.out.below (by simp [encH]) hB2
  have c3 : w2.cell? ⟨hb, 3, none⟩ = some (.bool true) := by have q := hR2.cell 3 _ rfl; rw [Hth.out] at q; exact q
  have f3 := hR2.fro 3
  have gt := (HX.out.keep (hB2.mono hBw)).er.twice
  have HK : Hid (Only (· = hb) w w2) := (Only.of_below hB2)
  clear hR2 hB1 hB2
  go_wp2
  go_ret
  exact ⟨⟨_, _, rfl⟩, HK.out⟩
set_option maxRecDepth 100000 in
set_option maxHeartbeats 2000000 in
theorem note_coding_false (hb : Nat) (h : Hd) (s v : ByteArray) (lw : Bytes) (ad : Nat → Addr) (B : Nat) (mx : Int) (w : World) (hR : Row w hb (encH h)) (hX : RepX ad B mx w) (hB : B ≤ hb) (HL : LowT s lw) (t0 : (lw == [99, 111, 110, 116, 101, 110, 116, 45, 108, 101, 110, 103, 116, 104]) = false) (t1 : (lw == [116, 114, 97, 110, 115, 102, 101, 114, 45, 101, 110, 99, 111, 100, 105, 110, 103]) = true) (hv : v.size ≤ 1000) (htx : ∀ c ∈ v.data.toList, isText c = true) (hth : h.chunked = false) :
    Calls Tryz.prog 60 #[.pointer (some ⟨hb, 0, none⟩), .agg #[.string s, .string v]] w fun e w' => (∃ (x : Value), e = .returned x ∧ Row w' hb (encH { h with chunked := true }) ∧ Both (coding v.data.toList) (fun _ => True) x) ∧ Only (· = hb) w w' := by
  have hlt : hb < w.heap.size := hR.lt (by simp [encH])
  have hBw : B ≤ w.heap.size := by omega
  have HRow : Hid (Row w hb (encH h)) := hR
  have HX : Hid (RepX ad B mx w) := hX
  have HLo : Hid (LowT s lw) := HL
  have HV : Hid (∀ c ∈ v.data.toList, isText c = true) := htx
  have Hth : Hid (h.chunked = false) := hth
  clear hR hX HL htx hth
  go_enter Tryz.func60, Tryz.ntmps60
  go_wp2_with fail
  refine (HLo.out _).mono ?_
  rintro e w1 ⟨rfl, hb1⟩
  have p1 : w1.cell? ⟨w.heap.size, 1, none⟩ = some (.string v) := cell_below hb1 (by simp)
  have hB1 : Below w.heap.size w w1 := (below_one w _).trans (hb1.mono (by simp))
  have hX1 := HX.out.keep (hB1.mono hBw)
  have htx := HV.out
  have HC2 := checkCoding_walk v ad B w1 hX1.er hv htx
  clear hX1 hb1 htx
  go_wp2_with fail
  refine HC2.mono ?_
  rintro e w2 ⟨he, hb2⟩
  obtain ⟨x, rfl, hx⟩ := he.two
  have hB2 : Below w.heap.size w w2 := hB1.trans (hb2.mono hB1.size)
  clear HC2 hb2
  have hR2 : Row w2 hb (encH h) := HRow.out.below (by simp [encH]) hB2
  have c3 : w2.cell? ⟨hb, 3, none⟩ = some (.bool false) := by have q := hR2.cell 3 _ rfl; rw [Hth.out] at q; exact q
  have f3 := hR2.fro 3
  have gt := (HX.out.keep (hB2.mono hBw)).er.twice
  have HK : Hid (Only (· = hb) w (w2.setCell ⟨hb, 3, none⟩ (.bool true))) := ((Only.of_below hB2).trans (Only.set (S := (· = hb)) _ 3 _ rfl))
  have HF : Hid (Row (w2.setCell ⟨hb, 3, none⟩ (.bool true)) hb (encH { h with chunked := true })) := (hR2.set 3 (.bool true) (by simp [encH]))
  have Hx : Hid (Both (coding v.data.toList) (fun _ => True) x) := hx
  clear hx
  clear hR2 hB1 hB2
  go_wp2
  go_ret
  exact ⟨⟨x, rfl, HF.out, Hx.out⟩, HK.out⟩
set_option maxRecDepth 100000 in
set_option maxHeartbeats 2000000 in
theorem note_tag_true (hb : Nat) (h : Hd) (s v : ByteArray) (lw : Bytes) (ad : Nat → Addr) (B : Nat) (mx : Int) (w : World) (hR : Row w hb (encH h)) (hX : RepX ad B mx w) (hB : B ≤ hb) (HL : LowT s lw) (t0 : (lw == [99, 111, 110, 116, 101, 110, 116, 45, 108, 101, 110, 103, 116, 104]) = false) (t1 : (lw == [116, 114, 97, 110, 115, 102, 101, 114, 45, 101, 110, 99, 111, 100, 105, 110, 103]) = false) (t2 : (lw == [101, 116, 97, 103]) = true) (_hv : v.size ≤ 1000) (htx : ∀ c ∈ v.data.toList, isText c = true) (hth : h.hasTag = true) :
    Calls Tryz.prog 60 #[.pointer (some ⟨hb, 0, none⟩), .agg #[.string s, .string v]] w fun e w' => (∃ t x, e = .returned (.iface t x)) ∧ Only (· = hb) w w' := by
  have hlt : hb < w.heap.size := hR.lt (by simp [encH])
  have hBw : B ≤ w.heap.size := by omega
  have HRow : Hid (Row w hb (encH h)) := hR
  have HX : Hid (RepX ad B mx w) := hX
  have HLo : Hid (LowT s lw) := HL
  have HV : Hid (∀ c ∈ v.data.toList, isText c = true) := htx
  have Hth : Hid (h.hasTag = true) := hth
  clear hR hX HL htx hth
  go_enter Tryz.func60, Tryz.ntmps60
  go_wp2_with fail
  refine (HLo.out _).mono ?_
  rintro e w1 ⟨rfl, hb1⟩
  have p1 : w1.cell? ⟨w.heap.size, 1, none⟩ = some (.string v) := cell_below hb1 (by simp)
  have hB1 : Below w.heap.size w w1 := (below_one w _).trans (hb1.mono (by simp))
  have hX1 := HX.out.keep (hB1.mono hBw)
  have htx := HV.out
  have hB2 : Below w.heap.size w w1 := hB1
  clear hX1 hb1 htx
  have hR2 : Row w1 hb (encH h) := HRow.out.below (by simp [encH]) hB2
  have c4 : w1.cell? ⟨hb, 4, none⟩ = some (.bool true) := by have q := hR2.cell 4 _ rfl; rw [Hth.out] at q; exact q
  have f4 := hR2.fro 4
  have c5 := hR2.cell 5 _ rfl
  have f5 := hR2.fro 5
  have gt := (HX.out.keep (hB2.mono hBw)).er.twice
  have HK : Hid (Only (· = hb) w (w1.setCell ⟨hb, 5, none⟩ (.string v))) := ((Only.of_below hB2).trans (Only.set (S := (· = hb)) _ 5 _ rfl))
  clear hR2 hB1 hB2
  go_wp2
  go_ret
  exact ⟨⟨_, _, rfl⟩, HK.out⟩
set_option maxRecDepth 100000 in
set_option maxHeartbeats 2000000 in
theorem note_tag_false (hb : Nat) (h : Hd) (s v : ByteArray) (lw : Bytes) (ad : Nat → Addr) (B : Nat) (mx : Int) (w : World) (hR : Row w hb (encH h)) (hX : RepX ad B mx w) (hB : B ≤ hb) (HL : LowT s lw) (t0 : (lw == [99, 111, 110, 116, 101, 110, 116, 45, 108, 101, 110, 103, 116, 104]) = false) (t1 : (lw == [116, 114, 97, 110, 115, 102, 101, 114, 45, 101, 110, 99, 111, 100, 105, 110, 103]) = false) (t2 : (lw == [101, 116, 97, 103]) = true) (_hv : v.size ≤ 1000) (htx : ∀ c ∈ v.data.toList, isText c = true) (hth : h.hasTag = false) :
    Calls Tryz.prog 60 #[.pointer (some ⟨hb, 0, none⟩), .agg #[.string s, .string v]] w fun e w' => (∃ (x : Value), e = .returned x ∧ Row w' hb (encH { h with hasTag := true, tag := v.data.toList }) ∧ x = .nilIface) ∧ Only (· = hb) w w' := by
  have hlt : hb < w.heap.size := hR.lt (by simp [encH])
  have hBw : B ≤ w.heap.size := by omega
  have HRow : Hid (Row w hb (encH h)) := hR
  have HX : Hid (RepX ad B mx w) := hX
  have HLo : Hid (LowT s lw) := HL
  have HV : Hid (∀ c ∈ v.data.toList, isText c = true) := htx
  have Hth : Hid (h.hasTag = false) := hth
  clear hR hX HL htx hth
  go_enter Tryz.func60, Tryz.ntmps60
  go_wp2_with fail
  refine (HLo.out _).mono ?_
  rintro e w1 ⟨rfl, hb1⟩
  have p1 : w1.cell? ⟨w.heap.size, 1, none⟩ = some (.string v) := cell_below hb1 (by simp)
  have hB1 : Below w.heap.size w w1 := (below_one w _).trans (hb1.mono (by simp))
  have hX1 := HX.out.keep (hB1.mono hBw)
  have htx := HV.out
  have hB2 : Below w.heap.size w w1 := hB1
  clear hX1 hb1 htx
  have hR2 : Row w1 hb (encH h) := HRow.out.below (by simp [encH]) hB2
  have c4 : w1.cell? ⟨hb, 4, none⟩ = some (.bool false) := by have q := hR2.cell 4 _ rfl; rw [Hth.out] at q; exact q
  have f4 := hR2.fro 4
  have c5 := hR2.cell 5 _ rfl
  have f5 := hR2.fro 5
  have gt := (HX.out.keep (hB2.mono hBw)).er.twice
  have HK : Hid (Only (· = hb) w ((w1.setCell ⟨hb, 5, none⟩ (.string v)).setCell ⟨hb, 4, none⟩ (.bool true))) := (((Only.of_below hB2).trans (Only.set (S := (· = hb)) _ 5 _ rfl)).trans (Only.set (S := (· = hb)) _ 4 _ rfl))
  have HF : Hid (Row ((w1.setCell ⟨hb, 5, none⟩ (.string v)).setCell ⟨hb, 4, none⟩ (.bool true)) hb (encH { h with hasTag := true, tag := v.data.toList })) := ((hR2.set 5 (.string v) (by simp [encH])).set 4 (.bool true) (by simp [encH]))
  clear hR2 hB1 hB2
  go_wp2
  go_ret
  exact ⟨⟨.nilIface, rfl, HF.out, rfl⟩, HK.out⟩
set_option maxRecDepth 100000 in
set_option maxHeartbeats 2000000 in
theorem note_range_true (hb : Nat) (h : Hd) (s v : ByteArray) (lw : Bytes) (ad : Nat → Addr) (B : Nat) (mx : Int) (w : World) (hR : Row w hb (encH h)) (hX : RepX ad B mx w) (hB : B ≤ hb) (HL : LowT s lw) (t0 : (lw == [99, 111, 110, 116, 101, 110, 116, 45, 108, 101, 110, 103, 116, 104]) = false) (t1 : (lw == [116, 114, 97, 110, 115, 102, 101, 114, 45, 101, 110, 99, 111, 100, 105, 110, 103]) = false) (t2 : (lw == [101, 116, 97, 103]) = false) (t3 : (lw == [99, 111, 110, 116, 101, 110, 116, 45, 114, 97, 110, 103, 101]) = true) (hv : v.size ≤ 1000) (htx : ∀ c ∈ v.data.toList, isText c = true) (hth : h.hasRange = true) :
    Calls Tryz.prog 60 #[.pointer (some ⟨hb, 0, none⟩), .agg #[.string s, .string v]] w fun e w' => (∃ t x, e = .returned (.iface t x)) ∧ Only (· = hb) w w' := by
  have hlt : hb < w.heap.size := hR.lt (by simp [encH])
  have hBw : B ≤ w.heap.size := by omega
  have HRow : Hid (Row w hb (encH h)) := hR
  have HX : Hid (RepX ad B mx w) := hX
  have HLo : Hid (LowT s lw) := HL
  have HV : Hid (∀ c ∈ v.data.toList, isText c = true) := htx
  have Hth : Hid (h.hasRange = true) := hth
  clear hR hX HL htx hth
  go_enter Tryz.func60, Tryz.ntmps60
  go_wp2_with fail
  refine (HLo.out _).mono ?_
  rintro e w1 ⟨rfl, hb1⟩
  have p1 : w1.cell? ⟨w.heap.size, 1, none⟩ = some (.string v) := cell_below hb1 (by simp)
  have hB1 : Below w.heap.size w w1 := (below_one w _).trans (hb1.mono (by simp))
  have hX1 := HX.out.keep (hB1.mono hBw)
  have htx := HV.out
  have HC2 := parseSpan_walk v ad B mx w1 hX1 (Nat.le_trans hBw hB1.size) hv
  clear hX1 hb1 htx
  go_wp2_with fail
  refine HC2.mono ?_
  rintro e w2 ⟨he, hb2⟩
  obtain ⟨a, b, c, x, rfl, hx⟩ := he.two
  have hB2 : Below w.heap.size w w2 := hB1.trans (hb2.mono hB1.size)
  clear HC2 hb2
  have hR2 : Row w2 hb (encH h) := HRow.out.below (by simp [encH]) hB2
  have c6 : w2.cell? ⟨hb, 6, none⟩ = some (.bool true) := by have q := hR2.cell 6 _ rfl; rw [Hth.out] at q; exact q
  have f6 := hR2.fro 6
  have c7 := hR2.cell 7 _ rfl
  have f7 := hR2.fro 7
  have c8 := hR2.cell 8 _ rfl
  have f8 := hR2.fro 8
  have c9 := hR2.cell 9 _ rfl
  have f9 := hR2.fro 9
  have gt := (HX.out.keep (hB2.mono hBw)).er.twice
  have HK : Hid (Only (· = hb) w (((w2.setCell ⟨hb, 7, none⟩ (.int .i64 (a : Int))).setCell ⟨hb, 8, none⟩ (.int .i64 (b : Int))).setCell ⟨hb, 9, none⟩ (.int .i64 (c : Int)))) := ((((Only.of_below hB2).trans (Only.set (S := (· = hb)) _ 7 _ rfl)).trans (Only.set (S := (· = hb)) _ 8 _ rfl)).trans (Only.set (S := (· = hb)) _ 9 _ rfl))
  clear hR2 hB1 hB2
  go_wp2
  go_ret
  exact ⟨⟨_, _, rfl⟩, HK.out⟩
set_option maxRecDepth 100000 in
set_option maxHeartbeats 2000000 in
theorem note_range_false (hb : Nat) (h : Hd) (s v : ByteArray) (lw : Bytes) (ad : Nat → Addr) (B : Nat) (mx : Int) (w : World) (hR : Row w hb (encH h)) (hX : RepX ad B mx w) (hB : B ≤ hb) (HL : LowT s lw) (t0 : (lw == [99, 111, 110, 116, 101, 110, 116, 45, 108, 101, 110, 103, 116, 104]) = false) (t1 : (lw == [116, 114, 97, 110, 115, 102, 101, 114, 45, 101, 110, 99, 111, 100, 105, 110, 103]) = false) (t2 : (lw == [101, 116, 97, 103]) = false) (t3 : (lw == [99, 111, 110, 116, 101, 110, 116, 45, 114, 97, 110, 103, 101]) = true) (hv : v.size ≤ 1000) (htx : ∀ c ∈ v.data.toList, isText c = true) (hth : h.hasRange = false) :
    Calls Tryz.prog 60 #[.pointer (some ⟨hb, 0, none⟩), .agg #[.string s, .string v]] w fun e w' => (∃ (a b c : Nat) (x : Value), e = .returned x ∧ Row w' hb (encH { h with hasRange := true, first := a, last := b, total := c }) ∧ Both (Rep.span v.data.toList) (fun s => s = ⟨a, b, c⟩) x) ∧ Only (· = hb) w w' := by
  have hlt : hb < w.heap.size := hR.lt (by simp [encH])
  have hBw : B ≤ w.heap.size := by omega
  have HRow : Hid (Row w hb (encH h)) := hR
  have HX : Hid (RepX ad B mx w) := hX
  have HLo : Hid (LowT s lw) := HL
  have HV : Hid (∀ c ∈ v.data.toList, isText c = true) := htx
  have Hth : Hid (h.hasRange = false) := hth
  clear hR hX HL htx hth
  go_enter Tryz.func60, Tryz.ntmps60
  go_wp2_with fail
  refine (HLo.out _).mono ?_
  rintro e w1 ⟨rfl, hb1⟩
  have p1 : w1.cell? ⟨w.heap.size, 1, none⟩ = some (.string v) := cell_below hb1 (by simp)
  have hB1 : Below w.heap.size w w1 := (below_one w _).trans (hb1.mono (by simp))
  have hX1 := HX.out.keep (hB1.mono hBw)
  have htx := HV.out
  have HC2 := parseSpan_walk v ad B mx w1 hX1 (Nat.le_trans hBw hB1.size) hv
  clear hX1 hb1 htx
  go_wp2_with fail
  refine HC2.mono ?_
  rintro e w2 ⟨he, hb2⟩
  obtain ⟨a, b, c, x, rfl, hx⟩ := he.two
  have hB2 : Below w.heap.size w w2 := hB1.trans (hb2.mono hB1.size)
  clear HC2 hb2
  have hR2 : Row w2 hb (encH h) := HRow.out.below (by simp [encH]) hB2
  have c6 : w2.cell? ⟨hb, 6, none⟩ = some (.bool false) := by have q := hR2.cell 6 _ rfl; rw [Hth.out] at q; exact q
  have f6 := hR2.fro 6
  have c7 := hR2.cell 7 _ rfl
  have f7 := hR2.fro 7
  have c8 := hR2.cell 8 _ rfl
  have f8 := hR2.fro 8
  have c9 := hR2.cell 9 _ rfl
  have f9 := hR2.fro 9
  have gt := (HX.out.keep (hB2.mono hBw)).er.twice
  have HK : Hid (Only (· = hb) w ((((w2.setCell ⟨hb, 7, none⟩ (.int .i64 (a : Int))).setCell ⟨hb, 8, none⟩ (.int .i64 (b : Int))).setCell ⟨hb, 9, none⟩ (.int .i64 (c : Int))).setCell ⟨hb, 6, none⟩ (.bool true))) := (((((Only.of_below hB2).trans (Only.set (S := (· = hb)) _ 7 _ rfl)).trans (Only.set (S := (· = hb)) _ 8 _ rfl)).trans (Only.set (S := (· = hb)) _ 9 _ rfl)).trans (Only.set (S := (· = hb)) _ 6 _ rfl))
  have HF : Hid (Row ((((w2.setCell ⟨hb, 7, none⟩ (.int .i64 (a : Int))).setCell ⟨hb, 8, none⟩ (.int .i64 (b : Int))).setCell ⟨hb, 9, none⟩ (.int .i64 (c : Int))).setCell ⟨hb, 6, none⟩ (.bool true)) hb (encH { h with hasRange := true, first := a, last := b, total := c })) := ((((hR2.set 7 (.int .i64 (a : Int)) (by simp [encH])).set 8 (.int .i64 (b : Int)) (by simp [encH])).set 9 (.int .i64 (c : Int)) (by simp [encH])).set 6 (.bool true) (by simp [encH]))
  have Hx : Hid (Both (Rep.span v.data.toList) (fun s => s = ⟨a, b, c⟩) x) := hx
  clear hx
  clear hR2 hB1 hB2
  go_wp2
  go_ret
  exact ⟨⟨a, b, c, x, rfl, HF.out, Hx.out⟩, HK.out⟩
set_option maxRecDepth 100000 in
set_option maxHeartbeats 2000000 in
theorem note_none (hb : Nat) (s v : ByteArray) (lw : Bytes) (w : World) (HL : LowT s lw) (t0 : (lw == [99, 111, 110, 116, 101, 110, 116, 45, 108, 101, 110, 103, 116, 104]) = false) (t1 : (lw == [116, 114, 97, 110, 115, 102, 101, 114, 45, 101, 110, 99, 111, 100, 105, 110, 103]) = false) (t2 : (lw == [101, 116, 97, 103]) = false) (t3 : (lw == [99, 111, 110, 116, 101, 110, 116, 45, 114, 97, 110, 103, 101]) = false) :
    Calls Tryz.prog 60 #[.pointer (some ⟨hb, 0, none⟩), .agg #[.string s, .string v]] w fun e w' => e = .returned .nilIface ∧ Below w.heap.size w w' := by
  have HLo : Hid (LowT s lw) := HL
  clear HL
  go_enter Tryz.func60, Tryz.ntmps60
  go_wp2_with fail
  refine (HLo.out _).mono ?_
  rintro e w1 ⟨rfl, hb1⟩
  have HB1 : Hid (Below w.heap.size w w1) := (below_one w _).trans (hb1.mono (by simp))
  clear hb1
  go_wp2
  go_ret
  exact ⟨rfl, HB1.out⟩
/-- How note ends. -/
def NoteE (hb st : Nat) (r : Option Note) (e : Ending) (w' : World) : Prop := match r with
  | some s => e = .returned .nilIface ∧ Row w' hb (encH (hdN st s))
  | none => ∃ t x, e = .returned (.iface t x)
theorem nodata (v : ByteArray) : (⟨v.data.toList.toArray⟩ : ByteArray) = v := by cases v with | mk d => simp
theorem note_walk (hb st : Nat) (n : Note) (f : Bytes × Bytes) (ad : Nat → Addr) (B : Nat) (mx : Int) (w : World) (hR : Row w hb (encH (hdN st n))) (hX : RepX ad B mx w) (hB : B ≤ hb) (h1 : ∀ c ∈ f.1, isNameByte c = true) (h2 : ∀ c ∈ f.2, isText c = true) (h3 : f.1.length ≤ 400) (h4 : f.2.length ≤ 400) :
    Calls Tryz.prog 60 #[.pointer (some ⟨hb, 0, none⟩), .agg (fcells f).toArray] w fun e w' => NoteE hb st (note n (lowF f)) e w' ∧ Only (· = hb) w w' := by
  obtain ⟨nm, vl⟩ := f
  simp only [] at h1 h2 h3 h4
  have HL : LowT ⟨nm.toArray⟩ (smaller nm) := fun wx => by
    have q := lower_text ⟨nm.toArray⟩ wx (by rw [ofList_size]; omega) (fun c hc => name_ascii (h1 c (by rw [ofList_data] at hc; exact hc)))
    rw [ofList_data] at q
    exact q
  have hv : (⟨vl.toArray⟩ : ByteArray).size ≤ 1000 := by rw [ofList_size]; omega
  have htx : ∀ c ∈ (⟨vl.toArray⟩ : ByteArray).data.toList, isText c = true := by rw [ofList_data]; exact h2
  have hlow : lowF (nm, vl) = (smaller nm, vl) := rfl
  rw [hlow]
  have ht : ∀ l : Bytes, smaller nm ≠ l → (smaller nm == l) = false := fun l h => beq_eq_false_iff_ne.2 h
  show Calls Tryz.prog 60 #[.pointer (some ⟨hb, 0, none⟩), .agg #[.string ⟨nm.toArray⟩, .string ⟨vl.toArray⟩]] w _
  unfold note
  by_cases k0 : smaller nm = nLength
  · rw [if_pos k0]
    have t0 : (smaller nm == [99, 111, 110, 116, 101, 110, 116, 45, 108, 101, 110, 103, 116, 104]) = true := beq_iff_eq.2 k0
    cases hth : n.length.isSome with
    | true =>
      refine (note_length_true hb _ _ _ _ ad B mx w hR hX hB HL t0 hv htx hth).mono ?_
      rintro e w' ⟨he, hk⟩
      refine ⟨?_, hk⟩
      have : once few n.length vl = none := by unfold once; rw [if_pos hth]
      simp only [this]
      exact he
    | false =>
      refine (note_length_false hb _ _ _ _ ad B mx w hR hX hB HL t0 hv htx hth).mono ?_
      rintro e w' ⟨⟨m, x, rfl, hr, hx⟩, hk⟩
      refine ⟨?_, hk⟩
      rw [ofList_data] at hx
      rcases hx with ⟨a, ha, rfl, rfl⟩ | ⟨ha, t, z, rfl⟩
      · have : once few n.length vl = some (some a) := by unfold once; rw [if_neg (by rw [hth]; decide), ha]; rfl
        simp only [this]
        exact ⟨rfl, hr⟩
      · have : once few n.length vl = none := by unfold once; rw [if_neg (by rw [hth]; decide), ha]; rfl
        simp only [this]
        exact ⟨t, z, rfl⟩
  · rw [if_neg k0]
    have t0 := ht _ k0
    by_cases k1 : smaller nm = nCoding
    · rw [if_pos k1]
      have t1 : (smaller nm == [116, 114, 97, 110, 115, 102, 101, 114, 45, 101, 110, 99, 111, 100, 105, 110, 103]) = true := beq_iff_eq.2 k1
      cases hth : n.coded.isSome with
      | true =>
        refine (note_coding_true hb _ _ _ _ ad B mx w hR hX hB HL t0 t1 hv htx hth).mono ?_
        rintro e w' ⟨he, hk⟩
        refine ⟨?_, hk⟩
        have : once coding n.coded vl = none := by unfold once; rw [if_pos hth]
        simp only [this]
        exact he
      | false =>
        refine (note_coding_false hb _ _ _ _ ad B mx w hR hX hB HL t0 t1 hv htx hth).mono ?_
        rintro e w' ⟨⟨x, rfl, hr, hx⟩, hk⟩
        refine ⟨?_, hk⟩
        rw [ofList_data] at hx
        rcases hx with ⟨a, ha, _, rfl⟩ | ⟨ha, t, z, rfl⟩
        · have : once coding n.coded vl = some (some a) := by unfold once; rw [if_neg (by rw [hth]; decide), ha]; rfl
          simp only [this]
          exact ⟨rfl, hr⟩
        · have : once coding n.coded vl = none := by unfold once; rw [if_neg (by rw [hth]; decide), ha]; rfl
          simp only [this]
          exact ⟨t, z, rfl⟩
    · rw [if_neg k1]
      have t1 := ht _ k1
      by_cases k2 : smaller nm = nTag
      · rw [if_pos k2]
        have t2 : (smaller nm == [101, 116, 97, 103]) = true := beq_iff_eq.2 k2
        cases hth : n.tag.isSome with
        | true =>
          refine (note_tag_true hb _ _ _ _ ad B mx w hR hX hB HL t0 t1 t2 hv htx hth).mono ?_
          rintro e w' ⟨he, hk⟩
          refine ⟨?_, hk⟩
          have : once some n.tag vl = none := by unfold once; rw [if_pos hth]
          simp only [this]
          exact he
        | false =>
          refine (note_tag_false hb _ _ _ _ ad B mx w hR hX hB HL t0 t1 t2 hv htx hth).mono ?_
          rintro e w' ⟨⟨x, rfl, hr, rfl⟩, hk⟩
          refine ⟨?_, hk⟩
          rw [ofList_data] at hr
          have : once some n.tag vl = some (some vl) := by unfold once; rw [if_neg (by rw [hth]; decide)]; rfl
          simp only [this]
          exact ⟨rfl, hr⟩
      · rw [if_neg k2]
        have t2 := ht _ k2
        by_cases k3 : smaller nm = nRange
        · rw [if_pos k3]
          have t3 : (smaller nm == [99, 111, 110, 116, 101, 110, 116, 45, 114, 97, 110, 103, 101]) = true := beq_iff_eq.2 k3
          cases hth : n.span.isSome with
          | true =>
            refine (note_range_true hb _ _ _ _ ad B mx w hR hX hB HL t0 t1 t2 t3 hv htx hth).mono ?_
            rintro e w' ⟨he, hk⟩
            refine ⟨?_, hk⟩
            have : once Rep.span n.span vl = none := by unfold once; rw [if_pos hth]
            simp only [this]
            exact he
          | false =>
            refine (note_range_false hb _ _ _ _ ad B mx w hR hX hB HL t0 t1 t2 t3 hv htx hth).mono ?_
            rintro e w' ⟨⟨a, b, c, x, rfl, hr, hx⟩, hk⟩
            refine ⟨?_, hk⟩
            rw [ofList_data] at hx
            rcases hx with ⟨q, ha, rfl, rfl⟩ | ⟨ha, t, z, rfl⟩
            · have : once Rep.span n.span vl = some (some ⟨a, b, c⟩) := by unfold once; rw [if_neg (by rw [hth]; decide), ha]; rfl
              simp only [this]
              exact ⟨rfl, hr⟩
            · have : once Rep.span n.span vl = none := by unfold once; rw [if_neg (by rw [hth]; decide), ha]; rfl
              simp only [this]
              exact ⟨t, z, rfl⟩
        · rw [if_neg k3]
          have t3 := ht _ k3
          refine (note_none hb _ _ _ w HL t0 t1 t2 t3).mono ?_
          rintro e w' ⟨rfl, hb1⟩
          exact ⟨⟨rfl, hR.below (by simp [encH]) hb1⟩, Only.of_below hb1⟩
end Go.Proofs.YtmodongnganbfaaGreatDoor.Rep
