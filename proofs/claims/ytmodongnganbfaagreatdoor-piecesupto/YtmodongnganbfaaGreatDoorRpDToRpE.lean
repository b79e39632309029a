/- Replies: the program's fail, broken, take. -/
import Derived.Test.YtmodongnganbfaaGreatDoorRpBToRpC
import Derived.Test.YtmodongnganbfaaGreatDoorRdV
namespace Go.Proofs.YtmodongnganbfaaGreatDoor.Rep
open Go.RowKit Go.Proofs.YtmodongnganbfaaGreatDoor Go.Proofs.YtmodongnganbfaaGreatDoor.Sha
theorem new_cell2 (w : World) (n : Nat) (a b : Value) (t : TypeId) (h : w.heap.size = n) : (w.alloc (.cells #[a, b] t)).cell? ⟨n, 0, none⟩ = some a := by rw [← h]; simp
/-- A fault of kind k. -/
def FaultAt (ad : Nat → Addr) (pm k : Nat) (err : Value) (w : World) : Prop := ∃ f, err = .iface 75 (.pointer (some ⟨f, 0, none⟩)) ∧ f ≠ pm ∧ f < w.heap.size ∧ w.cell? ⟨f, 0, none⟩ = some (errV ad k)
theorem FaultAt.only {ad : Nat → Addr} {pm k : Nat} {err : Value} {w w' : World} (h : FaultAt ad pm k err w) (hk : Only (· = pm) w w') : FaultAt ad pm k err w' := by
  obtain ⟨f, e, hn, hl, hc⟩ := h
  exact ⟨f, e, hn, Nat.lt_of_lt_of_le hl hk.size, by rw [hk.cell (p := ⟨f, 0, none⟩) hl hn]; exact hc⟩
/-- What the program would tell of the document's machine. -/
def Tells (m : Mc) (hd : Hd) (body : Bytes) : Prop :=
  (m.headed = true ∧ hd.status = m.status ∧ hd.tag = m.tag ∧ body = m.body ∧ (m.status = 206 → hd.first = frOf m ∧ hd.total = totOf m)) ∨ (m.headed = false ∧ hd = Hd.none ∧ body = [])
/-- A fault says what the document tells. -/
def Faulted (ad : Nat → Addr) (pm : Nat) (R : Res) (p : Ps) (err : Value) (w : World) : Prop :=
  (FaultAt ad pm 5 err w ∧ R = ⟨none, p.wire.ticks⟩) ∨ (FaultAt ad pm 4 err w ∧ ∃ m, R = ⟨some m, p.wire.ticks⟩ ∧ m.at' ≠ 14 ∧ Tells m p.hd p.body)
theorem PM.setErr {pm limit : Nat} {p : Ps} {err : Value} {w : World} (h : PM pm limit p err w) (err' : Value) : PM pm limit p err' (w.setCell ⟨pm, 18, none⟩ err') := by
  have hl := h.lt
  obtain ⟨ao, n, cap, bv, hR, hn, hc, hc2, hE, hg, hO, hbn⟩ := h.ex
  exact PM.mk' (p := p) (w := w) (hR.set 18 err' (by simp [encP])) (Only.set (S := (· = pm)) w 18 _ rfl) hl hn hc hc2 hE hg hO rfl hbn h.ok
theorem PM.c18 {pm limit : Nat} {p : Ps} {err : Value} {w : World} (h : PM pm limit p err w) : w.cell? ⟨pm, 18, none⟩ = some err ∧ w.frozen? ⟨pm, 18, none⟩ = false := by
  obtain ⟨ao, n, cap, bv, hR, _⟩ := h.ex
  exact ⟨hR.cell 18 _ rfl, hR.fro 18⟩
set_option maxHeartbeats 2000000 in
set_option maxRecDepth 100000 in
/-- A first fault is kept. -/
theorem fail_first (pm limit : Nat) (p : Ps) (ad : Nat → Addr) (k : Nat) (x : Value) (t2 : TypeId) (w : World) (h : PM pm limit p .nilIface w) :
    Calls Tryz.prog 46 #[.pointer (some ⟨pm, 0, none⟩), .iface 182 (.pointer (some (ad k))), .iface t2 x] w fun e w' => e = .returned (.tuple #[]) ∧ (∃ err, PM pm limit p err w' ∧ FaultAt ad pm k err w') ∧ Only (· = pm) w w' := by
  obtain ⟨c18, f18⟩ := h.c18
  have hlt := h.lt
  obtain ⟨w1, HW1⟩ : ∃ w1, Hid ((w.setCell ⟨pm, 18, none⟩ (.iface 75 (.pointer (some ⟨w.heap.size, 0, none⟩)))).alloc (.cells #[.iface 182 (.pointer (some (ad k))), .iface t2 x] 92) = w1) := ⟨_, rfl⟩
  have hP1 : PM pm limit p (.iface 75 (.pointer (some ⟨w.heap.size, 0, none⟩))) w1 := by rw [← HW1.out]; exact (h.setErr _).below ((Below.refl _ _).alloc (Nat.le_refl _) _)
  have HF : Hid (PM pm limit p (.iface 75 (.pointer (some ⟨w.heap.size, 0, none⟩))) w1) := hP1
  have HA : Hid (FaultAt ad pm k (.iface 75 (.pointer (some ⟨w.heap.size, 0, none⟩))) w1) := by
    refine ⟨w.heap.size, rfl, by omega, ?_, ?_⟩
    · rw [← HW1.out]; simp
    · rw [← HW1.out]; exact new_cell2 _ _ _ _ _ (by simp)
  have HK : Hid (Only (· = pm) w w1) := by show Only _ _ _; rw [← HW1.out]; exact (Only.set (S := (· = pm)) w 18 _ rfl).trans (Only.alloc _ _ _)
  clear h hP1
  go_enter Tryz.func46, Tryz.ntmps46
  go_wp2
  rw [HW1.out]
  first | go_end0 | refine bodyPost_ret (results_none rfl _ _ _) rfl ?_
  exact ⟨rfl, ⟨_, HF.out, HA.out⟩, HK.out⟩
set_option maxRecDepth 100000 in
/-- A later fault is dropped. -/
theorem fail_later (pm limit : Nat) (p : Ps) (tf : TypeId) (vf : Value) (what below : Value) (w : World) (h : PM pm limit p (.iface tf vf) w) :
    Calls Tryz.prog 46 #[.pointer (some ⟨pm, 0, none⟩), what, below] w fun e w' => e = .returned (.tuple #[]) ∧ w' = w := by
  obtain ⟨c18, f18⟩ := h.c18
  clear h
  go_enter Tryz.func46, Tryz.ntmps46
  go_wp2
  first | go_end0 | refine bodyPost_ret (results_none rfl _ _ _) rfl ?_
  exact ⟨rfl, rfl⟩
set_option maxRecDepth 100000 in
theorem broken_first (pm limit : Nat) (p : Ps) (ad : Nat → Addr) (B : Nat) (x : Value) (t2 : TypeId) (w : World) (h : PM pm limit p .nilIface w) (hW : RepW ad B w) :
    Calls Tryz.prog 31 #[.pointer (some ⟨pm, 0, none⟩), .iface t2 x] w fun e w' => e = .returned (.tuple #[]) ∧ (∃ err, PM pm limit p err w' ∧ FaultAt ad pm 5 err w') ∧ Only (· = pm) w w' := by
  have gb := hW.broken
  have HC := fail_first pm limit p ad 5 x t2 w h
  clear h hW
  go_enter Tryz.func31, Tryz.ntmps31
  go_wp2_with fail
  refine HC.mono ?_
  rintro e w1 ⟨rfl, h1, h2⟩
  have H1 : Hid (∃ err, PM pm limit p err w1 ∧ FaultAt ad pm 5 err w1) := h1
  have H2 : Hid (Only (· = pm) w w1) := h2
  clear h1 h2 HC
  go_wp2
  first | go_end0 | refine bodyPost_ret (results_none rfl _ _ _) rfl ?_
  exact ⟨rfl, H1.out, H2.out⟩
set_option maxRecDepth 100000 in
theorem broken_later (pm limit : Nat) (p : Ps) (ad : Nat → Addr) (B : Nat) (tf : TypeId) (vf : Value) (why : Value) (w : World) (h : PM pm limit p (.iface tf vf) w) (hW : RepW ad B w) :
    Calls Tryz.prog 31 #[.pointer (some ⟨pm, 0, none⟩), why] w fun e w' => e = .returned (.tuple #[]) ∧ w' = w := by
  have gb := hW.broken
  have HC := fun wh => fail_later pm limit p tf vf wh why w h
  clear h hW
  go_enter Tryz.func31, Tryz.ntmps31
  go_wp2_with fail
  refine (HC _).mono ?_
  rintro e w1 ⟨rfl, rfl⟩
  go_wp2
  first | go_end0 | refine bodyPost_ret (results_none rfl _ _ _) rfl ?_
  exact ⟨rfl, rfl⟩
/-- Behind a fault nothing is taken. -/
theorem take_dead (pm limit : Nat) (p : Ps) (tf : TypeId) (vf : Value) (w : World) (h : PM pm limit p (.iface tf vf) w) :
    Calls Tryz.prog 48 #[.pointer (some ⟨pm, 0, none⟩)] w fun e w' => e = .returned (.int .u8 0) ∧ w' = w := by
  obtain ⟨c18, f18⟩ := h.c18
  clear h
  go_enter Tryz.func48, Tryz.ntmps48
  go_wp2
  go_ret
  exact ⟨rfl, rfl⟩
/-- A byte was taken: what the document does with it. -/
def After (limit : Nat) (R : Res) (m : Mc) (c : UInt8) (W : Wire) : Prop := R = match feed limit m c with | none => ⟨none, W.ticks⟩ | some m' => goOn limit m' W
/-- How a take ends. -/
def TookE (ad : Nat → Addr) (pm limit : Nat) (R : Res) (m : Mc) (p : Ps) (e : Ending) (w' : World) : Prop :=
  (∃ c W, e = .returned (.int .u8 c.toNat) ∧ PM pm limit { p with wire := W } .nilIface w' ∧ After limit R m c W) ∨
  (∃ err W, e = .returned (.int .u8 0) ∧ PM pm limit { p with wire := W } err w' ∧ FaultAt ad pm 4 err w' ∧ R = ⟨some m, W.ticks⟩)
set_option maxHeartbeats 2000000 in
set_option maxRecDepth 100000 in
theorem take_alive (pm limit : Nat) (R : Res) (m : Mc) (p : Ps) (ad : Nat → Addr) (B : Nat) (w : World) (h : PM pm limit p .nilIface w) (hW : RepW ad B w) (hB : B ≤ pm) (hR : goOn limit m p.wire = R) (h14 : m.at' ≠ 14) (h13 : m.at' ≠ 13) :
    Calls Tryz.prog 48 #[.pointer (some ⟨pm, 0, none⟩)] w fun e w' => TookE ad pm limit R m p e w' ∧ Only (· = pm) w w' := by
  obtain ⟨c18, f18⟩ := h.c18
  have hlt := h.lt
  have HC := wtake_walk pm limit p .nilIface ad B w h hW hB
  have HW : Hid (RepW ad B w) := hW
  have HR : Hid (goOn limit m p.wire = R) := hR
  clear h hW hR
  go_enter Tryz.func48, Tryz.ntmps48
  go_wp2_with fail
  refine HC.mono ?_
  rintro e w1 ⟨hT, hO1⟩
  have HO1 : Hid (Only (· = pm) w w1) := hO1
  unfold TakeE at hT
  rcases htk : take p.wire with ⟨x, W⟩
  rw [htk] at hT
  cases x with
  | ok c =>
    obtain ⟨rfl, hP1⟩ := hT
    have HF : Hid (TookE ad pm limit R m p (.returned (.int .u8 c.toNat)) w1) := by
      refine .inl ⟨c, W, rfl, hP1, ?_⟩
      unfold After
      rw [← HR.out, goOn_ok h14 htk]
      cases feed limit m c <;> rfl
    clear hP1 hO1 HC htk
    go_wp2
    go_ret
    exact ⟨HF.out, HO1.out⟩
  | error y =>
    obtain ⟨i, hi, hy, rfl, hP1⟩ := hT
    have HE : Hid (R = ⟨some m, W.ticks⟩) := by
      show _ = _
      rw [← HR.out, goOn_err h14 htk]
      cases y with
      | closed => unfold ended; rw [if_neg h13]
      | again => rfl
    have hW1 : RepW ad B w1 := HW.out.keep (only_keeps hO1 hB hlt)
    have ga := hW1.again
    have HC2 := fail_first pm limit { p with wire := W } ad 4 (.pointer (some (ad i))) 182 w1 hP1
    clear hP1 hO1 HC htk hW1
    simp only [errV]
    go_wp2_with fail
    refine HC2.mono ?_
    rintro e w2 ⟨rfl, ⟨err, hP2, hF2⟩, hO2⟩
    have HF : Hid (TookE ad pm limit R m p (.returned (.int .u8 0)) w2) := .inr ⟨err, W, rfl, hP2, hF2, HE.out⟩
    have HO2 : Hid (Only (· = pm) w w2) := HO1.out.trans hO2
    clear hP2 hF2 hO2 HC2
    go_wp2
    go_ret
    exact ⟨HF.out, HO2.out⟩
end Go.Proofs.YtmodongnganbfaaGreatDoor.Rep
/- Replies: the program's takeOfLine. -/
namespace Go.Proofs.YtmodongnganbfaaGreatDoor.Rep
open Go.RowKit Go.Proofs.YtmodongnganbfaaGreatDoor Go.Proofs.YtmodongnganbfaaGreatDoor.Sha
theorem PM.setRoom {pm limit : Nat} {p : Ps} {err : Value} {w : World} (h : PM pm limit p err w) (r : Nat) : PM pm limit { p with room := r } err (w.setCell ⟨pm, 6, none⟩ (.int .i64 (r : Int))) := by
  have hl := h.lt
  obtain ⟨ao, n, cap, bv, hR, hn, hc, hc2, hE, hg, hO, hbn⟩ := h.ex
  exact PM.mk' (p := p) (w := w) (hR.set 6 (.int .i64 (r : Int)) (by simp [encP])) (Only.set (S := (· = pm)) w 6 _ rfl) hl hn hc hc2 hE hg hO rfl hbn h.ok
theorem PM.c6 {pm limit : Nat} {p : Ps} {err : Value} {w : World} (h : PM pm limit p err w) : w.cell? ⟨pm, 6, none⟩ = some (.int .i64 (p.room : Int)) ∧ w.frozen? ⟨pm, 6, none⟩ = false := by
  obtain ⟨ao, n, cap, bv, hR, _⟩ := h.ex
  exact ⟨hR.cell 6 _ rfl, hR.fro 6⟩
/-- How a take of a line's byte ends. -/
def LineE (ad : Nat → Addr) (pm limit : Nat) (R : Res) (m : Mc) (p : Ps) (e : Ending) (w' : World) : Prop :=
  (∃ c W, e = .returned (.int .u8 c.toNat) ∧ 0 < p.room ∧ PM pm limit { p with wire := W, room := p.room - 1 } .nilIface w' ∧ After limit R m c W) ∨
  (∃ tf vf W, e = .returned (.int .u8 0) ∧ PM pm limit { p with wire := W } (.iface tf vf) w' ∧ Faulted ad pm R { p with wire := W } (.iface tf vf) w')
theorem takeOfLine_dead (pm limit : Nat) (p : Ps) (tf : TypeId) (vf : Value) (w : World) (h : PM pm limit p (.iface tf vf) w) :
    Calls Tryz.prog 55 #[.pointer (some ⟨pm, 0, none⟩)] w fun e w' => e = .returned (.int .u8 0) ∧ w' = w := by
  obtain ⟨c18, f18⟩ := h.c18
  have HC := take_dead pm limit p tf vf w h
  clear h
  go_enter Tryz.func55, Tryz.ntmps55
  go_wp2_with fail
  refine HC.mono ?_
  rintro e w1 ⟨rfl, rfl⟩
  go_wp2
  go_ret
  exact ⟨rfl, rfl⟩
theorem feed_full {limit : Nat} {m : Mc} (c : UInt8) (hc : counts m = true) (hu : 400 ≤ m.used) : feed limit m c = none := by unfold feed; rw [if_pos ⟨hc, hu⟩]
set_option maxHeartbeats 2000000 in
set_option maxRecDepth 100000 in
theorem takeOfLine_alive (pm limit : Nat) (R : Res) (m : Mc) (p : Ps) (ad : Nat → Addr) (B : Nat) (w : World) (h : PM pm limit p .nilIface w) (hW : RepW ad B w) (hB : B ≤ pm) (hR : goOn limit m p.wire = R) (hc : counts m = true) (hu : m.used + p.room = 400) (hT : Tells m p.hd p.body) :
    Calls Tryz.prog 55 #[.pointer (some ⟨pm, 0, none⟩)] w fun e w' => LineE ad pm limit R m p e w' ∧ Only (· = pm) w w' := by
  have h9 : m.at' ≤ 9 := by unfold counts at hc; simp at hc; exact hc.1
  have hlt := h.lt
  have HC := take_alive pm limit R m p ad B w h hW hB hR (by omega) (by omega)
  have HW : Hid (RepW ad B w) := hW
  have HT : Hid (Tells m p.hd p.body) := hT
  have HCt : Hid (counts m = true) := hc
  clear h hW hR hT hc
  go_enter Tryz.func55, Tryz.ntmps55
  go_wp2_with fail
  refine HC.mono ?_
  rintro e w1 ⟨hT1, hO1⟩
  have HO1 : Hid (Only (· = pm) w w1) := hO1
  have hl1 : pm < w1.heap.size := Nat.lt_of_lt_of_le hlt hO1.size
  have hW1 : RepW ad B w1 := HW.out.keep (only_keeps hO1 hB hlt)
  rcases hT1 with ⟨c, W, rfl, hP1, hA⟩ | ⟨err, W, rfl, hP1, hF1, hRm⟩
  · obtain ⟨c18, f18⟩ := hP1.c18
    obtain ⟨c6, f6⟩ := hP1.c6
    simp only [] at c6
    by_cases hr : p.room = 0
    · rw [hr] at c6
      have gl := hW1.long
      have HC2 := broken_first pm limit { p with wire := W } ad B (.pointer (some (ad 7))) 182 w1 hP1 hW1
      have HRn : Hid (R = ⟨none, W.ticks⟩) := by
        show _ = _
        unfold After at hA
        rw [feed_full c HCt.out (by omega)] at hA
        exact hA
      clear hP1 hA hW1 hO1 HC
      go_wp2_with fail
      refine HC2.mono ?_
      rintro e w2 ⟨rfl, ⟨err, hP2, hF2⟩, hO2⟩
      obtain ⟨f, rfl, q⟩ := hF2
      have HF : Hid (LineE ad pm limit R m p (.returned (.int .u8 0)) w2) := .inr ⟨_, _, W, rfl, hP2, .inl ⟨⟨f, rfl, q⟩, HRn.out⟩⟩
      have HK : Hid (Only (· = pm) w w2) := HO1.out.trans hO2
      clear hP2 q hO2 HC2
      go_wp2
      go_ret
      exact ⟨HF.out, HK.out⟩
    · have hz : ((p.room : Int) == 0) = false := by rw [beq_eq_false_iff_ne]; omega
      have hcast : ((p.room - 1 : Nat) : Int) = (p.room : Int) - 1 := by omega
      have HP2 : Hid (PM pm limit { p with wire := W, room := p.room - 1 } .nilIface (w1.setCell ⟨pm, 6, none⟩ (.int .i64 ((p.room : Int) - 1)))) := by
        have q := hP1.setRoom (p.room - 1)
        rw [hcast] at q
        exact q
      have HF : Hid (LineE ad pm limit R m p (.returned (.int .u8 c.toNat)) (w1.setCell ⟨pm, 6, none⟩ (.int .i64 ((p.room : Int) - 1)))) := .inl ⟨c, W, rfl, by omega, HP2.out, hA⟩
      have HK : Hid (Only (· = pm) w (w1.setCell ⟨pm, 6, none⟩ (.int .i64 ((p.room : Int) - 1)))) := HO1.out.trans (Only.set (S := (· = pm)) _ 6 _ rfl)
      clear hP1 hA hW1 hO1 HC hcast
      go_wp2
      go_ret
      exact ⟨HF.out, HK.out⟩
  · obtain ⟨c18, f18⟩ := hP1.c18
    obtain ⟨f, rfl, q⟩ := hF1
    have HF : Hid (LineE ad pm limit R m p (.returned (.int .u8 0)) w1) := .inr ⟨_, _, W, rfl, hP1, .inr ⟨⟨f, rfl, q⟩, m, hRm, by omega, HT.out⟩⟩
    clear hP1 q hW1 hO1 HC
    go_wp2
    go_ret
    exact ⟨HF.out, HO1.out⟩
end Go.Proofs.YtmodongnganbfaaGreatDoor.Rep
