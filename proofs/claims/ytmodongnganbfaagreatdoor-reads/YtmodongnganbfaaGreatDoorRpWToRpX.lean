/- Replies: the program's run. -/
import Derived.Test.YtmodongnganbfaaGreatDoorRpV
import Derived.Deep.RegionHeld3
namespace Go.Proofs.YtmodongnganbfaaGreatDoor.Rep
open Go.RowKit Go.Proofs.YtmodongnganbfaaGreatDoor Go.Proofs.YtmodongnganbfaaGreatDoor.Sha Go.Proofs.YtmodongnganbfaaGreatDoor.Inf
/-- The head's range is as the document knows it. -/
def HdOk (hd : Hd) (M : Mc) : Prop := hd.status = M.status ∧ (M.status = 206 → ∃ sp : Span, M.span = some sp ∧ hd.first = sp.first ∧ hd.last = sp.last ∧ sp.first ≤ sp.last ∧ sp.last < 1000000000)
theorem done_ok {X : Mc} (h : X.status = 206 → ∃ sp, X.span = some sp ∧ X.body.length = sp.last - sp.first + 1) : done X = some { X with at' := 14 } := by
  unfold done
  rw [if_neg]
  intro q
  simp only [Bool.and_eq_true, beq_iff_eq, decide_eq_true_eq] at q
  obtain ⟨sp, e, hb⟩ := h q.1
  apply q.2
  rw [e, hb]
  rfl
theorem done_no {X : Mc} {sp : Span} (h : X.status = 206) (e : X.span = some sp) (hb : X.body.length ≠ sp.last - sp.first + 1) : done X = none := by
  unfold done
  rw [if_pos]
  simp only [Bool.and_eq_true, beq_iff_eq, decide_eq_true_eq]
  refine ⟨h, ?_⟩
  rw [e]
  exact hb
/-- What is known behind a head. -/
def Hk (hd : Hd) (M : Mc) : Prop := TellsH M hd ∧ HdOk hd M ∧ 100 ≤ M.status ∧ M.status ≤ 599
/-- How run ends. -/
def RunE (ad : Nat → Addr) (pm limit : Nat) (R : Res) (w' : World) : Prop :=
  (∃ p' m, PM pm limit p' .nilIface w' ∧ R = ⟨some m, p'.wire.ticks⟩ ∧ m.at' = 14 ∧ Tells m p'.hd p'.body ∧ m.headed = true ∧ 100 ≤ m.status ∧ m.status ≤ 599) ∨
  (∃ tf vf p', PM pm limit p' (.iface tf vf) w' ∧ Faulted ad pm R p' (.iface tf vf) w')
def St0 (pm limit : Nat) (R : Res) (w wr : World) : Prop := ∃ p1 M, PM pm limit p1 .nilIface wr ∧ M.at' = 8 ∧ M.start = 0 ∧ M.size = 0 ∧ M.all = p1.body.length ∧ M.body = p1.body ∧ M.used = 0 ∧ p1.body.length ≤ limit ∧ goOn limit M p1.wire = R ∧ Hk p1.hd M ∧ Only (fun x => pm ≤ x) w wr
def St1 (pm limit : Nat) (R : Res) (w wr : World) : Prop := ∃ p1 M n, PM pm limit p1 .nilIface wr ∧ M.at' = 12 ∧ p1.hd.length = n ∧ p1.body.length + n ≤ 2000000 ∧ (0 < n → goOn limit { M with body := p1.body, size := n } p1.wire = R) ∧ (n = 0 → PassR limit R { M with body := p1.body, size := 0 } p1.wire) ∧ Hk p1.hd M ∧ Only (fun x => pm ≤ x) w wr
def St2 (ad : Nat → Addr) (pm limit : Nat) (R : Res) (w wr : World) : Prop := ∃ p1 M, BodyE ad pm limit R M p1 wr ∧ Hk p1.hd M ∧ Only (fun x => pm ≤ x) w wr
theorem length_walk (a b c : Nat) (w : World) (h1 : a ≤ b) (h2 : b < 1000000000) : Calls Tryz.prog 30 #[.agg #[.int .i64 (a : Int), .int .i64 (b : Int), .int .i64 (c : Int)]] w fun e w' => e = .returned (.int .i64 ((b : Int) - (a : Int) + 1)) ∧ w' = w.alloc (.cells #[.int .i64 (a : Int), .int .i64 (b : Int), .int .i64 (c : Int)] 45) := by
  have g1 : (a : Int) ≤ (b : Int) := by omega
  have g2 : (b : Int) < 1000000000 := by omega
  go_enter Tryz.func30, Tryz.ntmps30
  go_wp2
  go_ret
  exact ⟨rfl, rfl⟩
theorem own_len {w : World} {b : Nat} {v : Value} {l : Bytes} (h : Own w b v (l.map u8v)) : ∃ ao vc, v = .slice ao l.length vc := by
  obtain ⟨ao, vn, vc, rfl⟩ := own_slice' h
  have hvn : vn = l.length := by
    rcases h with ⟨e, e2⟩ | ⟨g, cap, e, _⟩
    · injection e with _ e3 _
      have := congrArg List.length e2
      simp at this
      rw [e3, this]; rfl
    · injection e with _ e2; rw [e2, List.length_map]
  exact ⟨ao, vc, by rw [hvn]⟩
/-- What the last test does: not a part; a part of the right length; a part of a wrong one. -/
def EndOk (ad : Nat → Addr) (pm limit : Nat) (R : Res) (hd : Hd) (n : Nat) (wr : World) : Prop :=
  ((hd.status ≠ 206 ∨ n = hd.last - hd.first + 1) → ∀ wx, Below wr.heap.size wr wx → RunE ad pm limit R wx) ∧
  ((hd.status = 206 ∧ n ≠ hd.last - hd.first + 1) → ∀ wx, Below wr.heap.size wr wx → RepW ad pm wx → Calls Tryz.prog 31 #[.pointer (some ⟨pm, 0, none⟩), .iface 182 (.pointer (some (ad 10)))] wx fun e w' => e = .returned (.tuple #[]) ∧ RunE ad pm limit R w' ∧ Only (· = pm) wx w')
theorem FaultAt.below {ad : Nat → Addr} {pm k : Nat} {err : Value} {w w' : World} (h : FaultAt ad pm k err w) (hb : Below w.heap.size w w') : FaultAt ad pm k err w' := by
  obtain ⟨f, e, hn, hl, hc⟩ := h
  exact ⟨f, e, hn, Nat.lt_of_lt_of_le hl hb.size, cell_below hb hc⟩
theorem Faulted.below {ad : Nat → Addr} {pm : Nat} {R : Res} {p : Ps} {err : Value} {w w' : World} (h : Faulted ad pm R p err w) (hb : Below w.heap.size w w') : Faulted ad pm R p err w' := by
  rcases h with ⟨h, e⟩ | ⟨h, e⟩
  · exact .inl ⟨h.below hb, e⟩
  · exact .inr ⟨h.below hb, e⟩
/-- Behind a body: what is in memory, and what the last test does. -/
theorem body_end {ad : Nat → Addr} {pm limit : Nat} {R : Res} {M : Mc} {p : Ps} {wr : World} (h : BodyE ad pm limit R M p wr) (hk : Hk p.hd M) :
    ∃ p' ev, PM pm limit p' ev wr ∧ p'.hd = p.hd ∧ EndOk ad pm limit R p.hd p'.body.length wr := by
  obtain ⟨hT, ⟨hst, hsp⟩, hs1, hs2⟩ := hk
  rcases h with ⟨W, r, b, bv, X, hP, hb, hsm, hl, hR⟩ | ⟨tf, vf, W, r, b, bv, hP, hF⟩
  · refine ⟨_, _, hP, rfl, fun h wx hbx => ?_, fun h wx hbx hWx => ?_⟩
    · refine .inl ⟨_, { X with at' := 14 }, hP.below hbx, ?_, rfl, ?_, ?_, ?_, ?_⟩
      · rw [hR, done_ok]
        intro h6
        rw [hsm.2.1] at h6
        obtain ⟨sp, e1, e2, e3, _, _⟩ := hsp h6
        refine ⟨sp, by rw [hsm.2.2.2, e1], ?_⟩
        rcases h with q | q
        · exact absurd (by rw [hst, h6]) q
        · rw [hb, ← e2, ← e3]; exact q
      · exact hT.all b _ hsm.1 hsm.2.1 hsm.2.2.1 hb hsm.2.2.2
      · show X.headed = true; rw [hsm.1]; exact hT.1
      · show 100 ≤ X.status; rw [hsm.2.1]; exact hs1
      · show X.status ≤ 599; rw [hsm.2.1]; exact hs2
    · have h6 : M.status = 206 := by rw [← hst]; exact h.1
      obtain ⟨sp, e1, e2, e3, _, _⟩ := hsp h6
      have hRn : R = ⟨none, W.ticks⟩ := by
        rw [hR, done_no (sp := sp) (by rw [hsm.2.1]; exact h6) (by rw [hsm.2.2.2, e1]) (by rw [hb, ← e2, ← e3]; exact h.2)]
      refine (broken_first pm limit _ ad pm (.pointer (some (ad 10))) 182 wx (hP.below hbx) hWx).mono ?_
      rintro e w3 ⟨rfl, ⟨err, hP3, hF3⟩, hO3⟩
      obtain ⟨f', rfl, q⟩ := hF3
      exact ⟨rfl, .inr ⟨_, _, _, hP3, .inl ⟨⟨f', rfl, q⟩, hRn⟩⟩, hO3⟩
  · refine ⟨_, _, hP, rfl, fun _ wx hbx => .inr ⟨tf, vf, _, hP.below hbx, hF.below hbx⟩, fun _ wx hbx hWx => ?_⟩
    refine (broken_later pm limit _ ad pm tf vf (.iface 182 (.pointer (some (ad 10)))) wx (hP.below hbx) hWx).mono ?_
    rintro e w3 ⟨rfl, rfl⟩
    exact ⟨rfl, .inr ⟨tf, vf, _, hP.below hbx, hF.below hbx⟩, Only.refl _ _⟩
theorem RepW.grow {ad : Nat → Addr} {B B' : Nat} {w : World} (h : RepW ad B w) (hb : B ≤ B') : RepW ad B' w :=
  ⟨h.refused, h.reset, h.late, h.closed, h.again, h.broken, h.byte, h.long, h.head, h.limit, h.part, h.twice, h.number, h.coding, h.span, h.both, h.noRange, h.typ, h.ne, fun i hi => ⟨Nat.lt_of_lt_of_le (h.row i hi).1 hb, (h.row i hi).2⟩, Nat.le_trans h.ng hb⟩
theorem head_hk {st limit u : Nat} {nm vl : Bytes} {fs : List (Bytes × Bytes)} {s : Note} (h1 : 100 ≤ st) (h2 : st ≤ 599) (hok : NoteOk s) (hf : fits st limit s.head = true) (M : Mc) (e : SameH M (hmc st u nm vl fs s)) : Hk (hdN st s) M := by
  have hT : TellsH (hmc st u nm vl fs s) (hdN st s) := by
    refine ⟨rfl, rfl, rfl, fun h => ?_⟩
    unfold frOf totOf
    rw [if_pos h, if_pos h]
    exact ⟨rfl, rfl⟩
  refine ⟨e.tells hT, ⟨by rw [e.2.1]; rfl, fun h6 => ?_⟩, by rw [e.2.1]; exact h1, by rw [e.2.1]; exact h2⟩
  have h6' : st = 206 := by rw [e.2.1] at h6; exact h6
  cases hs : s.span with
  | none =>
    exfalso
    subst h6'
    unfold fits Note.head at hf
    simp [hs] at hf
  | some sp =>
    have := hok.spn sp hs
    refine ⟨sp, by rw [e.2.2.2]; exact hs, by simp [hdN, hs], by simp [hdN, hs], this.1, by omega⟩
theorem fits_len {st limit n : Nat} {s : Note} (hf : fits st limit s.head = true) (hb : hasBody st = true) (hn : s.length = some n) : n ≤ limit := by
  unfold fits Note.head at hf
  simp [hn, hb] at hf
  omega
end Go.Proofs.YtmodongnganbfaaGreatDoor.Rep
/- Replies: the program's run, walked. -/
namespace Go.Proofs.YtmodongnganbfaaGreatDoor.Rep
open Go.RowKit Go.Proofs.YtmodongnganbfaaGreatDoor Go.Proofs.YtmodongnganbfaaGreatDoor.Sha Go.Proofs.YtmodongnganbfaaGreatDoor.Inf
set_option maxHeartbeats 8000000 in
set_option maxRecDepth 100000 in
theorem run_walk (pm limit : Nat) (R : Res) (p : Ps) (ad : Nat → Addr) (B : Nat) (mx : Int) (w : World) (h : PM pm limit p .nilIface w) (hX : RepX ad B mx w) (hB : B ≤ pm) (h1 : p.hd = Hd.none) (h2 : p.body = []) (hl : limit ≤ 1000000) (hR : goOn limit Mc.new p.wire = R) :
    Calls Tryz.prog 16 #[.pointer (some ⟨pm, 0, none⟩)] w fun e w' => (e = .returned (.tuple #[]) ∧ RunE ad pm limit R w') ∧ Only (fun x => pm ≤ x) w w' := by
  have hlt := h.lt
  have HC0 := readHead_walk pm limit R p ad B mx w h hX hB h1 h2 hR
  have HW : Hid (RepW ad B w) := hX.er
  have H2 : Hid (p.body = []) := h2
  have hBw : B ≤ w.heap.size := by omega
  clear h hX hR h1 h2
  go_enter Tryz.func16, Tryz.ntmps16
  go_wp2
  refine scope_fall (fun m l a' w' => (∃ f : Nat → Value, a' = { tmps := #[.pointer (some ⟨pm, 0, none⟩), undef, f 2, f 3, f 4, f 5, f 6, f 7, f 8, f 9, f 10, f 11, f 12, f 13, f 14, f 15, f 16, f 17, f 18, f 19, f 20, f 21, f 22, f 23, f 24, f 25, f 26, f 27, f 28, f 29, f 30, f 31, f 32, f 33, f 34, f 35, f 36, f 37, f 38, f 39, f 40, f 41, f 42, f 43, f 44, f 45, f 46, f 47, f 48, f 49, f 50, f 51, f 52, f 53, f 54, f 55, f 56, f 57, f 58, f 59, f 60, f 61, f 62], defers := [] }) ∧ ((l = 0 ∧ m = 1 ∧ Hid (St0 pm limit R w w')) ∨ (l = 1 ∧ m = 1 ∧ Hid (St1 pm limit R w w')) ∨ (l = 2 ∧ m = 0 ∧ Hid (St2 ad pm limit R w w')))) ?_ ?_
  · rintro m ih l a' wr ⟨⟨f, rfl⟩, ⟨rfl, rfl, HS⟩ | ⟨rfl, rfl, HS⟩ | ⟨rfl, rfl, HS⟩⟩
    · clear HC0
      refine ⟨_, rfl, ?_⟩
      obtain ⟨p1, M, hP, e1, e2, e3, e4, e5, e6, e7, hg, hk, hO⟩ := HS.out
      have hWr : RepW ad B wr := HW.out.keep (only_ge_keeps hO hB hBw)
      have HC := chunks_alive pm limit R M p1 ad B wr hP hWr hB e1 e2 e3 e4 e5 e6 hk.1 hl e7 hg
      have HK : Hid (Hk p1.hd M) := hk
      have HO : Hid (Only (fun x => pm ≤ x) w wr) := hO
      clear hP e1 e2 e3 e4 e5 e6 e7 hg hk hO hWr ih
      go_wp2_with fail
      refine HC.mono ?_
      rintro e w1 ⟨⟨rfl, hE⟩, hO1⟩
      have HS1 : Hid (St2 ad pm limit R w w1) := ⟨p1, M, hE, HK.out, HO.out.trans hO1⟩
      clear hE hO1 HC
      go_wp2
      go_step3
      try simp only [Exit.jump]
      exact ⟨0, by omega, mkF rfl, .inr (.inr ⟨rfl, rfl, HS1⟩)⟩
    · clear HC0
      refine ⟨_, rfl, ?_⟩
      obtain ⟨p1, M, n, hP, e1, e2, e3, hg, hf, hk, hO⟩ := HS.out
      have hWr : RepW ad B wr := HW.out.keep (only_ge_keeps hO hB hBw)
      have HC := pass_alive pm limit R M n p1 ad B wr hP hWr hB (.inr e1) hk.1 e3 hg hf
      have HK : Hid (Hk p1.hd M) := hk
      have HO : Hid (Only (fun x => pm ≤ x) w wr) := hO
      have HA : Hid (M.at' = 12) := e1
      have HE3 : Hid (p1.body.length + n ≤ 2000000) := e3
      obtain ⟨_, _, k9, _⟩ := hP.hcells
      rw [e2] at k9
      clear hP e1 e2 e3 hg hf hk hO hWr
      go_wp2_with fail
      refine HC.mono ?_
      rintro e w1 ⟨⟨rfl, hE⟩, hO1⟩
      have HS1 : Hid (St2 ad pm limit R w w1) := ⟨p1, M, hE.body HA.out HE3.out, HK.out, HO.out.trans hO1⟩
      clear hE hO1 HC k9
      go_wp2_with fail
      go_step3
      rename_i hKK
      exact hKK _ _ (fall2 (ih 0 2 _ _ (by omega) ⟨mkF rfl, .inr (.inr ⟨rfl, rfl, HS1⟩)⟩) rfl fun k' l' a' w' hk' hJ => ⟨k', by omega, hJ⟩)
    · clear HC0 ih
      refine ⟨_, rfl, ?_⟩
      obtain ⟨p1, M, hE, hk, hO⟩ := HS.out
      obtain ⟨p', ev, hP, hhd, hEnd⟩ := body_end hE hk
      have hWr : RepW ad B wr := HW.out.keep (only_ge_keeps hO hB hBw)
      have HO : Hid (Only (fun x => pm ≤ x) w wr) := hO
      have HEnd : Hid (EndOk ad pm limit R p1.hd p'.body.length wr) := hEnd
      have HWr : Hid (RepW ad B wr) := hWr
      obtain ⟨k7, _, _, _, _, _, _, k14, k15, k16, _⟩ := hP.hcells
      rw [hhd] at k7 k14 k15 k16
      obtain ⟨k17, _, hOw⟩ := hP.c17
      obtain ⟨ao, vc, ebv⟩ := own_len hOw
      rw [ebv] at k17
      have hlr := hP.lt
      have gp := hWr.part
      have hgl := lt_of_cell gp
      obtain ⟨⟨_, hst⟩, hrest⟩ : (True ∧ p1.hd.status = M.status) ∧ (M.status = 206 → p1.hd.first ≤ p1.hd.last ∧ p1.hd.last < 1000000000) := ⟨⟨trivial, hk.2.1.1⟩, fun h6 => by obtain ⟨sp, _, a, b, c, d⟩ := hk.2.1.2 h6; omega⟩
      by_cases h6 : p1.hd.status = 206
      · obtain ⟨q1, q2⟩ := hrest (by rw [← hst]; exact h6)
        have HLen : Hid (∀ wx, Calls Tryz.prog 30 #[.agg #[.int .i64 (p1.hd.first : Int), .int .i64 (p1.hd.last : Int), .int .i64 (p1.hd.total : Int)]] wx fun e w' => e = .returned (.int .i64 ((p1.hd.last : Int) - (p1.hd.first : Int) + 1)) ∧ w' = wx.alloc (.cells #[.int .i64 (p1.hd.first : Int), .int .i64 (p1.hd.last : Int), .int .i64 (p1.hd.total : Int)] 45)) := fun wx => length_walk _ _ _ wx q1 q2
        have HBx : Hid (Below wr.heap.size wr (wr.alloc (.cells #[.int .i64 (p1.hd.first : Int), .int .i64 (p1.hd.last : Int), .int .i64 (p1.hd.total : Int)] 45)).drew) := ((Below.refl _ _).alloc (Nat.le_refl _) _).drew
        rw [h6] at k7
        have k7b : wr.cell? ⟨pm, 7, none⟩ = some (.int .i64 206) := k7
        clear k7
        by_cases hn : p'.body.length = p1.hd.last - p1.hd.first + 1
        · have tn : ((p'.body.length : Int) != (p1.hd.last : Int) - (p1.hd.first : Int) + 1) = false := by rw [bne_eq_false_iff_eq]; omega
          have HR : Hid (∀ wx, Below wr.heap.size wr wx → RunE ad pm limit R wx) := HEnd.out.1 (.inr hn)
          clear hE hk hO hP hhd hEnd hWr hOw ebv h6 hn q1 q2 hst hrest
          go_wp2_with fail
          go_region_held3 (fun w' => w'.cell? ⟨pm, 7, none⟩ = some (.int .i64 206) ∧ w'.cell? ⟨pm, 14, none⟩ = some (.int .i64 (p1.hd.first : Int)) ∧ w'.cell? ⟨pm, 15, none⟩ = some (.int .i64 (p1.hd.last : Int)) ∧ w'.cell? ⟨pm, 16, none⟩ = some (.int .i64 (p1.hd.total : Int)) ∧ w'.cell? ⟨pm, 17, none⟩ = some (.slice ao p'.body.length vc)) (go_keep)
            (first | (go_at_call 30; refine (HLen.out _).mono ?_; rintro e w2 ⟨rfl, rfl⟩))
          go_wp2
          simp only [jumps]
          first | go_end0 | refine bodyPost_ret (results_none rfl _ _ _) rfl ?_
          exact ⟨⟨rfl, HR.out _ HBx.out⟩, HO.out.trans (Only.of_below HBx.out)⟩
        · have tn : ((p'.body.length : Int) != (p1.hd.last : Int) - (p1.hd.first : Int) + 1) = true := by rw [bne_iff_ne]; omega
          have HC := HEnd.out.2 ⟨h6, hn⟩ _ HBx.out ((HWr.out.keep (HBx.out.mono (by omega))).grow hB)
          clear hE hk hO hP hhd hEnd hWr hOw ebv h6 hn q1 q2 hst hrest
          go_wp2_with fail
          go_region_held3 (fun w' => w'.cell? ⟨pm, 7, none⟩ = some (.int .i64 206) ∧ w'.cell? ⟨pm, 14, none⟩ = some (.int .i64 (p1.hd.first : Int)) ∧ w'.cell? ⟨pm, 15, none⟩ = some (.int .i64 (p1.hd.last : Int)) ∧ w'.cell? ⟨pm, 16, none⟩ = some (.int .i64 (p1.hd.total : Int)) ∧ w'.cell? ⟨pm, 17, none⟩ = some (.slice ao p'.body.length vc)) (go_keep)
            (first | (go_at_call 30; refine (HLen.out _).mono ?_; rintro e w2 ⟨rfl, rfl⟩))
          go_wp2_with fail
          refine HC.mono ?_
          rintro e w3 ⟨rfl, hE3, hO3⟩
          have HE3 : Hid (RunE ad pm limit R w3) := hE3
          have HO3 : Hid (Only (fun x => pm ≤ x) w w3) := (HO.out.trans (Only.of_below HBx.out)).trans (only_at_ge hO3)
          clear hE3 hO3 HC
          go_wp2
          simp only [jumps]
          first | go_end0 | refine bodyPost_ret (results_none rfl _ _ _) rfl ?_
          exact ⟨⟨rfl, HE3.out⟩, HO3.out⟩
      · have t6 : ((p1.hd.status : Int) == 206) = false := by rw [beq_eq_false_iff_ne]; omega
        have HR : Hid (∀ wx, Below wr.heap.size wr wx → RunE ad pm limit R wx) := HEnd.out.1 (.inl h6)
        clear hE hk hO hP hhd hEnd hWr hOw ebv h6 hst hrest
        go_wp2_with fail
        go_quiet (fail)
        go_wp2
        simp only [jumps]
        first | go_end0 | refine bodyPost_ret (results_none rfl _ _ _) rfl ?_
        exact ⟨⟨rfl, HR.out _ (below_drewN nq)⟩, HO.out.trans (Only.of_below (below_drewN nq))⟩
  · intro all
    go_wp2_with fail
    refine HC0.mono ?_
    rintro e w1 ⟨⟨rfl, hE1⟩, hO1⟩
    have HO1 : Hid (Only (fun x => pm ≤ x) w w1) := only_at_ge hO1
    clear hO1 HC0
    rcases hE1 with ⟨st, s, W, r, u, nm, vl, fs, hP1, hok, hft, hs1, hs2, hRe⟩ | ⟨tf, vf, W, r, hP1, hF1⟩
    · obtain ⟨c18, f18⟩ := hP1.c18
      obtain ⟨j7, j8, _, j10, _⟩ := hP1.hcells
      have k7 : w1.cell? ⟨pm, 7, none⟩ = some (.int .i64 (st : Int)) := j7
      have k8 : w1.cell? ⟨pm, 8, none⟩ = some (.bool s.length.isSome) := j8
      have k10 : w1.cell? ⟨pm, 10, none⟩ = some (.bool s.coded.isSome) := j10
      clear j7 j8 j10
      have HC := hasBody_walk pm 7 st w1 k7
      have HHk : Hid (∀ M, SameH M (hmc st u nm vl fs s) → Hk (hdN st s) M) := fun M e => head_hk hs1 hs2 hok hft M e
      have hW1 : RepW ad B w1 := HW.out.keep (only_ge_keeps HO1.out hB hBw)
      have hsh : ∀ a b c d, SameH { hmc st u nm vl fs s with at' := a, used := b, start := c, size := d } (hmc st u nm vl fs s) := fun _ _ _ _ => ⟨rfl, rfl, rfl, rfl⟩
      cases hb : hasBody st with
      | false =>
        rw [hb] at HC
        have HF : Hid (RunE ad pm limit R w1) := by
          refine .inl ⟨_, { hmc st u nm vl fs s with at' := 14 }, hP1, ?_, rfl, ?_, rfl, hs1, hs2⟩
          · rw [hRe]
            unfold nextM
            rw [if_pos (by rw [hb]; rfl)]
            exact goOn_end rfl
          · show Tells _ (hdN st s) p.body
            rw [H2.out]
            exact (hmc_tells st u nm vl fs s).same rfl rfl rfl rfl rfl
        clear hP1 hok hft hs1 hs2 hRe hb hW1 hsh
        go_wp2_with fail
        refine HC.mono ?_
        rintro e w2 ⟨rfl, rfl⟩
        go_wp2
        simp only [jumps]
        first | go_end0 | refine bodyPost_ret (results_none rfl _ _ _) rfl ?_
        exact ⟨⟨rfl, HF.out⟩, HO1.out⟩
      | true =>
        rw [hb] at HC
        have hnx : nextM st s (hmc st u nm vl fs s) = if s.coded.isSome then some { hmc st u nm vl fs s with at' := 8, used := 0, start := 0, size := 0 } else match s.length with | some 0 => done (hmc st u nm vl fs s) | some n => some { hmc st u nm vl fs s with at' := 12, size := n } | none => some { hmc st u nm vl fs s with at' := 13 } := by
          unfold nextM
          rw [if_neg (by rw [hb]; decide)]
          rfl
        rw [hnx] at hRe
        cases hcd : s.coded.isSome with
        | true =>
          rw [hcd] at k10 hRe
          simp only [if_true] at hRe
          have HS0 : Hid (St0 pm limit R w w1) := ⟨_, { hmc st u nm vl fs s with at' := 8, used := 0, start := 0, size := 0 }, hP1, rfl, rfl, rfl, by show 0 = p.body.length; rw [H2.out]; rfl, by show [] = p.body; rw [H2.out], rfl, by show p.body.length ≤ limit; rw [H2.out]; exact Nat.zero_le _, hRe.symm, HHk.out _ ⟨rfl, rfl, rfl, rfl⟩, HO1.out⟩
          clear hP1 hok hft hs1 hs2 hRe hb hW1 hcd hnx hsh
          go_wp2_with fail
          refine HC.mono ?_
          rintro e w2 ⟨rfl, rfl⟩
          go_wp2
          go_step3
          try simp only [Exit.jump]
          exact ⟨1, mkF rfl, .inl ⟨rfl, rfl, HS0⟩⟩
        | false =>
          rw [hcd] at k10 hRe
          simp only [Bool.false_eq_true, if_false] at hRe
          cases hln : s.length with
          | some n =>
            rw [hln] at k8 hRe
            have k8b : w1.cell? ⟨pm, 8, none⟩ = some (.bool true) := k8
            clear k8
            have hnl := fits_len hft hb hln
            have HS1 : Hid (St1 pm limit R w w1) := by
              refine ⟨_, { hmc st u nm vl fs s with at' := 12 }, n, hP1, rfl, by show s.length.getD 0 = n; rw [hln]; rfl, by show p.body.length + n ≤ 2000000; rw [H2.out]; show 0 + n ≤ 2000000; omega, fun h0 => ?_, fun h0 => ?_, HHk.out _ ⟨rfl, rfl, rfl, rfl⟩, HO1.out⟩
              · show goOn limit { hmc st u nm vl fs s with at' := 12, body := p.body, size := n } W = R
                rw [H2.out]
                obtain ⟨k, rfl⟩ : ∃ k, n = k + 1 := ⟨n - 1, by omega⟩
                exact hRe.symm
              · subst h0
                show PassR limit R { hmc st u nm vl fs s with at' := 12, body := p.body, size := 0 } W
                unfold PassR
                rw [if_neg (by show ¬ (12 : Nat) = 10; decide), H2.out]
                have e : done ({ hmc st u nm vl fs s with at' := 12, body := [], size := 0 } : Mc) = done (hmc st u nm vl fs s) := rfl
                rw [e, hRe]
                cases hd : done (hmc st u nm vl fs s) with
                | none => rfl
                | some m' =>
                  have h14 : m'.at' = 14 := by
                    unfold done at hd
                    split at hd
                    · cases hd
                    · injection hd with hd; rw [← hd]
                  exact goOn_end h14
            clear hP1 hok hft hs1 hs2 hRe hb hW1 hcd hln hnl hnx hsh
            go_wp2_with fail
            refine HC.mono ?_
            rintro e w2 ⟨rfl, rfl⟩
            go_wp2
            go_step3
            try simp only [Exit.jump]
            exact ⟨1, mkF rfl, .inr (.inl ⟨rfl, rfl, HS1⟩)⟩
          | none =>
            rw [hln] at k8 hRe
            have k8b : w1.cell? ⟨pm, 8, none⟩ = some (.bool false) := k8
            clear k8
            have hk13 := HHk.out { hmc st u nm vl fs s with at' := 13 } ⟨rfl, rfl, rfl, rfl⟩
            have HC2 := toClose_alive pm limit R { hmc st u nm vl fs s with at' := 13 } _ ad B w1 hP1 hW1 hB rfl hk13.1 hl (by show p.body.length ≤ limit; rw [H2.out]; exact Nat.zero_le _) (by
              show goOn limit { hmc st u nm vl fs s with at' := 13, body := p.body } W = R
              rw [H2.out]
              exact hRe.symm)
            have HK13 : Hid (Hk (hdN st s) { hmc st u nm vl fs s with at' := 13 }) := hk13
            clear hP1 hok hft hs1 hs2 hRe hb hW1 hcd hln hnx hsh hk13
            go_wp2_with fail
            refine HC.mono ?_
            rintro e w2 ⟨rfl, rfl⟩
            go_wp2_with fail
            refine HC2.mono ?_
            rintro e w3 ⟨⟨rfl, hE3⟩, hO3⟩
            have HS2 : Hid (St2 ad pm limit R w w3) := ⟨_, _, hE3.body (by omega), HK13.out, HO1.out.trans hO3⟩
            clear hE3 hO3 HC2 HC
            go_wp2
            go_step3
            try simp only [Exit.jump]
            exact ⟨0, mkF rfl, .inr (.inr ⟨rfl, rfl, HS2⟩)⟩
    · obtain ⟨c18, f18⟩ := hP1.c18
      have HF : Hid (RunE ad pm limit R w1) := .inr ⟨tf, vf, _, hP1, hF1⟩
      clear hP1 hF1
      go_wp2
      simp only [jumps]
      first | go_end0 | refine bodyPost_ret (results_none rfl _ _ _) rfl ?_
      exact ⟨⟨rfl, HF.out⟩, HO1.out⟩
end Go.Proofs.YtmodongnganbfaaGreatDoor.Rep
