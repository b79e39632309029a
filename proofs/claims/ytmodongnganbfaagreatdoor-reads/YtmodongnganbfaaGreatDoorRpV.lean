/- Replies: the program's chunks. -/
import Derived.Test.YtmodongnganbfaaGreatDoorRpU
namespace Go.Proofs.YtmodongnganbfaaGreatDoor.Rep
open Go.RowKit Go.Proofs.YtmodongnganbfaaGreatDoor Go.Proofs.YtmodongnganbfaaGreatDoor.Sha Go.Proofs.YtmodongnganbfaaGreatDoor.Inf
/-- Two machines that have the same head. -/
def SameH (m M : Mc) : Prop := m.headed = M.headed ∧ m.status = M.status ∧ m.tag = M.tag ∧ m.span = M.span
theorem SameH.tells {m M : Mc} {hd : Hd} (h : SameH m M) (hT : TellsH M hd) : TellsH m hd := hT.same m h.1 h.2.1 h.2.2.1 h.2.2.2
theorem SameH.all {m M : Mc} {hd : Hd} (h : SameH m M) (hT : TellsH M hd) {b : Bytes} (hb : m.body = b) : Tells m hd b := hT.all b m h.1 h.2.1 h.2.2.1 hb h.2.2.2
/-- How a body ends. -/
def BodyE (ad : Nat → Addr) (pm limit : Nat) (R : Res) (M : Mc) (p : Ps) (w' : World) : Prop :=
  (∃ W r b bv X, PM pm limit { p with wire := W, room := r, body := b, bv := bv } .nilIface w' ∧ X.body = b ∧ SameH X M ∧ b.length ≤ 2000000 ∧ R = ⟨done X, W.ticks⟩) ∨
  (∃ tf vf W r b bv, PM pm limit { p with wire := W, room := r, body := b, bv := bv } (.iface tf vf) w' ∧ Faulted ad pm R { p with wire := W, room := r, body := b, bv := bv } (.iface tf vf) w')
theorem CloseE.body {ad : Nat → Addr} {pm limit : Nat} {R : Res} {M : Mc} {p : Ps} {w' : World} (h : CloseE ad pm limit R M p w') (hl : limit ≤ 2000000) : BodyE ad pm limit R M p w' := by
  rcases h with ⟨W, b, bv, hP, hb, hR⟩ | ⟨tf, vf, W, b, bv, hP, hF⟩
  · exact .inl ⟨W, p.room, b, bv, { M with body := b }, hP, rfl, ⟨rfl, rfl, rfl, rfl⟩, by omega, hR⟩
  · exact .inr ⟨tf, vf, W, p.room, b, bv, hP, hF⟩
theorem PassE.body {ad : Nat → Addr} {pm limit : Nat} {R : Res} {M : Mc} {n : Nat} {p : Ps} {w' : World} (h : PassE ad pm limit R M n p w') (ha : M.at' = 12) (hl : p.body.length + n ≤ 2000000) : BodyE ad pm limit R M p w' := by
  rcases h with ⟨W, b, bv, hP, hb, hR⟩ | ⟨tf, vf, W, b, bv, hP, hF⟩
  · unfold PassR at hR
    rw [if_neg (by show ¬ M.at' = 10; omega)] at hR
    exact .inl ⟨W, p.room, b, bv, { M with body := b, size := 0 }, hP, rfl, ⟨rfl, rfl, rfl, rfl⟩, by omega, hR⟩
  · exact .inr ⟨tf, vf, W, p.room, b, bv, hP, hF⟩
/-- Ahead of a chunk. -/
structure KSt (pm limit : Nat) (R : Res) (M : Mc) (p : Ps) (w : World) (b : Bytes) (wr : World) : Prop where
  ex : ∃ W r bv m, PM pm limit { p with wire := W, room := r, body := b, bv := bv } .nilIface wr ∧ goOn limit m W = R ∧ m.at' = 8 ∧ m.start = 0 ∧ m.size = 0 ∧ m.all = b.length ∧ m.body = b ∧ m.used + r = 400 ∧ SameH m M
  len : b.length ≤ limit
  only : Only (fun x => pm ≤ x) w wr
/-- Behind the last chunk's size. -/
structure XSt (pm limit : Nat) (R : Res) (M : Mc) (p : Ps) (w : World) (wr : World) : Prop where
  ex : ∃ W r b bv m, PM pm limit { p with wire := W, room := r, body := b, bv := bv } .nilIface wr ∧ goOn limit m W = R ∧ m.at' = 5 ∧ m.tail = true ∧ m.body = b ∧ m.used + r = 400 ∧ SameH m M ∧ b.length ≤ limit
  only : Only (fun x => pm ≤ x) w wr
theorem sized_over {limit : Nat} {R : Res} {m : Mc} {d z u : Nat} {W : Wire} (hu : u < 400) (h : After limit R { m with start := d, size := z, at' := 4, thn := 10, used := u } 10 W) (ho : limit < m.all + z) : R = ⟨none, W.ticks⟩ := by
  unfold After at h
  rw [feed_sized (M := { m with start := d, size := z, at' := 4, thn := 10, used := u }) rfl rfl hu] at h
  unfold sized at h
  rw [if_pos (by exact ho)] at h
  exact h
theorem sized_last {limit : Nat} {R : Res} {m : Mc} {d u : Nat} {W : Wire} (hu : u < 400) (h : After limit R { m with start := d, size := 0, at' := 4, thn := 10, used := u } 10 W) (ho : m.all ≤ limit) : goOn limit { m with start := d, size := 0, at' := 5, thn := 10, used := u + 1, tail := true } W = R := by
  unfold After at h
  rw [feed_sized (M := { m with start := d, size := 0, at' := 4, thn := 10, used := u }) rfl rfl hu] at h
  unfold sized at h
  rw [if_neg (by show ¬ limit < m.all + 0; omega), if_pos rfl] at h
  exact h.symm
theorem sized_next {limit : Nat} {R : Res} {m : Mc} {d z u : Nat} {W : Wire} (hu : u < 400) (h : After limit R { m with start := d, size := z, at' := 4, thn := 10, used := u } 10 W) (ho : ¬ limit < m.all + z) (hz : z ≠ 0) : goOn limit { m with start := d, size := z, at' := 10, thn := 10, used := u + 1, all := m.all + z } W = R := by
  unfold After at h
  rw [feed_sized (M := { m with start := d, size := z, at' := 4, thn := 10, used := u }) rfl rfl hu] at h
  unfold sized at h
  rw [if_neg (by exact ho), if_neg (by exact hz)] at h
  exact h.symm
theorem lmm_self {m : Mc} (h5 : m.at' = 5) (ht : m.tail = true) : lmm m 5 m.thn m.used m.name m.value [] = m := by
  unfold lmm
  rw [if_pos ht]
  cases m
  simp only [] at h5
  subst h5
  rfl
theorem tail_fin {limit : Nat} {R : Res} {m : Mc} {u : Nat} {nm vl : Bytes} {fs : List (Bytes × Bytes)} {W : Wire} (ht : m.tail = true) (hu : u < 400) (h : After limit R (lmm m 4 14 u nm vl fs) 10 W) : R = ⟨done { lmm m 4 14 u nm vl fs with used := u + 1 }, W.ticks⟩ :=
  after_fin h (feed_tail (M := lmm m 4 14 u nm vl fs) rfl rfl ht hu)
set_option maxHeartbeats 8000000 in
set_option maxRecDepth 100000 in
theorem chunks_alive (pm limit : Nat) (R : Res) (M : Mc) (p : Ps) (ad : Nat → Addr) (B : Nat) (w : World) (h : PM pm limit p .nilIface w) (hW : RepW ad B w) (hB : B ≤ pm) (ha : M.at' = 8) (hs0 : M.start = 0) (hz0 : M.size = 0) (hal : M.all = p.body.length) (hbd : M.body = p.body) (hus : M.used = 0) (hT : TellsH M p.hd) (hl : limit ≤ 1000000) (hb0 : p.body.length ≤ limit) (hg : goOn limit M p.wire = R) :
    Calls Tryz.prog 28 #[.pointer (some ⟨pm, 0, none⟩)] w fun e w' => (e = .returned (.tuple #[]) ∧ BodyE ad pm limit R M p w') ∧ Only (fun x => pm ≤ x) w w' := by
  have hlt := h.lt
  obtain ⟨c6, f6⟩ := h.c6
  have HS0 : Hid (KSt pm limit R M p w p.body (w.setCell ⟨pm, 6, none⟩ (.int .i64 400))) := by
    refine ⟨⟨p.wire, 400, p.bv, M, h.setRoom 400, hg, ha, hs0, hz0, hal, hbd, by omega, ⟨rfl, rfl, rfl, rfl⟩⟩, hb0, Only.set (S := fun x => pm ≤ x) _ 6 _ (Nat.le_refl _)⟩
  have HW : Hid (RepW ad B w) := hW
  have HT : Hid (TellsH M p.hd) := hT
  have hBw : B ≤ w.heap.size := by omega
  clear h hW hT hg ha hb0 hs0 hz0 hal hbd hus
  go_enter Tryz.func28, Tryz.ntmps28
  go_wp2
  refine scope_fall (fun m l a' w' => ∃ (sz : Int), (∃ f : Nat → Value, a' = { tmps := #[.pointer (some ⟨pm, 0, none⟩), undef, .int .i64 sz, f 3, f 4, f 5, f 6, f 7, f 8, f 9, f 10, f 11, f 12, f 13, f 14, f 15, f 16, f 17, f 18, f 19, f 20, f 21, f 22, f 23, f 24, f 25, f 26, f 27, f 28, f 29, f 30, f 31, f 32, f 33, f 34, f 35, f 36, f 37, f 38, f 39, f 40, f 41, f 42, f 43, f 44, f 45, f 46, f 47, f 48], defers := [] }) ∧ ((l = 0 ∧ ∃ b, m = limit - b.length + 1 ∧ Hid (KSt pm limit R M p w b w')) ∨ (l = 1 ∧ m = 0 ∧ Hid (XSt pm limit R M p w w')))) ?_ ?_
  · rintro m ih l a' wr ⟨sz, ⟨f, rfl⟩, ⟨rfl, b, rfl, HS⟩ | ⟨rfl, rfl, HS⟩⟩
    · clear ih HS0
      refine ⟨_, rfl, ?_⟩
      obtain ⟨W, r, bv, m, hP, hgo, h8, hs0, hz0, hal, hbd, hur, hsame⟩ := HS.out.ex
      have hWr : RepW ad B wr := HW.out.keep (only_ge_keeps HS.out.only hB hBw)
      have hlr : pm < wr.heap.size := hP.lt
      have HC := size_alive pm limit R m { p with wire := W, room := r, body := b, bv := bv } ad B wr hP hWr hB h8 hs0 hz0 hur (hsame.all HT.out hbd) hgo
      have hlen := HS.out.len
      have HSm : Hid (SameH m M) := hsame
      have HAl : Hid (m.all = b.length) := hal
      have HBd : Hid (m.body = b) := hbd
      clear hWr hP hgo h8 hs0 hz0 hal hbd hsame
      go_wp2_with fail
      refine HC.mono ?_
      rintro e w1 ⟨hE, hO1⟩
      have HO1 : Hid (Only (fun x => pm ≤ x) w w1) := HS.out.only.trans (only_at_ge hO1)
      have hl1 : pm < w1.heap.size := Nat.lt_of_lt_of_le hlr hO1.size
      clear hO1 HC
      rcases hE with ⟨d, z, u, r', W', rfl, hz24, hu', hP1, hA⟩ | ⟨x, tf, vf, W', r', rfl, hP1, hF1⟩
      · obtain ⟨c18, f18⟩ := hP1.c18
        by_cases hz : z = 0
        · subst hz
          have hgo := sized_last (by omega) hA (by rw [HAl.out]; exact hlen)
          have HX : Hid (XSt pm limit R M p w w1) := ⟨⟨W', r', b, bv, _, hP1, hgo, rfl, rfl, HBd.out, by show u + 1 + r' = 400; omega, HSm.out, hlen⟩, HO1.out⟩
          clear hP1 hA hgo
          go_wp2
          go_step3
          try simp only [Exit.jump]
          exact ⟨0, by omega, _, mkF rfl, .inr ⟨rfl, rfl, HX⟩⟩
        · have tz : ((z : Int) == 0) = false := by rw [beq_eq_false_iff_ne]; omega
          have c5 := hP1.c5
          obtain ⟨c17, f17, hOw⟩ := hP1.c17
          simp only [] at c17 hOw
          obtain ⟨ao, vn, vc, rfl⟩ := own_slice' hOw
          have hvn : vn = b.length := by
            rcases hOw with ⟨e, e2⟩ | ⟨g, cap, e, _⟩
            · injection e with _ e3 _
              have := congrArg List.length e2
              simp at this
              rw [e3, this]; rfl
            · injection e with _ e2; rw [e2, List.length_map]
          subst hvn
          have HP1 : Hid (PM pm limit { p with wire := W', room := r', body := b, bv := .slice ao b.length vc } .nilIface w1) := hP1
          by_cases hov : limit < b.length + z
          · have tov : (limit : Int) - (b.length : Int) < (z : Int) := by omega
            have HRn : Hid (R = ⟨none, W'.ticks⟩) := sized_over (by omega) hA (by rw [HAl.out]; exact hov)
            clear hP1 hA hOw hov
            go_wp2_with fail
            go_quiet (fail)
            obtain ⟨wd, hwd⟩ : ∃ wd, w1.drewN nq = wd := ⟨_, rfl⟩
            rw [hwd]
            have hPd : PM pm limit { p with wire := W', room := r', body := b, bv := .slice ao b.length vc } .nilIface wd := by rw [← hwd]; exact HP1.out.below (below_drewN nq)
            have HOd : Hid (Only (fun x => pm ≤ x) w wd) := by show Only _ _ _; rw [← hwd]; exact HO1.out.trans (Only.drew _ w1 nq)
            have hWd : RepW ad B wd := HW.out.keep (only_ge_keeps HOd.out hB hBw)
            have gl := hWd.limit
            have HC2 := broken_first pm limit _ ad B (.pointer (some (ad 9))) 182 wd hPd hWd
            clear hwd hPd hWd c18 f18 c17 f17 c5
            go_wp2_with fail
            refine HC2.mono ?_
            rintro e w3 ⟨rfl, ⟨err, hP3, hF3⟩, hO3⟩
            obtain ⟨f', rfl, q⟩ := hF3
            have HF : Hid (BodyE ad pm limit R M p w3) := .inr ⟨_, _, W', r', b, _, hP3, .inl ⟨⟨f', rfl, q⟩, HRn.out⟩⟩
            have HO3 : Hid (Only (fun x => pm ≤ x) w w3) := HOd.out.trans (only_at_ge hO3)
            clear hP3 q hO3 HC2
            go_wp2
            simp only [jumps]
            first | go_end0 | refine bodyPost_ret (results_none rfl _ _ _) rfl ?_
            exact ⟨⟨rfl, HF.out⟩, HO3.out⟩
          · have tov : ¬ (limit : Int) - (b.length : Int) < (z : Int) := by omega
            have HGo : Hid (goOn limit { m with start := d, size := z, at' := 10, thn := 10, used := u + 1, all := m.all + z } W' = R) := sized_next (by omega) hA (by rw [HAl.out]; exact hov) hz
            clear hP1 hA hOw
            go_wp2_with fail
            go_quiet (fail)
            obtain ⟨wd, hwd⟩ : ∃ wd, w1.drewN nq = wd := ⟨_, rfl⟩
            rw [hwd]
            have hPd : PM pm limit { p with wire := W', room := r', body := b, bv := .slice ao b.length vc } .nilIface wd := by rw [← hwd]; exact HP1.out.below (below_drewN nq)
            have HOd : Hid (Only (fun x => pm ≤ x) w wd) := by show Only _ _ _; rw [← hwd]; exact HO1.out.trans (Only.drew _ w1 nq)
            have hWd : RepW ad B wd := HW.out.keep (only_ge_keeps HOd.out hB hBw)
            have HC2 := pass_alive pm limit R { m with start := d, size := z, at' := 10, thn := 10, used := u + 1, all := m.all + z } z { p with wire := W', room := r', body := b, bv := .slice ao b.length vc } ad B wd hPd hWd hB (.inl rfl) (SameH.tells (m := { m with start := d, size := z, at' := 10, thn := 10, used := u + 1, all := m.all + z }) HSm.out HT.out) (by show b.length + z ≤ 2000000; omega) (fun _ => by
              have e : ({ m with start := d, size := z, at' := 10, thn := 10, used := u + 1, all := m.all + z, body := b } : Mc) = { m with start := d, size := z, at' := 10, thn := 10, used := u + 1, all := m.all + z } := by rw [← HBd.out]
              show goOn limit { m with start := d, size := z, at' := 10, thn := 10, used := u + 1, all := m.all + z, body := b } W' = R
              rw [e]; exact HGo.out) (fun e => absurd e hz)
            clear hwd hPd hWd c18 f18 c17 f17 c5
            go_wp2_with fail
            refine HC2.mono ?_
            rintro e w3 ⟨⟨rfl, hE3⟩, hO3⟩
            have HO3 : Hid (Only (fun x => pm ≤ x) w w3) := HOd.out.trans hO3
            have hW3 : RepW ad B w3 := HW.out.keep (only_ge_keeps HO3.out hB hBw)
            have gb3 := hW3.byte
            clear hO3 HC2
            rcases hE3 with ⟨W3, b3, bv3, hP3, hb3, hR3⟩ | ⟨tf, vf, W3, b3, bv3, hP3, hF3⟩
            · unfold PassR at hR3
              rw [if_pos rfl] at hR3
              have HC3 := take_alive pm limit R { m with start := d, at' := 11, thn := 10, used := u + 1, all := m.all + z, body := b3, size := 0 } { p with wire := W3, room := r', body := b3, bv := bv3 } ad B w3 hP3 hW3 hB hR3 (by show (11 : Nat) ≠ 14; decide) (by show (11 : Nat) ≠ 13; decide)
              clear hP3 hR3 hW3
              go_wp2_with fail
              refine HC3.mono ?_
              rintro e w4 ⟨hE4, hO4⟩
              have HO4 : Hid (Only (fun x => pm ≤ x) w w4) := HO3.out.trans (only_at_ge hO4)
              have hW4 : RepW ad B w4 := HW.out.keep (only_ge_keeps HO4.out hB hBw)
              have gb4 := hW4.byte
              clear hO4 HC3 gb3
              rcases hE4 with ⟨c, W4, rfl, hP4, hA4⟩ | ⟨err, W4, rfl, hP4, hF4, hR4⟩
              · by_cases hc : c = 13
                · have tc : (((c.toNat : Nat) : Int) != 13) = false := by rw [hc]; rfl
                  have hg4 : goOn limit { m with start := d, at' := 4, thn := 8, used := u + 1, all := m.all + z, body := b3, size := 0 } W4 = R := by
                    unfold After at hA4
                    rw [feed_11 (M := { m with start := d, at' := 11, thn := 10, used := u + 1, all := m.all + z, body := b3, size := 0 }) rfl, if_pos hc] at hA4
                    exact hA4.symm
                  have HC4 := take_alive pm limit R { m with start := d, at' := 4, thn := 8, used := u + 1, all := m.all + z, body := b3, size := 0 } { p with wire := W4, room := r', body := b3, bv := bv3 } ad B w4 hP4 hW4 hB hg4 (by show (4 : Nat) ≠ 14; decide) (by show (4 : Nat) ≠ 13; decide)
                  clear hP4 hA4 hg4 hW4 hc
                  go_wp2_with fail
                  refine HC4.mono ?_
                  rintro e w5 ⟨hE5, hO5⟩
                  have HO5 : Hid (Only (fun x => pm ≤ x) w w5) := HO4.out.trans (only_at_ge hO5)
                  have hW5 : RepW ad B w5 := HW.out.keep (only_ge_keeps HO5.out hB hBw)
                  have gb5 := hW5.byte
                  clear hO5 HC4 gb4
                  rcases hE5 with ⟨c5, W5, rfl, hP5, hA5⟩ | ⟨err, W5, rfl, hP5, hF5, hR5⟩
                  · by_cases hc5 : c5 = 10
                    · have tc5 : (((c5.toNat : Nat) : Int) != 10) = false := by rw [hc5]; rfl
                      have hg5 : goOn limit { m with start := 0, at' := 8, thn := 8, used := u + 1, all := m.all + z, body := b3, size := 0 } W5 = R := by
                        unfold After at hA5
                        rw [feed_48 (M := { m with start := d, at' := 4, thn := 8, used := u + 1, all := m.all + z, body := b3, size := 0 }) rfl rfl, if_pos hc5] at hA5
                        exact hA5.symm
                      have hb3' : b3.length = b.length + z := hb3
                      have HK : Hid (KSt pm limit R M p w b3 w5) := ⟨⟨W5, r', bv3, _, hP5, hg5, rfl, rfl, rfl, by show m.all + z = b3.length; rw [HAl.out, hb3'], rfl, by show u + 1 + r' = 400; omega, HSm.out⟩, by omega, HO5.out⟩
                      clear hP5 hA5 hg5 hW5 hc5 gb5
                      go_wp2
                      go_step3
                      try simp only [Exit.jump]
                      exact ⟨limit - b3.length + 1, by omega, _, mkF rfl, .inl ⟨rfl, b3, rfl, HK⟩⟩
                    · have tc5 : (((c5.toNat : Nat) : Int) != 10) = true := by rw [bne_iff_ne]; intro e; exact hc5 (UInt8.toNat_inj.1 (by have : (10 : UInt8).toNat = 10 := rfl; omega))
                      have HRn : Hid (R = ⟨none, W5.ticks⟩) := by
                        show _ = _
                        unfold After at hA5
                        rw [feed_48 (M := { m with start := d, at' := 4, thn := 8, used := u + 1, all := m.all + z, body := b3, size := 0 }) rfl rfl, if_neg hc5] at hA5
                        exact hA5
                      have HC6 := broken_first pm limit _ ad B (.pointer (some (ad 6))) 182 w5 hP5 hW5
                      clear hP5 hA5 hW5 hc5
                      go_wp2_with fail
                      refine HC6.mono ?_
                      rintro e w6 ⟨rfl, ⟨err, hP6, hF6⟩, hO6⟩
                      obtain ⟨f', rfl, q⟩ := hF6
                      have HFt : Hid (BodyE ad pm limit R M p w6) := .inr ⟨_, _, W5, r', b3, bv3, hP6, .inl ⟨⟨f', rfl, q⟩, HRn.out⟩⟩
                      have HO6 : Hid (Only (fun x => pm ≤ x) w w6) := HO5.out.trans (only_at_ge hO6)
                      clear hP6 q hO6 HC6
                      go_wp2
                      simp only [jumps]
                      first | go_end0 | refine bodyPost_ret (results_none rfl _ _ _) rfl ?_
                      exact ⟨⟨rfl, HFt.out⟩, HO6.out⟩
                  · obtain ⟨f', rfl, q⟩ := hF5
                    have HFt : Hid (BodyE ad pm limit R M p w5) := .inr ⟨_, _, W5, r', b3, bv3, hP5, .inr ⟨⟨f', rfl, q⟩, _, hR5, (by show (4 : Nat) ≠ 14; decide), SameH.all (m := { m with start := d, at' := 4, thn := 8, used := u + 1, all := m.all + z, body := b3, size := 0 }) HSm.out HT.out rfl⟩⟩
                    have HC6 := broken_later pm limit _ ad B _ _ (.iface 182 (.pointer (some (ad 6)))) w5 hP5 hW5
                    clear hP5 q hR5 hW5
                    go_wp2_with fail
                    refine HC6.mono ?_
                    rintro e w6 ⟨rfl, rfl⟩
                    go_wp2
                    simp only [jumps]
                    first | go_end0 | refine bodyPost_ret (results_none rfl _ _ _) rfl ?_
                    exact ⟨⟨rfl, HFt.out⟩, HO5.out⟩
                · have tc : (((c.toNat : Nat) : Int) != 13) = true := by rw [bne_iff_ne]; intro e; exact hc (UInt8.toNat_inj.1 (by have : (13 : UInt8).toNat = 13 := rfl; omega))
                  have HRn : Hid (R = ⟨none, W4.ticks⟩) := by
                    show _ = _
                    unfold After at hA4
                    rw [feed_11 (M := { m with start := d, at' := 11, thn := 10, used := u + 1, all := m.all + z, body := b3, size := 0 }) rfl, if_neg hc] at hA4
                    exact hA4
                  have HC6 := broken_first pm limit _ ad B (.pointer (some (ad 6))) 182 w4 hP4 hW4
                  clear hP4 hA4 hW4 hc
                  go_wp2_with fail
                  refine HC6.mono ?_
                  rintro e w6 ⟨rfl, ⟨err, hP6, hF6⟩, hO6⟩
                  obtain ⟨f', rfl, q⟩ := hF6
                  have HFt : Hid (BodyE ad pm limit R M p w6) := .inr ⟨_, _, W4, r', b3, bv3, hP6, .inl ⟨⟨f', rfl, q⟩, HRn.out⟩⟩
                  have HO6 : Hid (Only (fun x => pm ≤ x) w w6) := HO4.out.trans (only_at_ge hO6)
                  clear hP6 q hO6 HC6
                  go_wp2
                  simp only [jumps]
                  first | go_end0 | refine bodyPost_ret (results_none rfl _ _ _) rfl ?_
                  exact ⟨⟨rfl, HFt.out⟩, HO6.out⟩
              · obtain ⟨f', rfl, q⟩ := hF4
                have HFt : Hid (BodyE ad pm limit R M p w4) := .inr ⟨_, _, W4, r', b3, bv3, hP4, .inr ⟨⟨f', rfl, q⟩, _, hR4, (by show (11 : Nat) ≠ 14; decide), SameH.all (m := { m with start := d, at' := 11, thn := 10, used := u + 1, all := m.all + z, body := b3, size := 0 }) HSm.out HT.out rfl⟩⟩
                have HC6 := broken_later pm limit _ ad B _ _ (.iface 182 (.pointer (some (ad 6)))) w4 hP4 hW4
                clear hP4 q hR4 hW4
                go_wp2_with fail
                refine HC6.mono ?_
                rintro e w6 ⟨rfl, rfl⟩
                go_wp2
                simp only [jumps]
                first | go_end0 | refine bodyPost_ret (results_none rfl _ _ _) rfl ?_
                exact ⟨⟨rfl, HFt.out⟩, HO4.out⟩
            · have HC4 := take_dead pm limit _ tf vf w3 hP3
              have HC6 := broken_later pm limit _ ad B tf vf (.iface 182 (.pointer (some (ad 6)))) w3 hP3 hW3
              have HFt : Hid (BodyE ad pm limit R M p w3) := .inr ⟨tf, vf, W3, r', b3, bv3, hP3, hF3⟩
              clear hP3 hF3 hW3
              go_wp2_with fail
              refine HC4.mono ?_
              rintro e w4 ⟨rfl, rfl⟩
              go_wp2_with fail
              refine HC6.mono ?_
              rintro e w6 ⟨rfl, rfl⟩
              go_wp2
              simp only [jumps]
              first | go_end0 | refine bodyPost_ret (results_none rfl _ _ _) rfl ?_
              exact ⟨⟨rfl, HFt.out⟩, HO3.out⟩
      · obtain ⟨c18, f18⟩ := hP1.c18
        have HFt : Hid (BodyE ad pm limit R M p w1) := .inr ⟨tf, vf, W', r', b, bv, hP1, hF1⟩
        clear hP1 hF1
        go_wp2
        simp only [jumps]
        first | go_end0 | refine bodyPost_ret (results_none rfl _ _ _) rfl ?_
        exact ⟨⟨rfl, HFt.out⟩, HO1.out⟩
    · clear ih HS0
      refine ⟨_, rfl, ?_⟩
      obtain ⟨W, r, b, bv, m, hP, hgo, h5, htl, hbd, hur, hsame, hlen⟩ := HS.out.ex
      have hWr : RepW ad B wr := HW.out.keep (only_ge_keeps HS.out.only hB hBw)
      have hT0 : Tells m p.hd b := hsame.all HT.out hbd
      have hL : LSt pm limit R m { p with body := b, bv := bv } wr [] (.slice none 0 0) r W wr := by
        refine ⟨⟨hP, World.ownsRow_nil _ _ _ _, fun f hf => (by cases hf), (by simp; omega), Only.refl _ _, fun g hg => (by cases hg)⟩, m.thn, m.used, m.name, m.value, hur, ?_⟩
        rw [lmm_self h5 htl]; exact hgo
      have HC1 := lines_any pm limit R m { p with body := b, bv := bv } ad B wr hWr hB hP.lt hP.bvlt hT0 (.inl ⟨m.used, r, W, hL, hur⟩)
      have HO0 : Hid (Only (fun x => pm ≤ x) w wr) := HS.out.only
      have HTl : Hid (m.tail = true) := htl
      have HBd : Hid (m.body = b) := hbd
      have HSm : Hid (SameH m M) := hsame
      clear hP hgo h5 htl hbd hsame hWr hT0 hL
      go_wp2_with fail
      refine HC1.mono ?_
      rintro e w2 ⟨hE2, hO2⟩
      have HO2 : Hid (Only (fun x => pm ≤ x) w w2) := HO0.out.trans (only_at_ge hO2)
      clear hO2 HC1
      rcases hE2 with ⟨v, fs, W2, r2, u2, nm, vl, rfl, hu2, hP2, hrow, hgf, hn4, hA⟩ | ⟨v, rfl, tf, vf, W2, r2, hP2, hF2⟩
      · have HFt : Hid (BodyE ad pm limit R M p w2) := .inl ⟨W2, r2, b, bv, { lmm m 4 14 u2 nm vl fs with used := u2 + 1 }, hP2, HBd.out, HSm.out, by omega, tail_fin HTl.out (by omega) hA⟩
        clear hP2 hrow hgf hA
        go_wp2
        simp only [jumps]
        first | go_end0 | refine bodyPost_ret (results_none rfl _ _ _) rfl ?_
        exact ⟨⟨rfl, HFt.out⟩, HO2.out⟩
      · have HFt : Hid (BodyE ad pm limit R M p w2) := .inr ⟨tf, vf, W2, r2, b, bv, hP2, hF2⟩
        clear hP2 hF2
        go_wp2
        simp only [jumps]
        first | go_end0 | refine bodyPost_ret (results_none rfl _ _ _) rfl ?_
        exact ⟨⟨rfl, HFt.out⟩, HO2.out⟩
  · intro all
    go_wp2_with fail
    go_step3
    rename_i hKK
    exact hKK _ _ (fall2 (all _ 0 _ _ ⟨_, mkF rfl, .inl ⟨rfl, _, rfl, HS0⟩⟩) rfl fun k l' a' w' _ hJ => ⟨k, hJ⟩)
end Go.Proofs.YtmodongnganbfaaGreatDoor.Rep
