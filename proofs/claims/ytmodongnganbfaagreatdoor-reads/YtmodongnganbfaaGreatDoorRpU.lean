/- Replies: the program's toClose. -/
import Derived.Test.YtmodongnganbfaaGreatDoorRpSToRpT
import Derived.Test.YtmodongnganbfaaGreatDoorErr
namespace Go.Proofs.YtmodongnganbfaaGreatDoor.Rep
open Go.RowKit Go.Proofs.YtmodongnganbfaaGreatDoor Go.Proofs.YtmodongnganbfaaGreatDoor.Sha Go.Proofs.YtmodongnganbfaaGreatDoor.Inf
set_option maxRecDepth 100000 in
theorem is_nil (t : TypeId) (x : Value) (w : World) : Calls Tryz.prog 45 #[.nilIface, .iface t x] w fun e w' => e = .returned (.bool false) ∧ w' = w := by
  have heq := run_eql_iface_nil_left (P := Tryz.prog) w t x Tryz.underlying50
  go_enter Tryz.func45, Tryz.ntmps45
  go_wp2
  go_ret
  exact ⟨rfl, rfl⟩
/-- How toClose ends. -/
def CloseE (ad : Nat → Addr) (pm limit : Nat) (R : Res) (M : Mc) (p : Ps) (w' : World) : Prop :=
  (∃ W b bv, PM pm limit { p with wire := W, body := b, bv := bv } .nilIface w' ∧ b.length ≤ limit ∧ R = ⟨done { M with body := b }, W.ticks⟩) ∨
  (∃ tf vf W b bv, PM pm limit { p with wire := W, body := b, bv := bv } (.iface tf vf) w' ∧ Faulted ad pm R { p with wire := W, body := b, bv := bv } (.iface tf vf) w')
structure CSt (pm limit : Nat) (R : Res) (M : Mc) (p : Ps) (w : World) (b : Bytes) (bv : Value) (W : Wire) (wr : World) : Prop where
  mem : PM pm limit { p with wire := W, body := b, bv := bv } .nilIface wr
  len : b.length ≤ limit
  go : goOn limit { M with body := b } W = R
  only : Only (fun x => pm ≤ x) w wr
set_option maxHeartbeats 8000000 in
set_option maxRecDepth 100000 in
theorem toClose_alive (pm limit : Nat) (R : Res) (M : Mc) (p : Ps) (ad : Nat → Addr) (B : Nat) (w : World) (h : PM pm limit p .nilIface w) (hW : RepW ad B w) (hB : B ≤ pm) (ha : M.at' = 13) (hT : TellsH M p.hd) (hl : limit ≤ 1000000) (hb0 : p.body.length ≤ limit) (hg : goOn limit { M with body := p.body } p.wire = R) :
    Calls Tryz.prog 27 #[.pointer (some ⟨pm, 0, none⟩)] w fun e w' => (e = .returned (.tuple #[]) ∧ CloseE ad pm limit R M p w') ∧ Only (fun x => pm ≤ x) w w' := by
  have hlt := h.lt
  obtain ⟨i0, hi, hz0, hz1, hz2⟩ := info_parts u8Info'
  have HS0 : Hid (CSt pm limit R M p w p.body p.bv p.wire w) := ⟨h, hb0, hg, Only.refl _ _⟩
  have HW : Hid (RepW ad B w) := hW
  have HT : Hid (TellsH M p.hd) := hT
  have HA : Hid (M.at' = 13) := ha
  have hBw : B ≤ w.heap.size := by omega
  clear h hW hT hg ha hb0
  go_enter Tryz.func27, Tryz.ntmps27
  go_wp2
  refine scope_fall (fun m l a' w' => ∃ (b : Bytes) (bv ev : Value) (W : Wire) (cz : Int), (∃ f : Nat → Value, a' = { tmps := #[.pointer (some ⟨pm, 0, none⟩), undef, .int .u8 cz, ev, f 4, f 5, f 6, f 7, f 8, f 9, f 10, f 11, f 12, f 13, f 14, f 15, f 16, f 17, f 18, f 19, f 20, f 21, f 22, f 23, f 24, f 25, f 26, f 27, f 28, f 29, f 30, f 31, f 32, f 33, f 34, f 35, f 36, f 37, f 38, f 39, f 40, f 41, f 42, f 43, f 44, f 45], defers := [] }) ∧ l = 0 ∧ m = limit - b.length ∧ Hid (CSt pm limit R M p w b bv W w')) ?_ ?_
  · rintro m ih l a' wr ⟨b, bv, ev, W, cz, ⟨f, rfl⟩, rfl, rfl, HS⟩
    clear ih HS0
    refine ⟨_, rfl, ?_⟩
    have hWr : RepW ad B wr := HW.out.keep (only_ge_keeps HS.out.only hB hBw)
    have hlr : pm < wr.heap.size := HS.out.mem.lt
    have HC := wtake_walk pm limit { p with wire := W, body := b, bv := bv } .nilIface ad B wr HS.out.mem hWr hB
    have hlen := HS.out.len
    clear hWr
    go_wp2_with fail
    refine HC.mono ?_
    rintro e w1 ⟨hE, hO1⟩
    have HO1 : Hid (Only (fun x => pm ≤ x) w w1) := HS.out.only.trans (only_at_ge hO1)
    have hW1 : RepW ad B w1 := HW.out.keep (only_ge_keeps HO1.out hB hBw)
    have hl1 : pm < w1.heap.size := Nat.lt_of_lt_of_le hlr hO1.size
    have gc := hW1.closed
    clear hO1 HC
    unfold TakeE at hE
    rcases htk : take W with ⟨x, W'⟩
    simp only [htk] at hE
    cases x with
    | ok c =>
      obtain ⟨rfl, hP1⟩ := hE
      have HG := goOn_ok (limit := limit) (m := { M with body := b }) (by show M.at' ≠ 14; have := HA.out; omega) htk
      rw [HS.out.go, feed_close (M := { M with body := b }) HA.out] at HG
      have HIs := is_nil 182 (.pointer (some (ad 3))) w1
      obtain ⟨c18, f18⟩ := hP1.c18
      have c5 := hP1.c5
      obtain ⟨c17, f17, hOw⟩ := hP1.c17
      simp only [] at c17 hOw
      obtain ⟨ao, vn, vc, rfl⟩ := own_slice' hOw
      have hvn : vn = b.length := by
        rcases hOw with ⟨e, e2⟩ | ⟨g, cap, e, _⟩
        · injection e with _ e3 _
          have := congrArg List.length e2
          simp at this
          rw [e3, this]; rfl
        · injection e with _ e2; rw [e2, List.length_map]
      subst hvn
      by_cases hfull : b.length = limit
      · have tf : ((b.length : Int) == (limit : Int)) = true := by rw [beq_iff_eq]; omega
        have HRn : Hid (R = ⟨none, W'.ticks⟩) := by
          show _ = _
          rw [if_pos (by show limit ≤ b.length; omega)] at HG
          exact HG
        have gl := hW1.limit
        have hPd : ∀ x, PM pm limit { p with wire := W', body := b, bv := .slice ao b.length vc } .nilIface (w1.drewN x) := fun x => hP1.below (below_drewN x)
        have HOd : Hid (∀ x, Only (fun x => pm ≤ x) w (w1.drewN x)) := fun x => HO1.out.trans (Only.drew _ w1 x)
        have HC2 : Hid (∀ x, Calls Tryz.prog 31 #[.pointer (some ⟨pm, 0, none⟩), .iface 182 (.pointer (some (ad 9)))] (w1.drewN x) fun e w' => e = .returned (.tuple #[]) ∧ (∃ err, PM pm limit { p with wire := W', body := b, bv := .slice ao b.length vc } err w' ∧ FaultAt ad pm 5 err w') ∧ Only (· = pm) (w1.drewN x) w') := fun x => broken_first pm limit _ ad B (.pointer (some (ad 9))) 182 (w1.drewN x) (hPd x) (hW1.keep ((below_drewN x).mono (by omega)))
        clear hP1 hOw HG hPd hW1 htk hfull
        go_wp2_with fail
        refine HIs.mono ?_
        rintro e w2 ⟨rfl, rfl⟩
        go_wp2_with fail
        go_quiet (fail)
        go_wp2_with fail
        refine (HC2.out _).mono ?_
        rintro e w3 ⟨rfl, ⟨err, hP3, hF3⟩, hO3⟩
        obtain ⟨f', rfl, q⟩ := hF3
        have HF : Hid (CloseE ad pm limit R M p w3) := .inr ⟨_, _, W', b, _, hP3, .inl ⟨⟨f', rfl, q⟩, HRn.out⟩⟩
        have HO3 : Hid (Only (fun x => pm ≤ x) w w3) := (HOd.out _).trans (only_at_ge hO3)
        clear hP3 q hO3 HC2
        go_wp2
        simp only [jumps]
        first | go_end0 | refine bodyPost_ret (results_none rfl _ _ _) rfl ?_
        exact ⟨⟨rfl, HF.out⟩, HO3.out⟩
      · have tf : ((b.length : Int) == (limit : Int)) = false := by rw [beq_eq_false_iff_ne]; omega
        have HGo : Hid (goOn limit { M with body := b ++ [c] } W' = R) := by
          show _ = _
          rw [if_neg (by show ¬ limit ≤ b.length; omega)] at HG
          exact HG.symm
        have hblt : b.length < limit := by omega
        have HLl : Hid ((b.map u8v).length = b.length) := by show _ = _; simp
        have HP1 : Hid (PM pm limit { p with wire := W', body := b, bv := .slice ao b.length vc } .nilIface w1) := hP1
        have HOw : Hid (Own w1 pm (.slice ao b.length vc) (b.map u8v)) := hOw
        clear hP1 hOw HG hW1 htk hfull
        go_wp2_with fail
        refine HIs.mono ?_
        rintro e w2 ⟨rfl, rfl⟩
        go_wp2_with fail
        go_quiet (fail)
        obtain ⟨wd, hwd⟩ : ∃ wd, w2.drewN nq = wd := ⟨_, rfl⟩
        rw [hwd]
        have HPd : Hid (PM pm limit { p with wire := W', body := b, bv := .slice ao b.length vc } .nilIface wd) := by show PM _ _ _ _ _; rw [← hwd]; exact HP1.out.below (below_drewN nq)
        have HOwd : Hid (Own wd pm (.slice ao b.length vc) (b.map u8v)) := HPd.out.c17.2.2
        have HOd : Hid (Only (fun x => pm ≤ x) w wd) := by show Only _ _ _; rw [← hwd]; exact HO1.out.trans (Only.drew _ w2 nq)
        have hld : pm < wd.heap.size := HPd.out.lt
        clear hwd c17 f17 c18 f18 c5 gc hl1 HP1 HOw HO1
        obtain ⟨c17, f17, _⟩ := HPd.out.c17
        simp only [] at c17
        go_wp2_with (at_builtin; refine wpList_append_T rfl _ _ 48 rfl pm 5 i0 (.int .u8 0) 1 Tryz.underlying48 hi hz0 hz1 hz2 rfl _ _ rfl (own_alloc' HOwd.out _) ⟨wd.heap.size, 0, none⟩ 1 1 [.int .u8 c.toNat] rfl rfl (one_cell' _ _ _) (fun u hu => by simp at hu; subst hu; rfl) (by decide) (by rw [HLl.out]; unfold maxLen; omega) (by rw [HLl.out]; omega) (by simp; omega) ?_)
        intro g cap w3 hO3 hT3
        have hk3 : Only (fun q => (Value.slice ao b.length vc).ownBlock = some q) wd w3 := (Only.alloc _ _ _).trans hT3.1
        have hg3 : (Value.slice ao b.length vc).ownBlock = some g ∨ wd.heap.size ≤ g := by
          rcases hT3.2 g rfl with q | q
          · exact .inl q
          · right; simp at q; omega
        have hOw3 : Own w3 pm (.slice (some ⟨g, 0, none⟩) (b.length + 1) cap) ((b ++ [c]).map u8v) := by
          have e : (b ++ [c]).map u8v = b.map u8v ++ [.int .u8 c.toNat] := by simp [u8v]
          rw [e]; exact hO3
        have hPg := HPd.out.grow (c := c) hk3 hOw3 hg3
        have hge : ∀ q, (Value.slice ao b.length vc).ownBlock = some q → pm ≤ q := fun q hq => own_block_ge HOwd.out q hq
        have hne3 : (Value.slice ao b.length vc).ownBlock ≠ some pm := by
          obtain ⟨_, _, _, bv', _, _, _, _, _, _, _, hbn⟩ := HPd.out.ex
          have q := hbn.1
          rw [hbn.2] at q
          exact q
        have c17' : w3.cell? ⟨pm, 17, none⟩ = some (.slice ao b.length vc) := by rw [hk3.cell (p := ⟨pm, 17, none⟩) hld hne3]; exact c17
        have f17' : w3.frozen? ⟨pm, 17, none⟩ = false := by
          obtain ⟨_, _, _, bv', hR', _⟩ := HPd.out.ex
          exact (hR'.only (by simp [encP]) hk3 hne3).fro 17
        have HS3 : Hid (CSt pm limit R M p w (b ++ [c]) (.slice (some ⟨g, 0, none⟩) (b.length + 1) cap) W' (w3.setCell ⟨pm, 17, none⟩ (.slice (some ⟨g, 0, none⟩) (b.length + 1) cap))) := by
          refine ⟨hPg, by simp; omega, HGo.out, (HOd.out.trans (hk3.mono hge)).trans (Only.set (S := fun x => pm ≤ x) _ 17 _ (Nat.le_refl _))⟩
        clear hO3 hT3 hk3 hg3 hOw3 hPg hge hne3 c17 f17
        go_wp2
        go_step3
        try simp only [Exit.jump]
        exact ⟨limit - (b ++ [c]).length, by simp; omega, b ++ [c], _, _, W', _, mkF rfl, rfl, rfl, HS3⟩
    | error y =>
      obtain ⟨i, hi4, hy, rfl, hP1⟩ := hE
      have HG := goOn_err (limit := limit) (m := { M with body := b }) (by show M.at' ≠ 14; have := HA.out; omega) htk
      rw [HS.out.go] at HG
      simp only [errV]
      by_cases h3 : i = 3
      · have hyc := hy.1 h3
        subst hyc
        subst h3
        have HF : Hid (CloseE ad pm limit R M p w1) := .inl ⟨W', b, bv, hP1, hlen, by rw [HG]; unfold ended; rw [if_pos (by exact HA.out)]⟩
        have HIs := is_same (ad 3) w1
        clear hP1 HG hW1 htk hy
        go_wp2_with fail
        refine HIs.mono ?_
        rintro e w2 ⟨rfl, rfl⟩
        go_wp2
        simp only [jumps]
        first | go_end0 | refine bodyPost_ret (results_none rfl _ _ _) rfl ?_
        exact ⟨⟨rfl, HF.out⟩, HO1.out⟩
      · have hya : y = .again := by
          cases y with
          | closed => exact absurd (hy.2 rfl) h3
          | again => rfl
        subst hya
        obtain ⟨_, ci, ti, hri⟩ := hW1.row i (by omega)
        obtain ⟨_, cj, tj, hrj⟩ := hW1.row 3 (by decide)
        have HIs := is_other (ad i) (ad 3) ci cj ti tj w1 (hW1.ne i 3 (by omega) (by decide) h3) hri hrj
        have ga := hW1.again
        have HC2 := fail_first pm limit { p with wire := W', body := b, bv := bv } ad 4 (.pointer (some (ad i))) 182 w1 hP1
        have HRa : Hid (R = ⟨some { M with body := b }, W'.ticks⟩) := HG
        clear hP1 HG hW1 htk hy hri hrj
        go_wp2_with fail
        refine HIs.mono ?_
        rintro e w2 ⟨rfl, rfl⟩
        go_wp2_with fail
        refine HC2.mono ?_
        rintro e w3 ⟨rfl, ⟨err, hP3, hF3⟩, hO3⟩
        obtain ⟨f', rfl, q⟩ := hF3
        have HF : Hid (CloseE ad pm limit R M p w3) := .inr ⟨_, _, W', b, bv, hP3, .inr ⟨⟨f', rfl, q⟩, _, HRa.out, (by show M.at' ≠ 14; have := HA.out; omega), HT.out.all b _ rfl rfl rfl rfl rfl⟩⟩
        have HO3 : Hid (Only (fun x => pm ≤ x) w w3) := HO1.out.trans (only_at_ge hO3)
        clear hP3 q hO3 HC2
        go_wp2
        simp only [jumps]
        first | go_end0 | refine bodyPost_ret (results_none rfl _ _ _) rfl ?_
        exact ⟨⟨rfl, HF.out⟩, HO3.out⟩
  · intro all
    go_wp2_with fail
    go_step3
    rename_i hKK
    exact hKK _ _ (fall2 (all _ 0 _ _ ⟨_, _, _, _, _, mkF rfl, rfl, rfl, HS0⟩) rfl fun k l' a' w' _ hJ => ⟨k, hJ⟩)
end Go.Proofs.YtmodongnganbfaaGreatDoor.Rep
