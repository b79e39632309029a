/- Replies: the program's size. -/
import Derived.Test.YtmodongnganbfaaGreatDoorRpH
import Derived.Test.YtmodongnganbfaaGreatDoorRpG
namespace Go.Proofs.YtmodongnganbfaaGreatDoor.Rep
open Go.RowKit Go.Proofs.YtmodongnganbfaaGreatDoor Go.Proofs.YtmodongnganbfaaGreatDoor.Sha Go.Proofs.YtmodongnganbfaaGreatDoor.Inf
theorem Tells.same {m m' : Mc} {hd : Hd} {body : Bytes} (h : Tells m hd body) (e1 : m'.headed = m.headed) (e2 : m'.status = m.status) (e3 : m'.tag = m.tag) (e4 : m'.body = m.body) (e5 : m'.span = m.span) : Tells m' hd body := by
  unfold Tells frOf totOf at *
  rw [e1, e2, e3, e4, e5]
  exact h
theorem feed_line {limit : Nat} {M : Mc} {c : UInt8} (ha : M.at' = 3 ∨ M.at' = 5 ∨ M.at' = 6 ∨ M.at' = 7 ∨ M.at' = 9) (hu : M.used < 400) : feed limit M c = line { M with used := M.used + 1 } c := by
  have hc : counts M = true := by unfold counts; rcases ha with e | e | e | e | e <;> simp [e]
  unfold feed
  rw [if_neg (by omega)]
  simp only [hc, if_true]
  rw [if_neg (by omega), if_neg (by omega), if_neg (by omega), if_pos (by omega)]
theorem feed_size {limit : Nat} {M : Mc} {c : UInt8} (ha : M.at' = 8) (hu : M.used < 400) : feed limit M c = sizeByte { M with used := M.used + 1 } c := by
  have hc : counts M = true := by unfold counts; simp [ha]
  unfold feed
  rw [if_neg (by omega)]
  simp only [hc, if_true]
  rw [if_neg (by omega), if_neg (by omega), if_pos ha]
theorem feed_lf_no {limit : Nat} {M : Mc} {c : UInt8} (ha : M.at' = 4) (hc : c ≠ 10) : feed limit M c = none := by
  unfold feed
  split
  · rfl
  · simp only []
    split <;> simp [ha]
theorem feed_some_used {limit : Nat} {M : Mc} {c : UInt8} (hc : counts M = true) (h : feed limit M c ≠ none) : M.used < 400 := by
  by_cases q : 400 ≤ M.used
  · exact absurd (feed_full c hc q) h
  · omega
/-- The rest of a line that is any text: a reason (3), an extension (9). -/
theorem rest_plain {limit : Nat} {p : Ps} {M : Mc} {th : Nat} (ha : (M.at' = 3 ∧ th = 5) ∨ (M.at' = 9 ∧ th = 10)) (hu : M.used + p.room = 400) (hT : Tells M p.hd p.body) :
    RestM limit p (fun l => { M with used := M.used + l.length }) (fun l => { M with at' := 4, thn := th, used := M.used + l.length + 1 }) where
  cnt := fun l => by unfold counts; rcases ha with e | e <;> simp [e.1]
  cntc := fun l => by unfold counts; rcases ha with e | e <;> simp [e.2]
  used := fun l => by show M.used + l.length + p.room = _; omega
  usedc := fun l => by show M.used + l.length + 1 + p.room = _; omega
  tells := fun l => hT.same rfl rfl rfl rfl rfl
  tellsc := fun l => hT.same rfl rfl rfl rfl rfl
  text := fun l c hc hlt => by
    have h13 : c ≠ 13 := by intro e; rw [e] at hc; revert hc; decide
    rw [feed_line (by rcases ha with e | e; exact .inl e.1; exact .inr (.inr (.inr (.inr e.1)))) hlt]
    rcases ha with e | e <;> simp [line, e.1, h13, hc, Nat.add_assoc]
  cr := fun l hlt => by
    rw [feed_line (by rcases ha with e | e; exact .inl e.1; exact .inr (.inr (.inr (.inr e.1)))) hlt]
    rcases ha with e | e <;> simp [line, e.1, e.2]
  no := fun l c hc h13 => by
    by_cases hlt : M.used + l.length < 400
    · rw [feed_line (by rcases ha with e | e; exact .inl e.1; exact .inr (.inr (.inr (.inr e.1)))) hlt]
      rcases ha with e | e <;> simp [line, e.1, h13, hc]
    · exact feed_full c (by unfold counts; rcases ha with e | e <;> simp [e.1]) (by show 400 ≤ M.used + l.length; omega)
  lf := fun l c hc => feed_lf_no rfl hc
theorem chain_one {limit : Nat} {p : Ps} {M : Mc} (ha : M.at' = 4) (hc : counts M = true) (hu : M.used + p.room = 400) (hT : Tells M p.hd p.body) : Chain limit p [10] (fun _ => M) where
  cnt := fun _ _ => hc
  used := fun i hi => by simp at hi; subst hi; exact hu
  tells := fun _ _ => hT
  no := fun i c hc hi => feed_lf_no ha (by simp at hi; subst hi; intro e; exact hc (by rw [e]; rfl))
  yes := fun i c _ hi _ => by simp at hi
/-- How size ends: ahead of its line's LF. -/
def SizeE (ad : Nat → Addr) (pm limit : Nat) (R : Res) (m : Mc) (p : Ps) (e : Ending) (w' : World) : Prop :=
  (∃ (d z u r : Nat) (W : Wire), e = .returned (.int .i64 (z : Int)) ∧ z < 16777216 ∧ u + r + 1 = 400 ∧ PM pm limit { p with wire := W, room := r } .nilIface w' ∧ After limit R { m with start := d, size := z, at' := 4, thn := 10, used := u } 10 W) ∨
  (∃ (x : Int) (tf : TypeId) (vf : Value) (W : Wire) (r : Nat), e = .returned (.int .i64 x) ∧ PM pm limit { p with wire := W, room := r } (.iface tf vf) w' ∧ Faulted ad pm R { p with wire := W, room := r } (.iface tf vf) w')
structure ZSt (pm limit : Nat) (R : Res) (m : Mc) (p : Ps) (w : World) (d z : Nat) (W : Wire) (wr : World) : Prop where
  mem : PM pm limit { p with wire := W, room := p.room - d } .nilIface wr
  room : d ≤ p.room
  d6 : d ≤ 6
  z16 : z < 16 ^ d
  go : goOn limit { m with start := d, size := z, used := m.used + d } W = R
  only : Only (· = pm) w wr
theorem pow_le6 {d : Nat} (h : d ≤ 6) : 16 ^ d ≤ 16777216 := by
  have := Nat.pow_le_pow_right (n := 16) (by decide) h
  have e : (16 : Nat) ^ 6 = 16777216 := by decide
  omega
set_option maxHeartbeats 4000000 in
set_option maxRecDepth 100000 in
theorem size_alive (pm limit : Nat) (R : Res) (m : Mc) (p : Ps) (ad : Nat → Addr) (B : Nat) (w : World) (h : PM pm limit p .nilIface w) (hW : RepW ad B w) (hB : B ≤ pm) (h8 : m.at' = 8) (hs0 : m.start = 0) (hz0 : m.size = 0) (hu : m.used + p.room = 400) (hT : Tells m p.hd p.body) (hR : goOn limit m p.wire = R) :
    Calls Tryz.prog 47 #[.pointer (some ⟨pm, 0, none⟩)] w fun e w' => SizeE ad pm limit R m p e w' ∧ Only (· = pm) w w' := by
  have hlt := h.lt
  have HS0 : Hid (ZSt pm limit R m p w 0 0 p.wire w) := ⟨h, Nat.zero_le _, by decide, by decide, by
    have e : ({ m with start := 0, size := 0, used := m.used + 0 } : Mc) = m := by cases m; simp only [] at hs0 hz0; subst hs0; subst hz0; rfl
    rw [e]; exact hR, Only.refl _ _⟩
  have HW : Hid (RepW ad B w) := hW
  have HT : Hid (Tells m p.hd p.body) := hT
  clear h hW hR hT hs0 hz0
  go_enter Tryz.func47, Tryz.ntmps47
  go_wp2
  refine scope_fall (fun n l a' w' => ∃ (d z : Nat) (W : Wire) (cz zz dd : Int), (∃ f : Nat → Value, a' = { tmps := #[.pointer (some ⟨pm, 0, none⟩), undef, .int .i64 0, .int .u8 cz, .int .i64 zz, .int .i64 dd, f 6, f 7, f 8, f 9, f 10, f 11, f 12, f 13, f 14, f 15, f 16, f 17, f 18, f 19, f 20, f 21, f 22, f 23, f 24, f 25, f 26, f 27, f 28, f 29, f 30, f 31, f 32, f 33, f 34, f 35, f 36, f 37, f 38, f 39, f 40, f 41, f 42], defers := [] }) ∧ l = 0 ∧ n = 6 - d ∧ (zz = (z : Int) ∧ dd = (d : Int)) ∧ Hid (ZSt pm limit R m p w d z W w')) ?_ ?_
  · rintro n ih l a' wr ⟨d, z, W, cz, zz, dd, ⟨f, rfl⟩, rfl, rfl, ⟨rfl, rfl⟩, HS⟩
    clear ih HS0
    refine ⟨_, rfl, ?_⟩
    have hWr : RepW ad B wr := HW.out.keep (only_keeps HS.out.only hB hlt)
    have hroom := HS.out.room
    have hd6 := HS.out.d6
    have hz16 : z < 16777216 := Nat.lt_of_lt_of_le HS.out.z16 (pow_le6 hd6)
    have HC := takeOfLine_alive pm limit R { m with start := d, size := z, used := m.used + d } { p with wire := W, room := p.room - d } ad B wr HS.out.mem hWr hB HS.out.go (by unfold counts; simp [h8]) (by show m.used + d + (p.room - d) = 400; omega) (HT.out.same rfl rfl rfl rfl rfl)
    clear hWr
    go_wp2_with fail
    refine HC.mono ?_
    rintro e w1 ⟨hT1, hO1⟩
    have HO1 : Hid (Only (· = pm) w w1) := HS.out.only.trans hO1
    have hW1 : RepW ad B w1 := HW.out.keep (only_keeps HO1.out hB hlt)
    have gb := hW1.byte
    rcases hT1 with ⟨c, W', rfl, hr0, hP1, hA⟩ | ⟨tf, vf, W', rfl, hP1, hF1⟩
    · simp only [] at hr0
      unfold After at hA
      rw [feed_size (M := { m with start := d, size := z, used := m.used + d }) h8 (by show m.used + d < 400; omega)] at hA
      have HIt := isHex_n c.toNat w1 c.toNat_lt
      have HHv := fun hh => hexValue_n c.toNat w1 c.toNat_lt hh
      by_cases hx : hexN c.toNat = true ∧ d < 6
      · obtain ⟨hx1, hx2⟩ := hx
        rw [hx1] at HIt
        have HHv := HHv hx1
        have hx2' : (d : Int) < 6 := by omega
        obtain ⟨v, hv⟩ := Option.isSome_iff_exists.1 (show (hexOf c).isSome = true by rw [hexOf_some]; exact hx1)
        have hvv : hexVN c.toNat = v := by rw [← hexOf_val hx1, hv]; rfl
        have hv15 : v ≤ 15 := by
          have all : ∀ n : Fin 256, hexN n.val = true → hexVN n.val ≤ 15 := by decide +kernel
          rw [← hvv]; exact all ⟨c.toNat, c.toNat_lt⟩ hx1
        rw [hvv] at HHv
        have HS1 : Hid (ZSt pm limit R m p w (d + 1) (16 * z + v) W' w1) := by
          refine ⟨?_, by omega, by omega, by rw [Nat.pow_succ]; have := HS.out.z16; omega, ?_, HO1.out⟩
          · rw [show p.room - (d + 1) = p.room - d - 1 by omega]; exact hP1
          · rw [sizeByte, if_pos ⟨by rw [hv]; rfl, hx2⟩, hv] at hA
            exact hA.symm
        clear hP1 hA hW1 gb hO1 HC hx1 hv hvv
        go_wp2_with fail
        refine HIt.mono ?_
        rintro e w2 ⟨rfl, rfl⟩
        go_wp2_with fail
        refine HHv.mono ?_
        rintro e w3 ⟨rfl, rfl⟩
        go_wp2
        go_step3
        try simp only [Exit.jump]
        exact ⟨6 - (d + 1), by omega, d + 1, 16 * z + v, W', _, _, _, mkF rfl, rfl, rfl, ⟨by omega, by omega⟩, HS1⟩
      · by_cases hs59 : 0 < d ∧ c = 59
        · have hd0 := hs59.1
          have hd0' : (0 : Int) < (d : Int) := by omega
          have hxf : hexN c.toNat = false := by rw [hs59.2]; decide
          have t59 : (((c.toNat : Nat) : Int) == 59) = true := by rw [hs59.2]; rfl
          rw [hxf] at HIt
          have hg0 : goOn limit { m with start := d, size := z, at' := 9, used := m.used + d + 1 } W' = R := by
            rw [sizeByte, if_neg (by rw [hexOf_some]; exact hx), if_pos hs59] at hA
            exact hA.symm
          have HC2 := restOfLine_alive pm limit R { p with wire := W', room := p.room - d - 1 } ad B _ _ w1 hP1 hW1 hB (rest_plain (M := { m with start := d, size := z, at' := 9, used := m.used + d + 1 }) (th := 10) (.inr ⟨rfl, rfl⟩) (by show m.used + d + 1 + (p.room - d - 1) = 400; omega) (HT.out.same rfl rfl rfl rfl rfl)) hg0 (by show p.room - d - 1 ≤ 400; omega)
          clear hP1 hA hW1 gb hO1 HC hx hs59 hg0 hxf
          go_wp2_with fail
          refine HIt.mono ?_
          rintro e w2 ⟨rfl, rfl⟩
          go_wp2_with fail
          refine HC2.mono ?_
          rintro e w3 ⟨hE3, hO3⟩
          have HO3 : Hid (Only (· = pm) w w3) := HO1.out.trans hO3
          have HF : Hid (SizeE ad pm limit R m p (.returned (.int .i64 (z : Int))) w3) := by
            rcases hE3 with ⟨L, W3, _, hl3, hP3, hA3, _⟩ | ⟨s, tf, vf, W3, r3, _, _, hP3, hF3⟩
            · have hl3 : L.length + 2 ≤ p.room - d - 1 := hl3
              exact .inl ⟨d, z, m.used + d + 1 + L.length + 1, p.room - d - 1 - L.length - 2, W3, rfl, hz16, by omega, hP3, hA3⟩
            · exact .inr ⟨_, tf, vf, W3, r3, rfl, hP3, hF3⟩
          have hst : ∃ sx, e = .returned (.string sx) := by
            rcases hE3 with ⟨L, W3, h, _⟩ | ⟨s, tf, vf, W3, r3, h, _⟩
            · exact ⟨_, h⟩
            · exact ⟨_, h⟩
          obtain ⟨sx, rfl⟩ := hst
          clear hE3 hO3 HC2
          go_wp2
          simp only [jumps]
          go_ret
          exact ⟨HF.out, HO3.out⟩
        · by_cases hs13 : 0 < d ∧ c = 13
          · have hd0 := hs13.1
            have hd0' : (0 : Int) < (d : Int) := by omega
            have hxf : hexN c.toNat = false := by rw [hs13.2]; decide
            have t59 : (((c.toNat : Nat) : Int) == 59) = false := by rw [hs13.2]; rfl
            have t13 : (((c.toNat : Nat) : Int) == 13) = true := by rw [hs13.2]; rfl
            rw [hxf] at HIt
            have hg0 : goOn limit { m with start := d, size := z, at' := 4, thn := 10, used := m.used + d + 1 } W' = R := by
              rw [sizeByte, if_neg (by rw [hexOf_some]; exact hx), if_neg hs59, if_pos hs13] at hA
              exact hA.symm
            have HC2 := want_alive pm limit R { p with wire := W', room := p.room - d - 1 } ad B ⟨#[10]⟩ (fun _ => { m with start := d, size := z, at' := 4, thn := 10, used := m.used + d + 1 }) w1 hP1 hW1 hB (by decide) (by decide) (by intro d hd; simp at hd; rw [hd]; decide) (chain_one rfl (by unfold counts; simp) (by show m.used + d + 1 + (p.room - d - 1) = 400; omega) (HT.out.same rfl rfl rfl rfl rfl)) hg0
            clear hP1 hA hW1 gb hO1 HC hx hs59 hs13 hg0 hxf
            go_wp2_with fail
            refine HIt.mono ?_
            rintro e w2 ⟨rfl, rfl⟩
            go_wp2_with fail
            refine HC2.mono ?_
            rintro e w3 ⟨⟨rfl, hE3⟩, hO3⟩
            have HO3 : Hid (Only (· = pm) w w3) := HO1.out.trans hO3
            have HF : Hid (SizeE ad pm limit R m p (.returned (.int .i64 (z : Int))) w3) := by
              rcases hE3 with ⟨W3, dd, hl3, hP3, hd, hA3⟩ | ⟨tf, vf, W3, r3, hP3, hF3⟩
              · have hl3 : (1 : Nat) ≤ p.room - d - 1 := hl3
                have e : dd = 10 := (Option.some.inj hd).symm
                rw [e] at hA3
                exact .inl ⟨d, z, m.used + d + 1, p.room - d - 1 - 1, W3, rfl, hz16, by omega, hP3, hA3⟩
              · exact .inr ⟨_, tf, vf, W3, r3, rfl, hP3, hF3⟩
            clear hE3 hO3 HC2
            go_wp2
            simp only [jumps]
            go_ret
            exact ⟨HF.out, HO3.out⟩
          · by_cases hd0 : 0 < d
            · have hd0' : (0 : Int) < (d : Int) := by omega
              have t59 : (((c.toNat : Nat) : Int) == 59) = false := by rw [beq_eq_false_iff_ne]; intro e; exact hs59 ⟨hd0, UInt8.toNat_inj.1 (by have : (59 : UInt8).toNat = 59 := rfl; omega)⟩
              have t13 : (((c.toNat : Nat) : Int) == 13) = false := by rw [beq_eq_false_iff_ne]; intro e; exact hs13 ⟨hd0, UInt8.toNat_inj.1 (by have : (13 : UInt8).toNat = 13 := rfl; omega)⟩
              cases hxf : hexN c.toNat with
              | true =>
                have hx' : ¬ ((hexOf c).isSome = true ∧ d < 6) := by rw [hexOf_some]; exact hx
                have hd6' : ¬ (d : Int) < 6 := by intro e; exact hx ⟨hxf, by omega⟩
                rw [hxf] at HIt
                clear hxf
                have HRn : Hid (R = ⟨none, W'.ticks⟩) := by
                  show _ = _
                  rw [sizeByte, if_neg hx', if_neg hs59, if_neg hs13] at hA
                  exact hA
                have HC2 := broken_first pm limit { p with wire := W', room := p.room - d - 1 } ad B (.pointer (some (ad 6))) 182 w1 hP1 hW1
                clear hP1 hA hW1 hO1 HC hx hx' hs59 hs13
                go_wp2_with fail
                refine HIt.mono ?_
                rintro e w2 ⟨rfl, rfl⟩
                go_wp2_with fail
                refine HC2.mono ?_
                rintro e w3 ⟨rfl, ⟨err, hP3, hF3⟩, hO3⟩
                obtain ⟨f', rfl, q⟩ := hF3
                have HF : Hid (SizeE ad pm limit R m p (.returned (.int .i64 (z : Int))) w3) := .inr ⟨_, _, _, W', _, rfl, hP3, .inl ⟨⟨f', rfl, q⟩, HRn.out⟩⟩
                have HO3 : Hid (Only (· = pm) w w3) := HO1.out.trans hO3
                clear hP3 q hO3 HC2
                go_wp2
                simp only [jumps]
                go_ret
                exact ⟨HF.out, HO3.out⟩
              | false =>
                have hx' : ¬ ((hexOf c).isSome = true ∧ d < 6) := by rw [hexOf_some]; exact hx
                rw [hxf] at HIt
                clear hxf
                have HRn : Hid (R = ⟨none, W'.ticks⟩) := by
                  show _ = _
                  rw [sizeByte, if_neg hx', if_neg hs59, if_neg hs13] at hA
                  exact hA
                have HC2 := broken_first pm limit { p with wire := W', room := p.room - d - 1 } ad B (.pointer (some (ad 6))) 182 w1 hP1 hW1
                clear hP1 hA hW1 hO1 HC hx hx' hs59 hs13
                go_wp2_with fail
                refine HIt.mono ?_
                rintro e w2 ⟨rfl, rfl⟩
                go_wp2_with fail
                refine HC2.mono ?_
                rintro e w3 ⟨rfl, ⟨err, hP3, hF3⟩, hO3⟩
                obtain ⟨f', rfl, q⟩ := hF3
                have HF : Hid (SizeE ad pm limit R m p (.returned (.int .i64 (z : Int))) w3) := .inr ⟨_, _, _, W', _, rfl, hP3, .inl ⟨⟨f', rfl, q⟩, HRn.out⟩⟩
                have HO3 : Hid (Only (· = pm) w w3) := HO1.out.trans hO3
                clear hP3 q hO3 HC2
                go_wp2
                simp only [jumps]
                go_ret
                exact ⟨HF.out, HO3.out⟩
            · have hd0' : ¬ (0 : Int) < (d : Int) := by omega
              have hxf : hexN c.toNat = false := by
                cases q : hexN c.toNat with
                | true => exact absurd ⟨q, by omega⟩ hx
                | false => rfl
              have hx' : ¬ ((hexOf c).isSome = true ∧ d < 6) := by rw [hexOf_some]; exact hx
              rw [hxf] at HIt
              clear hxf
              have HRn : Hid (R = ⟨none, W'.ticks⟩) := by
                show _ = _
                rw [sizeByte, if_neg hx', if_neg hs59, if_neg hs13] at hA
                exact hA
              have HC2 := broken_first pm limit { p with wire := W', room := p.room - d - 1 } ad B (.pointer (some (ad 6))) 182 w1 hP1 hW1
              clear hP1 hA hW1 hO1 HC hx hx' hs59 hs13
              go_wp2_with fail
              refine HIt.mono ?_
              rintro e w2 ⟨rfl, rfl⟩
              go_wp2_with fail
              refine HC2.mono ?_
              rintro e w3 ⟨rfl, ⟨err, hP3, hF3⟩, hO3⟩
              obtain ⟨f', rfl, q⟩ := hF3
              have HF : Hid (SizeE ad pm limit R m p (.returned (.int .i64 (z : Int))) w3) := .inr ⟨_, _, _, W', _, rfl, hP3, .inl ⟨⟨f', rfl, q⟩, HRn.out⟩⟩
              have HO3 : Hid (Only (· = pm) w w3) := HO1.out.trans hO3
              clear hP3 q hO3 HC2
              go_wp2
              simp only [jumps]
              go_ret
              exact ⟨HF.out, HO3.out⟩
    · have HIt := isHex_n 0 w1 (by decide)
      rw [show hexN 0 = false by decide] at HIt
      have HC2 := broken_later pm limit { p with wire := W', room := p.room - d } ad B tf vf (.iface 182 (.pointer (some (ad 6)))) w1 hP1 hW1
      by_cases hd0 : 0 < d
      · have hd0' : (0 : Int) < (d : Int) := by omega
        have HF : Hid (SizeE ad pm limit R m p (.returned (.int .i64 (z : Int))) w1) := .inr ⟨_, tf, vf, W', _, rfl, hP1, hF1⟩
        clear hP1 hF1 hW1 hO1 HC
        go_wp2_with fail
        refine HIt.mono ?_
        rintro e w2 ⟨rfl, rfl⟩
        go_wp2_with fail
        refine HC2.mono ?_
        rintro e w3 ⟨rfl, rfl⟩
        go_wp2
        simp only [jumps]
        go_ret
        exact ⟨HF.out, HO1.out⟩
      · have hd0' : ¬ (0 : Int) < (d : Int) := by omega
        have HF : Hid (SizeE ad pm limit R m p (.returned (.int .i64 (z : Int))) w1) := .inr ⟨_, tf, vf, W', _, rfl, hP1, hF1⟩
        clear hP1 hF1 hW1 hO1 HC
        go_wp2_with fail
        refine HIt.mono ?_
        rintro e w2 ⟨rfl, rfl⟩
        go_wp2_with fail
        refine HC2.mono ?_
        rintro e w3 ⟨rfl, rfl⟩
        go_wp2
        simp only [jumps]
        go_ret
        exact ⟨HF.out, HO1.out⟩
  · intro all
    go_wp2_with fail
    go_step3
    rename_i hKK
    exact hKK _ _ (fall2 (all 6 0 _ _ ⟨0, 0, p.wire, _, _, _, mkF rfl, rfl, rfl, ⟨rfl, rfl⟩, HS0⟩) rfl fun k l' a' w' _ hJ => ⟨k, hJ⟩)
end Go.Proofs.YtmodongnganbfaaGreatDoor.Rep
/- Replies: the program's restOfLine behind a fault. -/
namespace Go.Proofs.YtmodongnganbfaaGreatDoor.Rep
open Go.RowKit Go.Proofs.YtmodongnganbfaaGreatDoor Go.Proofs.YtmodongnganbfaaGreatDoor.Sha Go.Proofs.YtmodongnganbfaaGreatDoor.Inf
set_option maxHeartbeats 4000000 in
set_option maxRecDepth 100000 in
theorem restOfLine_dead (pm limit : Nat) (p : Ps) (ad : Nat → Addr) (B : Nat) (tf : TypeId) (vf : Value) (w : World) (h : PM pm limit p (.iface tf vf) w) (hW : RepW ad B w) :
    Calls Tryz.prog 57 #[.pointer (some ⟨pm, 0, none⟩)] w fun e w' => (∃ sx, e = .returned (.string sx)) ∧ w' = w := by
  have HC := takeOfLine_dead pm limit p tf vf w h
  have HIt : Calls Tryz.prog 73 #[.int .u8 0] w fun e w' => e = .returned (.bool false) ∧ w' = w := pisText_walk 0 w
  have HC2 := broken_later pm limit p ad B tf vf (.iface 182 (.pointer (some (ad 6)))) w h hW
  have gb := hW.byte
  clear h hW
  go_enter Tryz.func57, Tryz.ntmps57
  go_wp2
  refine scope_fall (fun n l a' w' => (∃ f : Nat → Value, a' = { tmps := #[.pointer (some ⟨pm, 0, none⟩), undef, .string ⟨#[]⟩, .int .u8 0, .slice none 0 0, f 5, f 6, f 7, f 8, f 9, f 10, f 11, f 12, f 13, f 14, f 15, f 16, f 17, f 18, f 19, f 20, f 21], defers := [] }) ∧ l = 0 ∧ n = 0 ∧ w' = w) ?_ ?_
  · rintro n ih l a' wr ⟨⟨f, rfl⟩, rfl, rfl, rfl⟩
    clear ih
    refine ⟨_, rfl, ?_⟩
    go_wp2_with fail
    refine HC.mono ?_
    rintro e w1 ⟨rfl, rfl⟩
    go_wp2_with fail
    refine HIt.mono ?_
    rintro e w2 ⟨rfl, rfl⟩
    go_wp2_with fail
    refine HC2.mono ?_
    rintro e w3 ⟨rfl, rfl⟩
    go_wp2
    simp only [jumps]
    go_ret
    exact ⟨⟨_, rfl⟩, rfl⟩
  · intro all
    go_wp2_with fail
    go_step3
    rename_i hKK
    exact hKK _ _ (fall2 (all 0 0 _ _ ⟨mkF rfl, rfl, rfl, rfl⟩) rfl fun k l' a' w' _ hJ => ⟨k, hJ⟩)
end Go.Proofs.YtmodongnganbfaaGreatDoor.Rep
