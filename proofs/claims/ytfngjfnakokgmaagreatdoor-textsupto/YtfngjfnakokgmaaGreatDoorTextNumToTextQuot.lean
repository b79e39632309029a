/- The reader takes a number. -/
import Derived.Test.YtfngjfnakokgmaaGreatDoorTextBytesToTextWord
import Derived.Test.YtfngjfnakokgmaaGreatDoorBookAToTextStep
namespace Go.Proofs.YtfngjfnakokgmaaGreatDoor.Txt
open Go.RowKit Go.Proofs.YtfngjfnakokgmaaGreatDoor.Sha
section
variable {rb : Nat} {s : ByteArray} {a : Nat} {bad : Bool} {w : World}
theorem seen_digit (h : isDigit (seen s a bad) = true) : bad = false ∧ a < s.size ∧ ∃ c, isDigit c = true ∧ s.data.toList.drop a = c :: s.data.toList.drop (a + 1) := by
  have hc : seen s a bad ≠ 0 := by intro e; rw [e] at h; revert h; decide
  obtain ⟨h1, h2, h3⟩ := seen_drop (s := s) (a := a) (bad := bad) _ hc rfl
  exact ⟨h1, h2, _, h, h3⟩
theorem digits_stay (h : isDigit (seen s a false) = false) : (s.data.toList.drop a).takeWhile isDigit = [] ∧ (s.data.toList.drop a).dropWhile isDigit = s.data.toList.drop a := by
  rcases Nat.lt_or_ge a s.size with hl | hl
  · have hl' : a < s.data.toList.length := by simpa using hl
    have e : seen s a false = s.data.toList[a] := by
      simp only [seen, List.getD_eq_getElem?_getD, List.getElem?_eq_getElem hl']; rfl
    rw [e] at h
    rw [List.drop_eq_getElem_cons hl', List.takeWhile_cons, List.dropWhile_cons, h]
    exact ⟨rfl, rfl⟩
  · have e : s.data.toList.drop a = [] := List.drop_eq_nil_of_le (by simpa using hl)
    rw [e]; exact ⟨rfl, rfl⟩
/-- From begin to p there are digits, and p is behind the last of them as far as it is seen. -/
structure Digs (s : ByteArray) (bad : Bool) (b p : Nat) : Prop where
  le : b ≤ p
  lt : p ≤ s.size
  was : bad = true → p = b
  take : bad = false → (s.data.toList.drop b).takeWhile isDigit = (s.data.toList.drop b).take (p - b) ++ (s.data.toList.drop p).takeWhile isDigit
  drop : bad = false → (s.data.toList.drop b).dropWhile isDigit = (s.data.toList.drop p).dropWhile isDigit
theorem Digs.start (h : a ≤ s.size) : Digs s bad a a := ⟨Nat.le_refl _, h, fun _ => rfl, fun _ => by simp, fun _ => rfl⟩
theorem Digs.more {b p : Nat} (h : Digs s bad b p) (hd : isDigit (seen s p bad) = true) : Digs s bad b (p + 1) := by
  obtain ⟨h1, h2, c, h3, h4⟩ := seen_digit hd
  have hle := h.le
  refine ⟨by omega, h2, fun hb => (by rw [hb] at h1; cases h1), fun hb => ?_, fun hb => ?_⟩
  · rw [h.take hb, h4, List.takeWhile_cons, if_pos h3]
    have e : p + 1 - b = p - b + 1 := by omega
    have e2 : (s.data.toList.drop b)[p - b]? = some c := by
      rw [List.getElem?_drop, show b + (p - b) = p by omega]
      have := congrArg (fun l : Bytes => l[0]?) h4
      simpa using this
    rw [e, List.take_add_one, e2]; simp
  · rw [h.drop hb, h4, List.dropWhile_cons, if_pos h3]
theorem number_tail_yes {p0 p : Nat} (hU : bad = false → s.data.toList.drop p0 = unsigned (s.data.toList.drop a)) (h : Digs s bad p0 p) (hn : isDigit (seen s p bad) = false) (hb : bad = false) : (unsigned (s.data.toList.drop a)).takeWhile isDigit = (s.data.toList.drop p0).take (p - p0) ∧ (unsigned (s.data.toList.drop a)).dropWhile isDigit = s.data.toList.drop p ∧ ((s.data.toList.drop p0).take (p - p0)).length = p - p0 := by
  have h1 := h.take hb
  have h2 := h.drop hb
  have hlt := h.lt
  have hle := h.le
  subst hb
  obtain ⟨e1, e2⟩ := digits_stay hn
  rw [hU rfl, e1, List.append_nil] at h1
  rw [hU rfl, e2] at h2
  refine ⟨by rw [h1, hU rfl], h2, ?_⟩
  have e : s.data.toList.length = s.size := by simp
  rw [List.length_take, List.length_drop, e]; omega
theorem number_res {p0 p : Nat} (hU : bad = false → s.data.toList.drop p0 = unsigned (s.data.toList.drop a)) (h : Digs s bad p0 p) (hn : isDigit (seen s p bad) = false) (hb : bad = false) : number (s.data.toList.drop a) = if p - p0 != 0 && decide (p - p0 ≤ 9) && !(decide (1 < p - p0) && ((s.data.toList.drop p0).take (p - p0)).head? == some 48) then some (s.data.toList.drop p) else none := by
  obtain ⟨e1, e2, e3⟩ := number_tail_yes hU h hn hb
  unfold number fine
  rw [e1, e2, e3]
theorem head_take {p0 d : Nat} (hl : p0 < s.size) (hd : 0 < d) : ((s.data.toList.drop p0).take d).head? = some s[p0] := by
  have hl' : p0 < s.data.toList.length := by simpa using hl
  rw [List.drop_eq_getElem_cons hl']
  obtain ⟨e, rfl⟩ : ∃ e, d = e + 1 := ⟨d - 1, by omega⟩
  rw [List.take_succ_cons, List.head?_cons]
  simp [ByteArray.getElem_eq_getElem_data]
theorem went_bad {p : Nat} {res : Option Bytes} {w5 : World} (h : RD rb s p true w5) (k : Only (· = rb) w w5) (hr : bad = false → res = none) : Went rb s bad res p true w w5 :=
  ⟨h, k, fun _ => rfl, fun r hb e => (by rw [hr hb] at e; cases e), fun _ _ => rfl⟩
theorem went_good {p : Nat} {res : Option Bytes} {w5 : World} (h : RD rb s p bad w5) (k : Only (· = rb) w w5) (hb : bad = false) (hr : res = some (s.data.toList.drop p)) : Went rb s bad res p false w w5 := by
  subst hb
  exact ⟨h, k, fun e => e, fun r _ e => ⟨rfl, Option.some.inj (hr.symm.trans e)⟩, fun _ e => by rw [hr] at e; cases e⟩
theorem number_went (h : RD rb s a bad w) (hW : TxtW w) (hg : 29 ≤ rb) (hs : s.size ≤ 140737488355328) :
    Calls Tryz.prog 119 #[.pointer (some ⟨rb, 0, none⟩)] w fun e w' => e = .returned (.tuple #[]) ∧ ∃ a' bd, Went rb s bad (number (s.data.toList.drop a)) a' bd w w' := by
  have HS : Hid (∀ k, k = rb → 29 ≤ k) := fun k hk => by rw [hk]; exact hg
  have HT : Hid (TxtW w) := hW
  have HH : Hid (RD rb s a bad w) := h
  clear hW h
  go_enter Tryz.func119, Tryz.ntmps119
  go_wp2_with fail
  refine (see_any HH.out).mono ?_
  rintro e w1 ⟨rfl, h1, k1⟩
  have HH1 : Hid (RD rb s a bad w1) := h1
  have HK1 : Hid (Only (· = rb) w w1) := k1
  clear h1 k1
  by_cases hm : seen s a bad = 45
  · rw [hm]
    have c1 := HH1.out.c1
    have f1 := HH1.out.fro 1
    obtain ⟨hb0, hl0, hd0⟩ := seen_drop 45 (by decide) hm
    have ha : a ≤ 140737488355328 := by omega
    obtain ⟨w2, HW2⟩ : ∃ w2, Hid (w1.setCell ⟨rb, 1, none⟩ (.int .i64 ((a : Int) + 1)) = w2) := ⟨_, rfl⟩
    have HH2 : Hid (RD rb s (a + 1) bad w2) := by rw [← HW2.out]; exact HH1.out.setAt ((a : Int) + 1) (a + 1) (by omega) hl0
    have HK2 : Hid (Only (· = rb) w w2) := by rw [← HW2.out]; exact HK1.out.trans (Only.set _ _ _ rfl)
    have HU : Hid (bad = false → s.data.toList.drop (a + 1) = unsigned (s.data.toList.drop a)) := fun _ => by rw [hd0, unsigned, if_pos rfl]
    clear hd0 hb0 hm hl0
    obtain ⟨p0, HP0⟩ : ∃ p0, Hid (a + 1 = p0) := ⟨_, rfl⟩
    rw [HP0.out] at HH2 HU
    go_wp2_with fail
    have ha1 : (a : Int) + 1 = (p0 : Int) := by have := HP0.out; omega
    rw [HW2.out, ha1]
    clear ha1
    clear c1 f1
    have c1 := HH2.out.c1
    have hp0 := HH2.out.le
    go_wp2
    go_loopw [] (fun wr => ∃ p : Nat, RD rb s p bad wr ∧ Only (· = rb) w wr ∧ Hid (Digs s bad p0 p)) (fun wr => s.size - atOf rb wr)
    case atStart => exact ⟨p0, HH2.out, HK2.out, Digs.start hp0⟩
    case round =>
      obtain ⟨p, hM, hK, HI⟩ := hrel
      clear c1
      go_wp2_with fail
      refine (see_any hM).mono ?_
      rintro e w3 ⟨rfl, h3, k3⟩
      have HH3 : Hid (RD rb s p bad w3) := h3
      have HA : Hid (atOf rb wr = p) := hM.atOf
      have HK3 : Hid (Only (· = rb) w w3) := hK.trans k3
      clear h3 k3 hM hK
      go_wp2_with fail
      refine (isDigit_B (seen s p bad) w3).mono ?_
      rintro e w4 ⟨rfl, rfl⟩
      cases hb : isDigit (seen s p bad) with
      | true =>
        have HL : Hid (p < s.size) := (seen_digit hb).2.1
        have HD : Hid (Digs s bad p0 (p + 1)) := HI.out.more hb
        have hp : p ≤ 140737488355328 := by have := HL.out; omega
        clear hb
        have c1 := HH3.out.c1
        have f1 := HH3.out.fro 1
        have HH4 : Hid (RD rb s (p + 1) bad (w4.setCell ⟨rb, 1, none⟩ (.int .i64 ((p : Int) + 1)))) := HH3.out.setAt ((p : Int) + 1) (p + 1) (by omega) HL.out
        have HK4 : Hid (Only (· = rb) w (w4.setCell ⟨rb, 1, none⟩ (.int .i64 ((p : Int) + 1)))) := HK3.out.trans (Only.set _ _ _ rfl)
        go_wp2
        go_roundw
        case rel => exact ⟨p + 1, HH4.out, HK4.out, HD.out⟩
        case measure =>
          have e1 := HH4.out.atOf
          have e2 := HA.out
          have e3 := HL.out
          omega
      | false =>
        have HN : Hid (isDigit (seen s p bad) = false) := hb
        have hpl := HI.out.lt
        have hpg := HI.out.le
        have HT4 : Hid (TxtW w4) := HT.out.only HK3.out HS.out
        clear hb
        have c1 := HH3.out.c1
        have c0 := HH3.out.c0
        obtain ⟨x, hx⟩ := HT4.out.numb
        by_cases hz : p = p0
        · have hz' : ((p : Int) - (p0 : Int) == 0) = true := by simp; omega
          have HZ : Hid (p = p0) := hz
          clear hz
          go_wp2_with fail
          refine (refuse_walk HH3.out HT4.out hg).mono ?_
          rintro e w5 ⟨rfl, h5, k5⟩
          have HF : Hid (Went rb s bad (number (s.data.toList.drop a)) p true w w5) := went_bad h5 (HK3.out.trans k5) fun hb => by
            rw [number_res HU.out HI.out HN.out hb, HZ.out]
            simp
          clear h5 k5
          go_wp2
          (try simp only [Exit.inBlock, Exit.then])
          refine bodyPost_ret (results_none rfl _ _ _) rfl ?_
          first | exact ⟨rfl, p, true, HF.out⟩ | exact ⟨rfl, p, .inl HF.out⟩ | exact ⟨rfl, p, .inr HF.out⟩
        · have hz' : ((p : Int) - (p0 : Int) == 0) = false := by simp; omega
          have HZ : Hid (p0 < p) := by show _ < _; omega
          have HB : Hid (bad = false) := by
            show _ = _
            cases hb : bad with
            | false => rfl
            | true => exact absurd (HI.out.was hb) hz
          have hl0 : p0 < s.size := by omega
          clear hz
          by_cases h9 : 9 < p - p0
          · have h9' : 9 < (p : Int) - (p0 : Int) := by omega
            go_wp2_with fail
            refine (fail_walk x HH3.out).mono ?_
            rintro e w5 ⟨rfl, h5, k5⟩
            have HF : Hid (Went rb s bad (number (s.data.toList.drop a)) p true w w5) := went_bad h5 (HK3.out.trans k5) fun hb => by
              rw [number_res HU.out HI.out HN.out hb]
              rw [if_neg]; simp; omega
            clear h5 k5
            go_wp2
            go_end0
            first | exact ⟨rfl, p, true, HF.out⟩ | exact ⟨rfl, p, .inl HF.out⟩ | exact ⟨rfl, p, .inr HF.out⟩
          · have h9' : ¬ 9 < (p : Int) - (p0 : Int) := by omega
            by_cases h1 : 1 < p - p0
            · have h1' : 1 < (p : Int) - (p0 : Int) := by omega
              have HD := head_take (s := s) (p0 := p0) (d := p - p0) hl0 (by omega)
              by_cases h0 : s[p0] = 48
              · have h0' : ((s[p0].toNat : Int) == 48) = true := by rw [h0]; rfl
                have HD : Hid (_ = _) := HD
                have H0 : Hid (s[p0] = 48) := h0
                have HA1 : Hid (1 < p - p0) := h1
                clear h0 h1 h9
                go_wp2_with fail
                refine (fail_walk x HH3.out).mono ?_
                rintro e w5 ⟨rfl, h5, k5⟩
                have HF : Hid (Went rb s bad (number (s.data.toList.drop a)) p true w w5) := went_bad h5 (HK3.out.trans k5) fun hb => by
                  rw [number_res HU.out HI.out HN.out hb]
                  rw [HD.out, H0.out, if_neg]; simp; intro _ _; have := HA1.out; omega
                clear h5 k5
                go_wp2
                go_end0
                first | exact ⟨rfl, p, true, HF.out⟩ | exact ⟨rfl, p, .inl HF.out⟩ | exact ⟨rfl, p, .inr HF.out⟩
              · have h0' : ((s[p0].toNat : Int) == 48) = false := by
                  simp only [beq_eq_false_iff_ne, ne_eq]
                  intro e
                  exact h0 (UInt8.toNat_inj.1 (by have e2 : (48 : UInt8).toNat = 48 := rfl; omega))
                have HD : Hid (_ = _) := HD
                have H0 : Hid (s[p0] ≠ 48) := h0
                have HA1 : Hid (1 < p - p0 ∧ ¬ 9 < p - p0) := ⟨h1, h9⟩
                clear h0 h1 h9
                have HF : Hid (Went rb s bad (number (s.data.toList.drop a)) p false w w4) := went_good HH3.out HK3.out HB.out (by
                  rw [number_res HU.out HI.out HN.out HB.out]
                  have h1 := HA1.out; have h0 := H0.out
                  rw [HD.out, if_pos]; simp [h0]; omega)
                go_wp2
                go_end0
                first | exact ⟨rfl, p, false, HF.out⟩ | exact ⟨rfl, p, .inl HF.out⟩ | exact ⟨rfl, p, .inr HF.out⟩
            · have h1' : ¬ 1 < (p : Int) - (p0 : Int) := by omega
              have HA1 : Hid (p - p0 = 1) := by show _ = _; have := HZ.out; omega
              clear h1 h9
              have HF : Hid (Went rb s bad (number (s.data.toList.drop a)) p false w w4) := went_good HH3.out HK3.out HB.out (by
                rw [number_res HU.out HI.out HN.out HB.out]
                rw [HA1.out]; rfl)
              go_wp2
              go_end0
              first | exact ⟨rfl, p, false, HF.out⟩ | exact ⟨rfl, p, .inl HF.out⟩ | exact ⟨rfl, p, .inr HF.out⟩
  · have hne : (((seen s a bad).toNat : Int) == 45) = false := by
      simp only [beq_eq_false_iff_ne, ne_eq]
      intro e
      exact hm (UInt8.toNat_inj.1 (by have e2 : (45 : UInt8).toNat = 45 := rfl; omega))
    obtain ⟨p0, HP0⟩ : ∃ p0, Hid (a = p0) := ⟨_, rfl⟩
    have HU : Hid (bad = false → s.data.toList.drop p0 = unsigned (s.data.toList.drop a)) := fun hb => by
      rw [← HP0.out]
      subst hb
      rcases Nat.lt_or_ge a s.data.toList.length with hl | hl
      · rw [List.drop_eq_getElem_cons hl, unsigned, if_neg]
        intro e
        apply hm
        simp only [seen, List.getD_eq_getElem?_getD, List.getElem?_eq_getElem hl]
        exact e
      · rw [List.drop_eq_nil_of_le hl]; rfl
    have HH2 : Hid (RD rb s p0 bad w1) := by rw [← HP0.out]; exact HH1.out
    have HK2 := HK1
    clear hm
    generalize (seen s a bad) = u at hne
    have c1 := HH2.out.c1
    have hp0 := HH2.out.le
    go_wp2
    go_loopw [] (fun wr => ∃ p : Nat, RD rb s p bad wr ∧ Only (· = rb) w wr ∧ Hid (Digs s bad p0 p)) (fun wr => s.size - atOf rb wr)
    case atStart => exact ⟨p0, HH2.out, HK2.out, Digs.start hp0⟩
    case round =>
      obtain ⟨p, hM, hK, HI⟩ := hrel
      clear c1
      go_wp2_with fail
      refine (see_any hM).mono ?_
      rintro e w3 ⟨rfl, h3, k3⟩
      have HH3 : Hid (RD rb s p bad w3) := h3
      have HA : Hid (atOf rb wr = p) := hM.atOf
      have HK3 : Hid (Only (· = rb) w w3) := hK.trans k3
      clear h3 k3 hM hK
      go_wp2_with fail
      refine (isDigit_B (seen s p bad) w3).mono ?_
      rintro e w4 ⟨rfl, rfl⟩
      cases hb : isDigit (seen s p bad) with
      | true =>
        have HL : Hid (p < s.size) := (seen_digit hb).2.1
        have HD : Hid (Digs s bad p0 (p + 1)) := HI.out.more hb
        have hp : p ≤ 140737488355328 := by have := HL.out; omega
        clear hb
        have c1 := HH3.out.c1
        have f1 := HH3.out.fro 1
        have HH4 : Hid (RD rb s (p + 1) bad (w4.setCell ⟨rb, 1, none⟩ (.int .i64 ((p : Int) + 1)))) := HH3.out.setAt ((p : Int) + 1) (p + 1) (by omega) HL.out
        have HK4 : Hid (Only (· = rb) w (w4.setCell ⟨rb, 1, none⟩ (.int .i64 ((p : Int) + 1)))) := HK3.out.trans (Only.set _ _ _ rfl)
        go_wp2
        go_roundw
        case rel => exact ⟨p + 1, HH4.out, HK4.out, HD.out⟩
        case measure =>
          have e1 := HH4.out.atOf
          have e2 := HA.out
          have e3 := HL.out
          omega
      | false =>
        have HN : Hid (isDigit (seen s p bad) = false) := hb
        have hpl := HI.out.lt
        have hpg := HI.out.le
        have HT4 : Hid (TxtW w4) := HT.out.only HK3.out HS.out
        clear hb
        have c1 := HH3.out.c1
        have c0 := HH3.out.c0
        obtain ⟨x, hx⟩ := HT4.out.numb
        by_cases hz : p = p0
        · have hz' : ((p : Int) - (p0 : Int) == 0) = true := by simp; omega
          have HZ : Hid (p = p0) := hz
          clear hz
          go_wp2_with fail
          refine (refuse_walk HH3.out HT4.out hg).mono ?_
          rintro e w5 ⟨rfl, h5, k5⟩
          have HF : Hid (Went rb s bad (number (s.data.toList.drop a)) p true w w5) := went_bad h5 (HK3.out.trans k5) fun hb => by
            rw [number_res HU.out HI.out HN.out hb, HZ.out]
            simp
          clear h5 k5
          go_wp2
          (try simp only [Exit.inBlock, Exit.then])
          refine bodyPost_ret (results_none rfl _ _ _) rfl ?_
          first | exact ⟨rfl, p, true, HF.out⟩ | exact ⟨rfl, p, .inl HF.out⟩ | exact ⟨rfl, p, .inr HF.out⟩
        · have hz' : ((p : Int) - (p0 : Int) == 0) = false := by simp; omega
          have HZ : Hid (p0 < p) := by show _ < _; omega
          have HB : Hid (bad = false) := by
            show _ = _
            cases hb : bad with
            | false => rfl
            | true => exact absurd (HI.out.was hb) hz
          have hl0 : p0 < s.size := by omega
          clear hz
          by_cases h9 : 9 < p - p0
          · have h9' : 9 < (p : Int) - (p0 : Int) := by omega
            go_wp2_with fail
            refine (fail_walk x HH3.out).mono ?_
            rintro e w5 ⟨rfl, h5, k5⟩
            have HF : Hid (Went rb s bad (number (s.data.toList.drop a)) p true w w5) := went_bad h5 (HK3.out.trans k5) fun hb => by
              rw [number_res HU.out HI.out HN.out hb]
              rw [if_neg]; simp; omega
            clear h5 k5
            go_wp2
            go_end0
            first | exact ⟨rfl, p, true, HF.out⟩ | exact ⟨rfl, p, .inl HF.out⟩ | exact ⟨rfl, p, .inr HF.out⟩
          · have h9' : ¬ 9 < (p : Int) - (p0 : Int) := by omega
            by_cases h1 : 1 < p - p0
            · have h1' : 1 < (p : Int) - (p0 : Int) := by omega
              have HD := head_take (s := s) (p0 := p0) (d := p - p0) hl0 (by omega)
              by_cases h0 : s[p0] = 48
              · have h0' : ((s[p0].toNat : Int) == 48) = true := by rw [h0]; rfl
                have HD : Hid (_ = _) := HD
                have H0 : Hid (s[p0] = 48) := h0
                have HA1 : Hid (1 < p - p0) := h1
                clear h0 h1 h9
                go_wp2_with fail
                refine (fail_walk x HH3.out).mono ?_
                rintro e w5 ⟨rfl, h5, k5⟩
                have HF : Hid (Went rb s bad (number (s.data.toList.drop a)) p true w w5) := went_bad h5 (HK3.out.trans k5) fun hb => by
                  rw [number_res HU.out HI.out HN.out hb]
                  rw [HD.out, H0.out, if_neg]; simp; intro _ _; have := HA1.out; omega
                clear h5 k5
                go_wp2
                go_end0
                first | exact ⟨rfl, p, true, HF.out⟩ | exact ⟨rfl, p, .inl HF.out⟩ | exact ⟨rfl, p, .inr HF.out⟩
              · have h0' : ((s[p0].toNat : Int) == 48) = false := by
                  simp only [beq_eq_false_iff_ne, ne_eq]
                  intro e
                  exact h0 (UInt8.toNat_inj.1 (by have e2 : (48 : UInt8).toNat = 48 := rfl; omega))
                have HD : Hid (_ = _) := HD
                have H0 : Hid (s[p0] ≠ 48) := h0
                have HA1 : Hid (1 < p - p0 ∧ ¬ 9 < p - p0) := ⟨h1, h9⟩
                clear h0 h1 h9
                have HF : Hid (Went rb s bad (number (s.data.toList.drop a)) p false w w4) := went_good HH3.out HK3.out HB.out (by
                  rw [number_res HU.out HI.out HN.out HB.out]
                  have h1 := HA1.out; have h0 := H0.out
                  rw [HD.out, if_pos]; simp [h0]; omega)
                go_wp2
                go_end0
                first | exact ⟨rfl, p, false, HF.out⟩ | exact ⟨rfl, p, .inl HF.out⟩ | exact ⟨rfl, p, .inr HF.out⟩
            · have h1' : ¬ 1 < (p : Int) - (p0 : Int) := by omega
              have HA1 : Hid (p - p0 = 1) := by show _ = _; have := HZ.out; omega
              clear h1 h9
              have HF : Hid (Went rb s bad (number (s.data.toList.drop a)) p false w w4) := went_good HH3.out HK3.out HB.out (by
                rw [number_res HU.out HI.out HN.out HB.out]
                rw [HA1.out]; rfl)
              go_wp2
              go_end0
              first | exact ⟨rfl, p, false, HF.out⟩ | exact ⟨rfl, p, .inl HF.out⟩ | exact ⟨rfl, p, .inr HF.out⟩
end
end Go.Proofs.YtfngjfnakokgmaaGreatDoor.Txt
/- The reader takes a character of a string. -/
namespace Go.Proofs.YtfngjfnakokgmaaGreatDoor.Txt
open Go.RowKit Go.Proofs.YtfngjfnakokgmaaGreatDoor.Sha
section
variable {rb : Nat} {s : ByteArray} {a : Nat} {bad : Bool} {w : World}
theorem char_plain (c : UInt8) (h : RD rb s a bad w) (hs : s.size ≤ 140737488355328) (hc : c ≠ 0) (hy : seen s a bad = c) (h92 : c ≠ 92) :
    Calls Tryz.prog 117 #[.pointer (some ⟨rb, 0, none⟩)] w fun e w' => e = .returned (.int .u8 (c.toNat : Int)) ∧ RD rb s (a + 1) bad w' ∧ Only (· = rb) w w' := by
  have HL : Hid (a < s.size) := (seen_drop c hc hy).2.1
  have HY : Hid (seen s a bad = c) := hy
  have HH : Hid (RD rb s a bad w) := h
  have ha : a ≤ 140737488355328 := by have := HL.out; omega
  have hne : ((c.toNat : Int) != 92) = true := by
    simp only [bne_iff_ne, ne_eq]
    intro e
    exact h92 (UInt8.toNat_inj.1 (by have e2 : (92 : UInt8).toNat = 92 := rfl; omega))
  clear hy h h92
  go_enter Tryz.func117, Tryz.ntmps117
  go_wp2_with fail
  refine (see_any HH.out).mono ?_
  rintro e w1 ⟨rfl, h1, k1⟩
  rw [HY.out]
  have c1 := h1.c1
  have f1 := h1.fro 1
  have HH2 : Hid (RD rb s (a + 1) bad (w1.setCell ⟨rb, 1, none⟩ (.int .i64 ((a : Int) + 1)))) := h1.setAt ((a : Int) + 1) (a + 1) (by omega) HL.out
  have HK2 : Hid (Only (· = rb) w (w1.setCell ⟨rb, 1, none⟩ (.int .i64 ((a : Int) + 1)))) := k1.trans (Only.set _ _ _ rfl)
  clear h1 k1
  go_wp2
  go_ret
  exact ⟨rfl, HH2.out, HK2.out⟩
/-- Behind a backslash: what the byte means is taken, or there is a fault. -/
theorem char_back (h : RD rb s a bad w) (hW : TxtW w) (hg : 29 ≤ rb) (hs : s.size ≤ 140737488355328) (hy : seen s a bad = 92) :
    Calls Tryz.prog 117 #[.pointer (some ⟨rb, 0, none⟩)] w fun e w' => e = .returned (.int .u8 ((meant (seen s (a + 1) bad)).toNat : Int)) ∧ Only (· = rb) w w' ∧ (meant (seen s (a + 1) bad) = 0 → RD rb s (a + 1) true w') ∧ (meant (seen s (a + 1) bad) ≠ 0 → RD rb s (a + 2) bad w') := by
  have HL : Hid (a < s.size) := (seen_drop 92 (by decide) hy).2.1
  have HY : Hid (seen s a bad = 92) := hy
  have HH : Hid (RD rb s a bad w) := h
  have HT : Hid (TxtW w) := hW
  have HS : Hid (∀ k, k = rb → 29 ≤ k) := fun k hk => by rw [hk]; exact hg
  have ha : a ≤ 140737488355328 := by have := HL.out; omega
  clear hy h hW
  go_enter Tryz.func117, Tryz.ntmps117
  go_wp2_with fail
  refine (see_any HH.out).mono ?_
  rintro e w1 ⟨rfl, h1, k1⟩
  rw [HY.out]
  have c1 := h1.c1
  have f1 := h1.fro 1
  obtain ⟨w2, HW2⟩ : ∃ w2, Hid (w1.setCell ⟨rb, 1, none⟩ (.int .i64 ((a : Int) + 1)) = w2) := ⟨_, rfl⟩
  have HH2 : Hid (RD rb s (a + 1) bad w2) := by rw [← HW2.out]; exact h1.setAt ((a : Int) + 1) (a + 1) (by omega) HL.out
  have HK2 : Hid (Only (· = rb) w w2) := by rw [← HW2.out]; exact k1.trans (Only.set _ _ _ rfl)
  clear h1 k1
  go_wp2_with fail
  rw [HW2.out]
  refine (see_any HH2.out).mono ?_
  rintro e w3 ⟨rfl, h3, k3⟩
  have HH3 : Hid (RD rb s (a + 1) bad w3) := h3
  have HK3 : Hid (Only (· = rb) w w3) := HK2.out.trans k3
  have HT3 : Hid (TxtW w3) := HT.out.only HK3.out HS.out
  clear h3 k3 c1 f1
  go_wp2_with fail
  refine (escaped_B (seen s (a + 1) bad) w3).mono ?_
  rintro e w4 ⟨rfl, rfl⟩
  have HD : Hid (meant (seen s (a + 1) bad) ≠ 0 → a + 1 < s.size) := fun hm => (seen_drop (s := s) (a := a + 1) (bad := bad) _ (fun e => hm (by rw [e]; decide)) rfl).2.1
  obtain ⟨m, HM⟩ : ∃ m, Hid (meant (seen s (a + 1) bad) = m) := ⟨_, rfl⟩
  rw [HM.out] at HD ⊢
  by_cases hm : m = 0
  · subst hm
    go_wp2_with fail
    refine (refuse_walk HH3.out HT3.out hg).mono ?_
    rintro e w5 ⟨rfl, h5, k5⟩
    have HH5 : Hid (RD rb s (a + 1) true w5) := h5
    have HK5 : Hid (Only (· = rb) w w5) := HK3.out.trans k5
    clear h5 k5
    go_wp2
    go_ret
    rw [HM.out]
    exact ⟨rfl, HK5.out, fun _ => HH5.out, fun e => absurd rfl e⟩
  · have hne : ((m.toNat : Int) == 0) = false := by
      simp only [beq_eq_false_iff_ne, ne_eq]
      intro e
      exact hm (UInt8.toNat_inj.1 (by have e2 : (0 : UInt8).toNat = 0 := rfl; omega))
    have HL2 : Hid (a + 1 < s.size) := HD.out hm
    have HN : Hid (m ≠ 0) := hm
    clear hm HD
    have c1 := HH3.out.c1
    have f1 := HH3.out.fro 1
    have hz1 : (((a + 1 : Nat) : Int)) ≤ 140737488355328 := by have := HL2.out; omega
    obtain ⟨b, HB⟩ : ∃ b, Hid (a + 1 = b) := ⟨_, rfl⟩
    have HH4 : Hid (RD rb s (b + 1) bad (w4.setCell ⟨rb, 1, none⟩ (.int .i64 ((b : Int) + 1)))) := (HB.out ▸ HH3.out).setAt ((b : Int) + 1) (b + 1) (by omega) (by rw [← HB.out]; exact HL2.out)
    have HK4 : Hid (Only (· = rb) w (w4.setCell ⟨rb, 1, none⟩ (.int .i64 ((b : Int) + 1)))) := HK3.out.trans (Only.set _ _ _ rfl)
    rw [HB.out] at c1 hz1
    go_wp2
    go_ret
    rw [HM.out]
    exact ⟨rfl, HK4.out, fun e => absurd e HN.out, fun _ => by have e := HB.out; subst e; exact HH4.out⟩
end
end Go.Proofs.YtfngjfnakokgmaaGreatDoor.Txt
/- The bytes of a string, one more at a time: what the loops of both sides keep. Plain lists, no program. -/
namespace Go.Proofs.YtfngjfnakokgmaaGreatDoor.Txt
theorem chars_cons (c : UInt8) (l : Bytes) : chars (c :: l) = if c = 34 then some ([], l) else if c = 92 then (match l with
      | [] => none
      | d :: r => if meant d = 0 then none else (chars r).map fun p => (meant d :: p.1, p.2)) else if isPlain c then (chars l).map fun p => (c :: p.1, p.2) else none := by
  rw [chars.eq_def]
  cases l <;> rfl
/-- l is what is left of l0 when acc has been read. -/
def Read (l0 acc l : Bytes) : Prop := chars l0 = (chars l).map fun q => (acc ++ q.1, q.2)
theorem Read.start (l : Bytes) : Read l [] l := by
  unfold Read
  cases chars l with
  | none => rfl
  | some q => rfl
theorem plain_ne {c : UInt8} (h : isPlain c = true) : c ≠ 34 ∧ c ≠ 92 := by
  unfold isPlain at h
  simp only [Bool.and_eq_true, bne_iff_ne, ne_eq] at h
  exact ⟨h.1.2, h.2⟩
theorem Read.plain {l0 acc l r : Bytes} {c : UInt8} (h : Read l0 acc l) (hl : l = c :: r) (hc : isPlain c = true) : Read l0 (acc ++ [c]) r := by
  obtain ⟨h1, h2⟩ := plain_ne hc
  subst hl
  unfold Read at h ⊢
  rw [h, chars_cons, if_neg h1, if_neg h2, if_pos hc]
  cases chars r with
  | none => rfl
  | some q => simp
theorem Read.esc {l0 acc l r : Bytes} {d : UInt8} (h : Read l0 acc l) (hl : l = 92 :: d :: r) (hm : meant d ≠ 0) : Read l0 (acc ++ [meant d]) r := by
  subst hl
  unfold Read at h ⊢
  rw [h, chars_cons, if_neg (by decide), if_pos rfl]
  simp only [if_neg hm]
  cases chars r with
  | none => rfl
  | some q => simp
theorem Read.bad {l0 acc l r : Bytes} {d : UInt8} (h : Read l0 acc l) (hl : l = 92 :: d :: r) (hm : meant d = 0) : chars l0 = none := by
  subst hl
  unfold Read at h
  rw [h, chars_cons, if_neg (by decide), if_pos rfl]
  simp only [if_pos hm]
  rfl
theorem Read.cut {l0 acc l : Bytes} (h : Read l0 acc l) (hl : l = [92]) : chars l0 = none := by
  subst hl
  unfold Read at h
  rw [h]; rfl
/-- Where the next byte is none of a string's: it must be the mark that ends it. -/
theorem Read.fin {l0 acc l : Bytes} (h : Read l0 acc l) (hl : ∀ c r, l = c :: r → isPlain c = false ∧ c ≠ 92) : chars l0 = (want 34 l).map fun r => (acc, r) := by
  unfold Read at h
  rw [h]
  cases l with
  | nil => rfl
  | cons c r =>
    obtain ⟨h1, h2⟩ := hl c r rfl
    rw [chars_cons, want, if_neg h2]
    by_cases h3 : c = 34
    · rw [if_pos h3, if_pos h3]; simp
    · rw [if_neg h3, if_neg h3, if_neg (by rw [h1]; decide)]; rfl
/-- What has been read and what is left are no longer than what there was. -/
theorem chars_size : ∀ (n : Nat) (l t r : Bytes), l.length ≤ n → chars l = some (t, r) → t.length + r.length < l.length
  | _, [], t, r, _, h => by simp [chars] at h
  | 0, c :: l, t, r, hn, h => by simp at hn
  | n + 1, c :: l, t, r, hn, h => by
    have hl : l.length ≤ n := by simpa using hn
    unfold chars at h
    split at h
    · simp only [Option.some.injEq, Prod.mk.injEq] at h
      rw [← h.1, ← h.2]; simp
    split at h
    · split at h
      · cases h
      · rename_i d r'
        split at h
        · cases h
        · obtain ⟨p, hp, he⟩ := Option.map_eq_some_iff.1 h
          have i := chars_size n r' p.1 p.2 (by simp at hl; omega) hp
          rw [Prod.mk.injEq] at he
          rw [← he.1, ← he.2]; simp; omega
    · split at h
      · obtain ⟨p, hp, he⟩ := Option.map_eq_some_iff.1 h
        have i := chars_size n l p.1 p.2 hl hp
        rw [Prod.mk.injEq] at he
        rw [← he.1, ← he.2]; simp; omega
      · cases h
end Go.Proofs.YtfngjfnakokgmaaGreatDoor.Txt
