/- The document's own orderText, orderMark: they tell the plain order of texts and marks. -/
import Derived.Test.YtoeolaienpopfaaGreatDoorRefB
namespace Go.Proofs.YtoeolaienpopfaaGreatDoor
open Go.RowKit

theorem drewN_add (w : World) (a b : Nat) : (w.drewN a).drewN b = w.drewN (a + b) := by
  show ({ w with drawn := _ } : World) = _
  simp [World.drewN, Nat.add_assoc]
theorem drewN_hid {w wr : World} (h : Hid (∃ n, wr = w.drewN n)) (m : Nat) : Hid (∃ n, wr.drewN m = w.drewN n) := by
  obtain ⟨n, rfl⟩ := h.out
  exact ⟨n + m, drewN_add _ _ _⟩
theorem wrap_byte (c : UInt8) : wrap64 (c.toNat : Int) = c.toNat := by
  have := c.toNat_lt
  unfold wrap64
  omega
theorem cmpB_drop (s t : ByteArray) (k : Nat) (h : k < s.size) (h' : k < t.size) : cmpB (s.data.toList.drop k) (t.data.toList.drop k) = if cmpI s[k].toNat t[k].toNat = 0 then cmpB (s.data.toList.drop (k + 1)) (t.data.toList.drop (k + 1)) else cmpI s[k].toNat t[k].toNat := by
  rw [drop_at s k h, drop_at t k h']; rfl
theorem cmpI_eq0 (c d : UInt8) : cmpI c.toNat d.toNat = 0 ↔ c = d := by
  rw [cmpI_good.eq0 _ _ trivial trivial]
  exact ⟨fun e => UInt8.toNat_inj.1 (by omega), fun e => by rw [e]⟩
theorem cmpB_end (s t : ByteArray) (k : Nat) (hk : k ≤ s.size) (hk' : k ≤ t.size) (h : ¬ (k < s.size ∧ k < t.size)) : cmpB (s.data.toList.drop k) (t.data.toList.drop k) = cmpI s.size t.size := by
  by_cases h1 : k < s.size
  · have h2 : ¬ k < t.size := fun h2 => h ⟨h1, h2⟩
    rw [drop_at s k h1, List.drop_of_length_le (l := t.data.toList) (by rw [size_len]; omega)]
    show (1 : Int) = _
    rw [cmpI, if_neg (by omega), if_pos (by omega)]
  · rw [List.drop_of_length_le (l := s.data.toList) (by rw [size_len]; omega)]
    by_cases h2 : k < t.size
    · rw [drop_at t k h2]
      show (-1 : Int) = _
      rw [cmpI, if_pos (by omega)]
    · rw [List.drop_of_length_le (l := t.data.toList) (by rw [size_len]; omega)]
      show (0 : Int) = _
      rw [cmpI, if_neg (by omega), if_neg (by omega)]

set_option maxHeartbeats 1000000 in
theorem orderText_walk (s t : ByteArray) (w : World) (hs : s.size ≤ 1099511627776) :
    Calls Tryz.prog 57 #[.string s, .string t] w fun e w' => e = .returned (.int .i64 (cmpB s.data.toList t.data.toList)) ∧ ∃ n, w' = w.drewN n := by
  go_enter Tryz.func57, Tryz.ntmps57
  go_wp2
  go_loopw [5] (fun i wr => ∃ (k : Nat), k ≤ s.size ∧ k ≤ t.size ∧ i = .int .i64 k ∧ Hid (∃ n, wr = w.drewN n) ∧ Hid (cmpB s.data.toList t.data.toList = cmpB (s.data.toList.drop k) (t.data.toList.drop k))) (fun i _ => s.size - (intOf i).toNat)
  case atStart => exact ⟨0, Nat.zero_le _, Nat.zero_le _, rfl, ⟨0, rfl⟩, rfl⟩
  case round =>
    obtain ⟨k, hk, hk', rfl, HD, HX⟩ := hrel
    by_cases hlt : k < s.size
    · by_cases hlt' : k < t.size
      · have HL : Hid (cmpB (s.data.toList.drop k) (t.data.toList.drop k) = if cmpI s[k].toNat t[k].toNat = 0 then cmpB (s.data.toList.drop (k + 1)) (t.data.toList.drop (k + 1)) else cmpI s[k].toNat t[k].toNat) := cmpB_drop s t k hlt hlt'
        have hb := u8_beq s[k] t[k]
        by_cases he : s[k] = t[k]
        · have he' : (s[k] == t[k]) = true := by simpa using he
          rw [he'] at hb
          have HE : Hid (cmpI s[k].toNat t[k].toNat = 0) := (cmpI_eq0 _ _).2 he
          clear he he'
          go_wp2
          go_quiet (fail)
          go_wp2
          go_roundw
          case rel => exact ⟨k + 1, by omega, by omega, by go_num, drewN_hid HD _, by show _ = _; rw [HX.out, HL.out, if_pos HE.out]⟩
          case measure => simp [intOf]; omega
        · have he' : (s[k] == t[k]) = false := by simpa using he
          rw [he'] at hb
          have HE : Hid (¬ cmpI s[k].toNat t[k].toNat = 0) := fun h => he ((cmpI_eq0 _ _).1 h)
          clear he he'
          go_wp2
          go_quiet (fail)
          have HD2 := drewN_hid HD nq
          generalize wr.drewN nq = w2 at *
          go_wp2
          go_quiet ((go_at_call 36; exact Calls.quiet_of_same (refOrder_walk _ _ _)))
          go_wp2
          go_ret
          exact ⟨by rw [HX.out, HL.out, if_neg HE.out, ← wrap_byte s[k], ← wrap_byte t[k]]; simp only [wrap_byte]; rfl, drewN_hid HD2 _⟩
      · have HL : Hid (cmpB (s.data.toList.drop k) (t.data.toList.drop k) = cmpI s.size t.size) := cmpB_end s t k hk hk' (fun h => hlt' h.2)
        go_wp2_with fail
        refine (refOrder_walk _ _ _).mono ?_
        rintro e w' ⟨rfl, rfl⟩
        go_wp2
        go_ret
        exact ⟨by rw [HX.out, HL.out]; rfl, HD.out⟩
    · have HL : Hid (cmpB (s.data.toList.drop k) (t.data.toList.drop k) = cmpI s.size t.size) := cmpB_end s t k hk hk' (fun h => hlt h.1)
      go_wp2_with fail
      refine (refOrder_walk _ _ _).mono ?_
      rintro e w' ⟨rfl, rfl⟩
      go_wp2
      go_ret
      exact ⟨by rw [HX.out, HL.out]; rfl, HD.out⟩

theorem numI_ge {l : List UInt8} (h : numOk l = true) : (0 : Int) ≤ numI l ∧ numI l = val l := by
  have e : numI l = val l := by rw [numI, if_pos h]
  exact ⟨by rw [e]; exact val_nonneg l (numOk_parts h).2.2.2, e⟩
theorem numI_no {l : List UInt8} (h : numOk l = false) : numI l = -1 := by rw [numI, if_neg (by rw [h]; decide)]
theorem numOk_isNum {l : List UInt8} (h : markOk l = true) : numOk l = isNum l := by
  by_cases n : isNum l = true
  · rw [n]; exact markOk_num h n
  · have n : isNum l = false := by simpa using n
    rw [n, ← Bool.not_eq_true]
    intro k
    have : isNum l = true := List.all_eq_true.2 (numOk_parts k).2.2.2
    rw [n] at this
    cases this

set_option maxHeartbeats 1000000 in
theorem orderMark_walk (s t : ByteArray) (w : World) (hs : s.size ≤ 1099511627776) (ht : t.size ≤ 1099511627776) (hm : markOk s.data.toList = true) (hm' : markOk t.data.toList = true) :
    Calls Tryz.prog 37 #[.string s, .string t] w fun e w' => e = .returned (.int .i64 (cmpM s.data.toList t.data.toList)) ∧ ∃ n, w' = w.drewN n := by
  have HC : Hid (cmpM s.data.toList t.data.toList = if numOk s.data.toList then (if numOk t.data.toList then cmpI (numI s.data.toList) (numI t.data.toList) else -1) else if numOk t.data.toList then 1 else cmpB s.data.toList t.data.toList) := by
    show _ = _
    rw [cmpM, ← numOk_isNum hm, ← numOk_isNum hm']
    by_cases h1 : numOk s.data.toList = true
    · by_cases h2 : numOk t.data.toList = true
      · simp [h1, h2, (numI_ge h1).2, (numI_ge h2).2]
      · simp [h1, h2]
    · simp [h1]
  clear hm hm'
  by_cases h1 : numOk s.data.toList = true
  · have hp := (numI_ge h1).1
    by_cases h2 : numOk t.data.toList = true
    · have hq := (numI_ge h2).1
      have HR : Hid (cmpM s.data.toList t.data.toList = cmpI (numI s.data.toList) (numI t.data.toList)) := by show _ = _; rw [HC.out, if_pos h1, if_pos h2]
      clear HC h1 h2
      go_enter Tryz.func37, Tryz.ntmps37
      go_wp2_with fail
      refine (refNumber_walk s _ hs).mono ?_
      rintro e w' ⟨rfl, rfl⟩
      go_wp2_with fail
      refine (refNumber_walk t _ ht).mono ?_
      rintro e w' ⟨rfl, rfl⟩
      generalize numI s.data.toList = p at *
      generalize numI t.data.toList = q at *
      go_wp2_with fail
      refine (refOrder_walk _ _ _).mono ?_
      rintro e w' ⟨rfl, rfl⟩
      go_wp2
      go_ret
      exact ⟨by rw [HR.out]; rfl, 0, rfl⟩
    · have h2 : numOk t.data.toList = false := by simpa using h2
      have HQ : Hid (numI t.data.toList = -1) := numI_no h2
      have HR : Hid (cmpM s.data.toList t.data.toList = -1) := by show _ = _; rw [HC.out, if_pos h1, if_neg (by rw [h2]; decide)]
      clear HC h1 h2
      go_enter Tryz.func37, Tryz.ntmps37
      go_wp2_with fail
      refine (refNumber_walk s _ hs).mono ?_
      rintro e w' ⟨rfl, rfl⟩
      go_wp2_with fail
      refine (refNumber_walk t _ ht).mono ?_
      rintro e w' ⟨rfl, rfl⟩
      rw [HQ.out]
      generalize numI s.data.toList = p at *
      go_wp2
      go_ret
      exact ⟨by rw [HR.out]; rfl, 0, rfl⟩
  · have h1 : numOk s.data.toList = false := by simpa using h1
    have HP : Hid (numI s.data.toList = -1) := numI_no h1
    by_cases h2 : numOk t.data.toList = true
    · have hq := (numI_ge h2).1
      have HR : Hid (cmpM s.data.toList t.data.toList = 1) := by show _ = _; rw [HC.out, if_neg (by rw [h1]; decide), if_pos h2]
      clear HC h1 h2
      go_enter Tryz.func37, Tryz.ntmps37
      go_wp2_with fail
      refine (refNumber_walk s _ hs).mono ?_
      rintro e w' ⟨rfl, rfl⟩
      rw [HP.out]
      go_wp2_with fail
      refine (refNumber_walk t _ ht).mono ?_
      rintro e w' ⟨rfl, rfl⟩
      generalize numI t.data.toList = q at *
      go_wp2
      go_ret
      exact ⟨by rw [HR.out]; rfl, 0, rfl⟩
    · have h2 : numOk t.data.toList = false := by simpa using h2
      have HQ : Hid (numI t.data.toList = -1) := numI_no h2
      have HR : Hid (cmpM s.data.toList t.data.toList = cmpB s.data.toList t.data.toList) := by show _ = _; rw [HC.out, if_neg (by rw [h1]; decide), if_neg (by rw [h2]; decide)]
      clear HC h1 h2
      go_enter Tryz.func37, Tryz.ntmps37
      go_wp2_with fail
      refine (refNumber_walk s _ hs).mono ?_
      rintro e w' ⟨rfl, rfl⟩
      rw [HP.out]
      go_wp2_with fail
      refine (refNumber_walk t _ ht).mono ?_
      rintro e w' ⟨rfl, rfl⟩
      rw [HQ.out]
      go_wp2_with fail
      refine (orderText_walk s t _ hs).mono ?_
      rintro e w' ⟨rfl, n, rfl⟩
      go_wp2
      go_ret
      exact ⟨by rw [HR.out]; rfl, n, rfl⟩
end Go.Proofs.YtoeolaienpopfaaGreatDoor
