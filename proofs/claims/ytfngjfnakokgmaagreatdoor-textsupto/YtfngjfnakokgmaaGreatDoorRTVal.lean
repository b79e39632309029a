/- The document's own value. -/
import Derived.Test.YtfngjfnakokgmaaGreatDoorRTWord
namespace Go.Proofs.YtfngjfnakokgmaaGreatDoor.Txt
open Go.RowKit Go.Proofs.YtfngjfnakokgmaaGreatDoor.Sha
set_option maxHeartbeats 1000000 in
theorem rvalue_walk (s : ByteArray) (a : Nat) (w : World) (ha : a ≤ s.size) (hs : s.size ≤ 1048576) :
    Calls Tryz.prog 47 #[.string s, .int .i64 (a : Int)] w fun e w' => RV s a e ∧ Below w.heap.size w w' := by
  go_enter Tryz.func47, Tryz.ntmps47
  go_wp2_with fail
  refine (rquoted_walk s a w ha (by omega)).mono ?_
  rintro e w1 ⟨he, hb1⟩
  rcases he with ⟨t, r, a', hq, rfl, ha', hr, ht⟩ | ⟨hq, rfl⟩
  · have HF : Hid (RV s a (.returned (.tuple #[.string ⟨t.toArray⟩, .bool true, .int .i64 (a' : Int), .bool true]))) := Or.inl ⟨true, t, r, a', rq_value hq, rfl, ha', hr, ht, fun e => by cases e⟩
    clear hq hr
    go_wp2
    refine bodyPost_ret (results_tmp4 rfl _ _ _) rfl ?_
    exact ⟨HF.out, hb1⟩
  · have HQ : Hid (quoted (s.data.toList.drop a) = none) := hq
    clear hq
    have hz1 := hb1.size
    obtain ⟨B, HB⟩ : ∃ B, Hid (w1.heap.size = B) := ⟨_, rfl⟩
    have HC0 : Hid (WordsAt B (w1.alloc (.cells #[.string ⟨#[116, 114, 117, 101]⟩, .string ⟨#[102, 97, 108, 115, 101]⟩, .string ⟨#[110, 117, 108, 108]⟩] 9))) := by
      rw [← HB.out]; exact wordsAt_new w1
    have HBe : Hid (Below w.heap.size w (w1.alloc (.cells #[.string ⟨#[116, 114, 117, 101]⟩, .string ⟨#[102, 97, 108, 115, 101]⟩, .string ⟨#[110, 117, 108, 108]⟩] 9))) := hb1.alloc hz1 _
    clear hb1
    go_wp2
    rw [HB.out]
    go_loopw [12] (fun v wr => ∃ k : Nat, v = .int .i64 (k : Int) ∧ k ≤ 3 ∧ Hid (∀ j, j < k → word (wrd j) (s.data.toList.drop a) = none) ∧ Hid (WordsAt B wr) ∧ Below w.heap.size w wr) (fun v _ => 3 - (intOf v).toNat)
    case atStart => exact ⟨0, rfl, by omega, fun j hj => absurd hj (Nat.not_lt_zero _), HC0, HBe.out⟩
    case round =>
      clear HC0 HBe
      obtain ⟨k, rfl, hk, HI, HC, hB⟩ := hrel
      have hzr := hB.size
      obtain ⟨c0, c1, c2⟩ := HC.out
      by_cases k0 : k = 0
      · subst k0
        by_cases hle : a + 4 ≤ s.size
        · have hle1 : (a : Int) + 4 ≤ (s.size : Int) := by omega
          have hle2 : decide ((a : Int) + 4 ≤ (s.size : Int)) = true := decide_eq_true hle1
          obtain ⟨q, hq⟩ : ∃ q, q = s.extract a (a + 4) := ⟨_, rfl⟩
          have HQe : Hid (q = s.extract a (a + 4)) := hq
          have hsl : ∀ wx, (Instr.slice 9 (.string s) (some (.int .i64 (a : Int))) (some (.int .i64 ((a : Int) + 4))) none).run Tryz.prog wx = .ok (.string q) wx := fun wx => by
            rw [run_slice_string (P := Tryz.prog) wx 9 s .i64 .i64 (a : Int) ((a : Int) + 4) Tryz.underlying9 (by omega) (by omega) (by omega), HQe.out]
            rw [show ((a : Int)).toNat = a by omega, show ((a : Int) + 4).toNat = a + 4 by omega]
          clear hq
          by_cases heq : q.data.toList = [116, 114, 117, 101]
          · have HW : Hid (word [116, 114, 117, 101] (s.data.toList.drop a) = some (s.data.toList.drop (a + 4))) := word_yes (t := [116, 114, 117, 101]) (n := 4) (by rw [← HQe.out]; exact heq)
            have HF : Hid (RV s a (.returned (.tuple #[.string ⟨#[]⟩, .bool false, .int .i64 ((a : Int) + 4), .bool true]))) := Or.inl ⟨false, [], _, a + 4, value_word0 HW.out, by simp, hle, rfl, Nat.zero_le _, fun _ => rfl⟩
            have t1 : (q.toList == [116, 114, 117, 101]) = true := by rw [ByteArray.toList_eq, heq]; rfl
            clear heq HC HI
            go_wp2_with fail
            go_quiet (fail)
            go_wp2
            refine bodyPost_ret (results_tmp4 rfl _ _ _) rfl ?_
            exact ⟨HF.out, hB.trans ⟨rfl, rfl, rfl, Nat.le_refl _, fun _ _ => rfl⟩⟩
          · have HI2 : Hid (∀ j, j < 0 + 1 → word (wrd j) (s.data.toList.drop a) = none) := fun i hi => by
              by_cases e : i = 0
              · rw [e]; exact word_no (t := [116, 114, 117, 101]) (n := 4) rfl (by decide) (fun _ => by rw [← HQe.out]; exact heq)
              · exact HI.out i (by omega)
            have t1 : (q.toList == [116, 114, 117, 101]) = false := by rw [ByteArray.toList_eq]; simpa using heq
            clear heq
            go_wp2_with fail
            go_quiet (fail)
            have HC' : Hid (WordsAt B (wr.drewN nq)) := ⟨c0, c1, c2⟩
            go_wp2
            go_roundw
            case rel => exact ⟨0 + 1, by go_num, by omega, HI2, HC', hB.trans ⟨rfl, rfl, rfl, Nat.le_refl _, fun _ _ => rfl⟩⟩
            case measure => simp [intOf]
        · have hle1 : ¬ (a : Int) + 4 ≤ (s.size : Int) := by omega
          have hle2 : decide ((a : Int) + 4 ≤ (s.size : Int)) = false := decide_eq_false hle1
          have HI2 : Hid (∀ j, j < 0 + 1 → word (wrd j) (s.data.toList.drop a) = none) := fun i hi => by
            by_cases e : i = 0
            · rw [e]; exact word_no (t := [116, 114, 117, 101]) (n := 4) rfl (by decide) (fun h => absurd h hle)
            · exact HI.out i (by omega)
          go_wp2_with fail
          go_quiet (fail)
          have HC' : Hid (WordsAt B (wr.drewN nq)) := ⟨c0, c1, c2⟩
          go_wp2
          go_roundw
          case rel => exact ⟨0 + 1, by go_num, by omega, HI2, HC', hB.trans ⟨rfl, rfl, rfl, Nat.le_refl _, fun _ _ => rfl⟩⟩
          case measure => simp [intOf]
      by_cases k1 : k = 1
      · subst k1
        by_cases hle : a + 5 ≤ s.size
        · have hle1 : (a : Int) + 5 ≤ (s.size : Int) := by omega
          have hle2 : decide ((a : Int) + 5 ≤ (s.size : Int)) = true := decide_eq_true hle1
          obtain ⟨q, hq⟩ : ∃ q, q = s.extract a (a + 5) := ⟨_, rfl⟩
          have HQe : Hid (q = s.extract a (a + 5)) := hq
          have hsl : ∀ wx, (Instr.slice 9 (.string s) (some (.int .i64 (a : Int))) (some (.int .i64 ((a : Int) + 5))) none).run Tryz.prog wx = .ok (.string q) wx := fun wx => by
            rw [run_slice_string (P := Tryz.prog) wx 9 s .i64 .i64 (a : Int) ((a : Int) + 5) Tryz.underlying9 (by omega) (by omega) (by omega), HQe.out]
            rw [show ((a : Int)).toNat = a by omega, show ((a : Int) + 5).toNat = a + 5 by omega]
          clear hq
          by_cases heq : q.data.toList = [102, 97, 108, 115, 101]
          · have HW : Hid (word [102, 97, 108, 115, 101] (s.data.toList.drop a) = some (s.data.toList.drop (a + 5))) := word_yes (t := [102, 97, 108, 115, 101]) (n := 5) (by rw [← HQe.out]; exact heq)
            have HF : Hid (RV s a (.returned (.tuple #[.string ⟨#[]⟩, .bool false, .int .i64 ((a : Int) + 5), .bool true]))) := Or.inl ⟨false, [], _, a + 5, value_word1 HW.out, by simp, hle, rfl, Nat.zero_le _, fun _ => rfl⟩
            have t1 : (q.toList == [102, 97, 108, 115, 101]) = true := by rw [ByteArray.toList_eq, heq]; rfl
            clear heq HC HI
            go_wp2_with fail
            go_quiet (fail)
            go_wp2
            refine bodyPost_ret (results_tmp4 rfl _ _ _) rfl ?_
            exact ⟨HF.out, hB.trans ⟨rfl, rfl, rfl, Nat.le_refl _, fun _ _ => rfl⟩⟩
          · have HI2 : Hid (∀ j, j < 1 + 1 → word (wrd j) (s.data.toList.drop a) = none) := fun i hi => by
              by_cases e : i = 1
              · rw [e]; exact word_no (t := [102, 97, 108, 115, 101]) (n := 5) rfl (by decide) (fun _ => by rw [← HQe.out]; exact heq)
              · exact HI.out i (by omega)
            have t1 : (q.toList == [102, 97, 108, 115, 101]) = false := by rw [ByteArray.toList_eq]; simpa using heq
            clear heq
            go_wp2_with fail
            go_quiet (fail)
            have HC' : Hid (WordsAt B (wr.drewN nq)) := ⟨c0, c1, c2⟩
            go_wp2
            go_roundw
            case rel => exact ⟨1 + 1, by go_num, by omega, HI2, HC', hB.trans ⟨rfl, rfl, rfl, Nat.le_refl _, fun _ _ => rfl⟩⟩
            case measure => simp [intOf]
        · have hle1 : ¬ (a : Int) + 5 ≤ (s.size : Int) := by omega
          have hle2 : decide ((a : Int) + 5 ≤ (s.size : Int)) = false := decide_eq_false hle1
          have HI2 : Hid (∀ j, j < 1 + 1 → word (wrd j) (s.data.toList.drop a) = none) := fun i hi => by
            by_cases e : i = 1
            · rw [e]; exact word_no (t := [102, 97, 108, 115, 101]) (n := 5) rfl (by decide) (fun h => absurd h hle)
            · exact HI.out i (by omega)
          go_wp2_with fail
          go_quiet (fail)
          have HC' : Hid (WordsAt B (wr.drewN nq)) := ⟨c0, c1, c2⟩
          go_wp2
          go_roundw
          case rel => exact ⟨1 + 1, by go_num, by omega, HI2, HC', hB.trans ⟨rfl, rfl, rfl, Nat.le_refl _, fun _ _ => rfl⟩⟩
          case measure => simp [intOf]
      by_cases k2 : k = 2
      · subst k2
        by_cases hle : a + 4 ≤ s.size
        · have hle1 : (a : Int) + 4 ≤ (s.size : Int) := by omega
          have hle2 : decide ((a : Int) + 4 ≤ (s.size : Int)) = true := decide_eq_true hle1
          obtain ⟨q, hq⟩ : ∃ q, q = s.extract a (a + 4) := ⟨_, rfl⟩
          have HQe : Hid (q = s.extract a (a + 4)) := hq
          have hsl : ∀ wx, (Instr.slice 9 (.string s) (some (.int .i64 (a : Int))) (some (.int .i64 ((a : Int) + 4))) none).run Tryz.prog wx = .ok (.string q) wx := fun wx => by
            rw [run_slice_string (P := Tryz.prog) wx 9 s .i64 .i64 (a : Int) ((a : Int) + 4) Tryz.underlying9 (by omega) (by omega) (by omega), HQe.out]
            rw [show ((a : Int)).toNat = a by omega, show ((a : Int) + 4).toNat = a + 4 by omega]
          clear hq
          by_cases heq : q.data.toList = [110, 117, 108, 108]
          · have HW : Hid (word [110, 117, 108, 108] (s.data.toList.drop a) = some (s.data.toList.drop (a + 4))) := word_yes (t := [110, 117, 108, 108]) (n := 4) (by rw [← HQe.out]; exact heq)
            have HF : Hid (RV s a (.returned (.tuple #[.string ⟨#[]⟩, .bool false, .int .i64 ((a : Int) + 4), .bool true]))) := Or.inl ⟨false, [], _, a + 4, value_word2 HW.out, by simp, hle, rfl, Nat.zero_le _, fun _ => rfl⟩
            have t1 : (q.toList == [110, 117, 108, 108]) = true := by rw [ByteArray.toList_eq, heq]; rfl
            clear heq HC HI
            go_wp2_with fail
            go_quiet (fail)
            go_wp2
            refine bodyPost_ret (results_tmp4 rfl _ _ _) rfl ?_
            exact ⟨HF.out, hB.trans ⟨rfl, rfl, rfl, Nat.le_refl _, fun _ _ => rfl⟩⟩
          · have HI2 : Hid (∀ j, j < 2 + 1 → word (wrd j) (s.data.toList.drop a) = none) := fun i hi => by
              by_cases e : i = 2
              · rw [e]; exact word_no (t := [110, 117, 108, 108]) (n := 4) rfl (by decide) (fun _ => by rw [← HQe.out]; exact heq)
              · exact HI.out i (by omega)
            have t1 : (q.toList == [110, 117, 108, 108]) = false := by rw [ByteArray.toList_eq]; simpa using heq
            clear heq
            go_wp2_with fail
            go_quiet (fail)
            have HC' : Hid (WordsAt B (wr.drewN nq)) := ⟨c0, c1, c2⟩
            go_wp2
            go_roundw
            case rel => exact ⟨2 + 1, by go_num, by omega, HI2, HC', hB.trans ⟨rfl, rfl, rfl, Nat.le_refl _, fun _ _ => rfl⟩⟩
            case measure => simp [intOf]
        · have hle1 : ¬ (a : Int) + 4 ≤ (s.size : Int) := by omega
          have hle2 : decide ((a : Int) + 4 ≤ (s.size : Int)) = false := decide_eq_false hle1
          have HI2 : Hid (∀ j, j < 2 + 1 → word (wrd j) (s.data.toList.drop a) = none) := fun i hi => by
            by_cases e : i = 2
            · rw [e]; exact word_no (t := [110, 117, 108, 108]) (n := 4) rfl (by decide) (fun h => absurd h hle)
            · exact HI.out i (by omega)
          go_wp2_with fail
          go_quiet (fail)
          have HC' : Hid (WordsAt B (wr.drewN nq)) := ⟨c0, c1, c2⟩
          go_wp2
          go_roundw
          case rel => exact ⟨2 + 1, by go_num, by omega, HI2, HC', hB.trans ⟨rfl, rfl, rfl, Nat.le_refl _, fun _ _ => rfl⟩⟩
          case measure => simp [intOf]
      have hk3 : k = 3 := by omega
      subst hk3
      have HN : Hid (value (s.data.toList.drop a) = (number (s.data.toList.drop a)).map fun r => (none, r)) := value_else HQ.out (HI.out 0 (by omega)) (HI.out 1 (by omega)) (HI.out 2 (by omega))
      clear HI HC c0 c1 c2
      by_cases hal : a < s.size
      · have hal' : (a : Int) < (s.size : Int) := by omega
        by_cases hm : s[a] = 45
        · have t45 := u8_yes 45 45 rfl hm
          obtain ⟨f, hf⟩ : ∃ f, f = a + 1 := ⟨_, rfl⟩
          have HFi : Hid ((a : Int) + 1 = (f : Int)) := by show _ = _; omega
          have HU : Hid (s.data.toList.drop f = unsigned (s.data.toList.drop a)) := by show _ = _; rw [hf, drop_cons s a hal, unsigned, if_pos hm]
          have hfs : f ≤ s.size := by omega
          clear hm hf
          go_wp2
          rw [HFi.out]
          go_loopw [15] (fun v wx => ∃ e : Nat, v = .int .i64 (e : Int) ∧ f ≤ e ∧ e ≤ s.size ∧ Hid (((s.data.toList.drop f).take (e - f)).all isDigit = true) ∧ wx = wr) (fun v _ => s.size - (intOf v).toNat)
          case atStart => exact ⟨f, by go_num, Nat.le_refl _, by omega, (by show _ = _; simp), rfl⟩
          case round =>
            obtain ⟨e, rfl, hfe, hes, HD, rfl⟩ := hrel
            by_cases hel : e < s.size
            · have hel' : (e : Int) < (s.size : Int) := by omega
              by_cases hd : isDigit s[e] = true
              · have hd2 := hd
                unfold isDigit at hd2
                simp only [Bool.and_eq_true, decide_eq_true_eq] at hd2
                have d1 : (48 : Int) ≤ (s[e].toNat : Int) := by omega
                have d2 : (s[e].toNat : Int) ≤ 57 := by omega
                have HD2 : Hid (((s.data.toList.drop f).take (e + 1 - f)).all isDigit = true) := digs_more hfe hel HD.out hd
                clear hd hd2
                go_wp2
                go_roundw
                case rel => first | exact ⟨e + 1, by go_num, by omega, by omega, HD2, rfl⟩ | exact ⟨e + 1, by go_num, by omega, by omega, HD2, trivial⟩ | exact ⟨e + 1, by go_num, by omega, by omega, HD2⟩
                case measure => simp [intOf]; omega
              · have hd' : isDigit s[e] = false := by simpa using hd
                have HE := digs_end hfe HD.out (fun _ => hd')
                have d0 : ¬ ((48 : Int) ≤ (s[e].toNat : Int) ∧ (s[e].toNat : Int) ≤ 57) := fun h => hd (by unfold isDigit; simp only [Bool.and_eq_true, decide_eq_true_eq]; omega)
                clear hd hd'
                by_cases d1 : (48 : Int) ≤ (s[e].toNat : Int)
                · have d2 : ¬ (s[e].toNat : Int) ≤ 57 := fun h => d0 ⟨d1, h⟩
                  clear d0
                  have HV : Hid (RV s a (.returned (.tuple #[.string ⟨#[]⟩, .bool false, .int .i64 (e : Int), .bool (decide (0 ≤ Go.Proofs.YtfngjfnakokgmaaGreatDoor.numI (s.extract f e).data.toList))]))) := rv_number HN.out HU.out hes HD.out HE
                  obtain ⟨q, hq⟩ : ∃ q, q = s.extract f e := ⟨_, rfl⟩
                  have HQe : Hid (q = s.extract f e) := hq
                  have hqs : q.size ≤ 1099511627776 := by rw [hq, ByteArray.size_extract]; omega
                  have hsl : ∀ wx, (Instr.slice 9 (.string s) (some (.int .i64 (f : Int))) (some (.int .i64 (e : Int))) none).run Tryz.prog wx = .ok (.string q) wx := fun wx => by
                    rw [run_slice_string (P := Tryz.prog) wx 9 s .i64 .i64 (f : Int) (e : Int) Tryz.underlying9 (by omega) (by omega) (by omega), HQe.out]
                    rw [show ((f : Int)).toNat = f by omega, show ((e : Int)).toNat = e by omega]
                  rw [← HQe.out] at HV
                  clear hq HE
                  go_wp2_with fail
                  refine (Go.Proofs.YtfngjfnakokgmaaGreatDoor.refNumber_walk q _ hqs).mono ?_
                  rintro e' w' ⟨rfl, rfl⟩
                  obtain ⟨z, HZ⟩ : ∃ z, Hid (Go.Proofs.YtfngjfnakokgmaaGreatDoor.numI q.data.toList = z) := ⟨_, rfl⟩
                  rw [HZ.out] at HV ⊢
                  go_wp2
                  all_goals
                    refine bodyPost_ret (results_tmp4 rfl _ _ _) rfl ?_
                    refine ⟨?_, hB⟩
                    first | exact HV.out | (have := HV.out; simp_all)
                · clear d0
                  have HV : Hid (RV s a (.returned (.tuple #[.string ⟨#[]⟩, .bool false, .int .i64 (e : Int), .bool (decide (0 ≤ Go.Proofs.YtfngjfnakokgmaaGreatDoor.numI (s.extract f e).data.toList))]))) := rv_number HN.out HU.out hes HD.out HE
                  obtain ⟨q, hq⟩ : ∃ q, q = s.extract f e := ⟨_, rfl⟩
                  have HQe : Hid (q = s.extract f e) := hq
                  have hqs : q.size ≤ 1099511627776 := by rw [hq, ByteArray.size_extract]; omega
                  have hsl : ∀ wx, (Instr.slice 9 (.string s) (some (.int .i64 (f : Int))) (some (.int .i64 (e : Int))) none).run Tryz.prog wx = .ok (.string q) wx := fun wx => by
                    rw [run_slice_string (P := Tryz.prog) wx 9 s .i64 .i64 (f : Int) (e : Int) Tryz.underlying9 (by omega) (by omega) (by omega), HQe.out]
                    rw [show ((f : Int)).toNat = f by omega, show ((e : Int)).toNat = e by omega]
                  rw [← HQe.out] at HV
                  clear hq HE
                  go_wp2_with fail
                  refine (Go.Proofs.YtfngjfnakokgmaaGreatDoor.refNumber_walk q _ hqs).mono ?_
                  rintro e' w' ⟨rfl, rfl⟩
                  obtain ⟨z, HZ⟩ : ∃ z, Hid (Go.Proofs.YtfngjfnakokgmaaGreatDoor.numI q.data.toList = z) := ⟨_, rfl⟩
                  rw [HZ.out] at HV ⊢
                  go_wp2
                  all_goals
                    refine bodyPost_ret (results_tmp4 rfl _ _ _) rfl ?_
                    refine ⟨?_, hB⟩
                    first | exact HV.out | (have := HV.out; simp_all)
            · have hel' : ¬ (e : Int) < (s.size : Int) := by omega
              have HE := digs_end hfe HD.out (fun h => absurd h hel)
              have HV : Hid (RV s a (.returned (.tuple #[.string ⟨#[]⟩, .bool false, .int .i64 (e : Int), .bool (decide (0 ≤ Go.Proofs.YtfngjfnakokgmaaGreatDoor.numI (s.extract f e).data.toList))]))) := rv_number HN.out HU.out hes HD.out HE
              obtain ⟨q, hq⟩ : ∃ q, q = s.extract f e := ⟨_, rfl⟩
              have HQe : Hid (q = s.extract f e) := hq
              have hqs : q.size ≤ 1099511627776 := by rw [hq, ByteArray.size_extract]; omega
              have hsl : ∀ wx, (Instr.slice 9 (.string s) (some (.int .i64 (f : Int))) (some (.int .i64 (e : Int))) none).run Tryz.prog wx = .ok (.string q) wx := fun wx => by
                rw [run_slice_string (P := Tryz.prog) wx 9 s .i64 .i64 (f : Int) (e : Int) Tryz.underlying9 (by omega) (by omega) (by omega), HQe.out]
                rw [show ((f : Int)).toNat = f by omega, show ((e : Int)).toNat = e by omega]
              rw [← HQe.out] at HV
              clear hq HE
              go_wp2_with fail
              refine (Go.Proofs.YtfngjfnakokgmaaGreatDoor.refNumber_walk q _ hqs).mono ?_
              rintro e' w' ⟨rfl, rfl⟩
              obtain ⟨z, HZ⟩ : ∃ z, Hid (Go.Proofs.YtfngjfnakokgmaaGreatDoor.numI q.data.toList = z) := ⟨_, rfl⟩
              rw [HZ.out] at HV ⊢
              go_wp2
              all_goals
                refine bodyPost_ret (results_tmp4 rfl _ _ _) rfl ?_
                refine ⟨?_, hB⟩
                first | exact HV.out | (have := HV.out; simp_all)
        · have t45 := u8_no 45 45 rfl hm
          have HU : Hid (s.data.toList.drop a = unsigned (s.data.toList.drop a)) := by show _ = _; rw [drop_cons s a hal, unsigned, if_neg hm]
          clear hm
          go_wp2
          go_loopw [15] (fun v wx => ∃ e : Nat, v = .int .i64 (e : Int) ∧ a ≤ e ∧ e ≤ s.size ∧ Hid (((s.data.toList.drop a).take (e - a)).all isDigit = true) ∧ wx = wr) (fun v _ => s.size - (intOf v).toNat)
          case atStart => exact ⟨a, by go_num, Nat.le_refl _, by omega, (by show _ = _; simp), rfl⟩
          case round =>
            obtain ⟨e, rfl, hfe, hes, HD, rfl⟩ := hrel
            by_cases hel : e < s.size
            · have hel' : (e : Int) < (s.size : Int) := by omega
              by_cases hd : isDigit s[e] = true
              · have hd2 := hd
                unfold isDigit at hd2
                simp only [Bool.and_eq_true, decide_eq_true_eq] at hd2
                have d1 : (48 : Int) ≤ (s[e].toNat : Int) := by omega
                have d2 : (s[e].toNat : Int) ≤ 57 := by omega
                have HD2 : Hid (((s.data.toList.drop a).take (e + 1 - a)).all isDigit = true) := digs_more hfe hel HD.out hd
                clear hd hd2
                go_wp2
                go_roundw
                case rel => first | exact ⟨e + 1, by go_num, by omega, by omega, HD2, rfl⟩ | exact ⟨e + 1, by go_num, by omega, by omega, HD2, trivial⟩ | exact ⟨e + 1, by go_num, by omega, by omega, HD2⟩
                case measure => simp [intOf]; omega
              · have hd' : isDigit s[e] = false := by simpa using hd
                have HE := digs_end hfe HD.out (fun _ => hd')
                have d0 : ¬ ((48 : Int) ≤ (s[e].toNat : Int) ∧ (s[e].toNat : Int) ≤ 57) := fun h => hd (by unfold isDigit; simp only [Bool.and_eq_true, decide_eq_true_eq]; omega)
                clear hd hd'
                by_cases d1 : (48 : Int) ≤ (s[e].toNat : Int)
                · have d2 : ¬ (s[e].toNat : Int) ≤ 57 := fun h => d0 ⟨d1, h⟩
                  clear d0
                  have HV : Hid (RV s a (.returned (.tuple #[.string ⟨#[]⟩, .bool false, .int .i64 (e : Int), .bool (decide (0 ≤ Go.Proofs.YtfngjfnakokgmaaGreatDoor.numI (s.extract a e).data.toList))]))) := rv_number HN.out HU.out hes HD.out HE
                  obtain ⟨q, hq⟩ : ∃ q, q = s.extract a e := ⟨_, rfl⟩
                  have HQe : Hid (q = s.extract a e) := hq
                  have hqs : q.size ≤ 1099511627776 := by rw [hq, ByteArray.size_extract]; omega
                  have hsl : ∀ wx, (Instr.slice 9 (.string s) (some (.int .i64 (a : Int))) (some (.int .i64 (e : Int))) none).run Tryz.prog wx = .ok (.string q) wx := fun wx => by
                    rw [run_slice_string (P := Tryz.prog) wx 9 s .i64 .i64 (a : Int) (e : Int) Tryz.underlying9 (by omega) (by omega) (by omega), HQe.out]
                    rw [show ((a : Int)).toNat = a by omega, show ((e : Int)).toNat = e by omega]
                  rw [← HQe.out] at HV
                  clear hq HE
                  go_wp2_with fail
                  refine (Go.Proofs.YtfngjfnakokgmaaGreatDoor.refNumber_walk q _ hqs).mono ?_
                  rintro e' w' ⟨rfl, rfl⟩
                  obtain ⟨z, HZ⟩ : ∃ z, Hid (Go.Proofs.YtfngjfnakokgmaaGreatDoor.numI q.data.toList = z) := ⟨_, rfl⟩
                  rw [HZ.out] at HV ⊢
                  go_wp2
                  all_goals
                    refine bodyPost_ret (results_tmp4 rfl _ _ _) rfl ?_
                    refine ⟨?_, hB⟩
                    first | exact HV.out | (have := HV.out; simp_all)
                · clear d0
                  have HV : Hid (RV s a (.returned (.tuple #[.string ⟨#[]⟩, .bool false, .int .i64 (e : Int), .bool (decide (0 ≤ Go.Proofs.YtfngjfnakokgmaaGreatDoor.numI (s.extract a e).data.toList))]))) := rv_number HN.out HU.out hes HD.out HE
                  obtain ⟨q, hq⟩ : ∃ q, q = s.extract a e := ⟨_, rfl⟩
                  have HQe : Hid (q = s.extract a e) := hq
                  have hqs : q.size ≤ 1099511627776 := by rw [hq, ByteArray.size_extract]; omega
                  have hsl : ∀ wx, (Instr.slice 9 (.string s) (some (.int .i64 (a : Int))) (some (.int .i64 (e : Int))) none).run Tryz.prog wx = .ok (.string q) wx := fun wx => by
                    rw [run_slice_string (P := Tryz.prog) wx 9 s .i64 .i64 (a : Int) (e : Int) Tryz.underlying9 (by omega) (by omega) (by omega), HQe.out]
                    rw [show ((a : Int)).toNat = a by omega, show ((e : Int)).toNat = e by omega]
                  rw [← HQe.out] at HV
                  clear hq HE
                  go_wp2_with fail
                  refine (Go.Proofs.YtfngjfnakokgmaaGreatDoor.refNumber_walk q _ hqs).mono ?_
                  rintro e' w' ⟨rfl, rfl⟩
                  obtain ⟨z, HZ⟩ : ∃ z, Hid (Go.Proofs.YtfngjfnakokgmaaGreatDoor.numI q.data.toList = z) := ⟨_, rfl⟩
                  rw [HZ.out] at HV ⊢
                  go_wp2
                  all_goals
                    refine bodyPost_ret (results_tmp4 rfl _ _ _) rfl ?_
                    refine ⟨?_, hB⟩
                    first | exact HV.out | (have := HV.out; simp_all)
            · have hel' : ¬ (e : Int) < (s.size : Int) := by omega
              have HE := digs_end hfe HD.out (fun h => absurd h hel)
              have HV : Hid (RV s a (.returned (.tuple #[.string ⟨#[]⟩, .bool false, .int .i64 (e : Int), .bool (decide (0 ≤ Go.Proofs.YtfngjfnakokgmaaGreatDoor.numI (s.extract a e).data.toList))]))) := rv_number HN.out HU.out hes HD.out HE
              obtain ⟨q, hq⟩ : ∃ q, q = s.extract a e := ⟨_, rfl⟩
              have HQe : Hid (q = s.extract a e) := hq
              have hqs : q.size ≤ 1099511627776 := by rw [hq, ByteArray.size_extract]; omega
              have hsl : ∀ wx, (Instr.slice 9 (.string s) (some (.int .i64 (a : Int))) (some (.int .i64 (e : Int))) none).run Tryz.prog wx = .ok (.string q) wx := fun wx => by
                rw [run_slice_string (P := Tryz.prog) wx 9 s .i64 .i64 (a : Int) (e : Int) Tryz.underlying9 (by omega) (by omega) (by omega), HQe.out]
                rw [show ((a : Int)).toNat = a by omega, show ((e : Int)).toNat = e by omega]
              rw [← HQe.out] at HV
              clear hq HE
              go_wp2_with fail
              refine (Go.Proofs.YtfngjfnakokgmaaGreatDoor.refNumber_walk q _ hqs).mono ?_
              rintro e' w' ⟨rfl, rfl⟩
              obtain ⟨z, HZ⟩ : ∃ z, Hid (Go.Proofs.YtfngjfnakokgmaaGreatDoor.numI q.data.toList = z) := ⟨_, rfl⟩
              rw [HZ.out] at HV ⊢
              go_wp2
              all_goals
                refine bodyPost_ret (results_tmp4 rfl _ _ _) rfl ?_
                refine ⟨?_, hB⟩
                first | exact HV.out | (have := HV.out; simp_all)
      · have hal' : ¬ (a : Int) < (s.size : Int) := by omega
        have HU : Hid (s.data.toList.drop a = unsigned (s.data.toList.drop a)) := by show _ = _; rw [drop_end s a (by omega)]; rfl
        go_wp2
        go_loopw [15] (fun v wx => ∃ e : Nat, v = .int .i64 (e : Int) ∧ a ≤ e ∧ e ≤ s.size ∧ Hid (((s.data.toList.drop a).take (e - a)).all isDigit = true) ∧ wx = wr) (fun v _ => s.size - (intOf v).toNat)
        case atStart => exact ⟨a, by go_num, Nat.le_refl _, by omega, (by show _ = _; simp), rfl⟩
        case round =>
          obtain ⟨e, rfl, hfe, hes, HD, rfl⟩ := hrel
          by_cases hel : e < s.size
          · have hel' : (e : Int) < (s.size : Int) := by omega
            by_cases hd : isDigit s[e] = true
            · have hd2 := hd
              unfold isDigit at hd2
              simp only [Bool.and_eq_true, decide_eq_true_eq] at hd2
              have d1 : (48 : Int) ≤ (s[e].toNat : Int) := by omega
              have d2 : (s[e].toNat : Int) ≤ 57 := by omega
              have HD2 : Hid (((s.data.toList.drop a).take (e + 1 - a)).all isDigit = true) := digs_more hfe hel HD.out hd
              clear hd hd2
              go_wp2
              go_roundw
              case rel => first | exact ⟨e + 1, by go_num, by omega, by omega, HD2, rfl⟩ | exact ⟨e + 1, by go_num, by omega, by omega, HD2, trivial⟩ | exact ⟨e + 1, by go_num, by omega, by omega, HD2⟩
              case measure => simp [intOf]; omega
            · have hd' : isDigit s[e] = false := by simpa using hd
              have HE := digs_end hfe HD.out (fun _ => hd')
              have d0 : ¬ ((48 : Int) ≤ (s[e].toNat : Int) ∧ (s[e].toNat : Int) ≤ 57) := fun h => hd (by unfold isDigit; simp only [Bool.and_eq_true, decide_eq_true_eq]; omega)
              clear hd hd'
              by_cases d1 : (48 : Int) ≤ (s[e].toNat : Int)
              · have d2 : ¬ (s[e].toNat : Int) ≤ 57 := fun h => d0 ⟨d1, h⟩
                clear d0
                have HV : Hid (RV s a (.returned (.tuple #[.string ⟨#[]⟩, .bool false, .int .i64 (e : Int), .bool (decide (0 ≤ Go.Proofs.YtfngjfnakokgmaaGreatDoor.numI (s.extract a e).data.toList))]))) := rv_number HN.out HU.out hes HD.out HE
                obtain ⟨q, hq⟩ : ∃ q, q = s.extract a e := ⟨_, rfl⟩
                have HQe : Hid (q = s.extract a e) := hq
                have hqs : q.size ≤ 1099511627776 := by rw [hq, ByteArray.size_extract]; omega
                have hsl : ∀ wx, (Instr.slice 9 (.string s) (some (.int .i64 (a : Int))) (some (.int .i64 (e : Int))) none).run Tryz.prog wx = .ok (.string q) wx := fun wx => by
                  rw [run_slice_string (P := Tryz.prog) wx 9 s .i64 .i64 (a : Int) (e : Int) Tryz.underlying9 (by omega) (by omega) (by omega), HQe.out]
                  rw [show ((a : Int)).toNat = a by omega, show ((e : Int)).toNat = e by omega]
                rw [← HQe.out] at HV
                clear hq HE
                go_wp2_with fail
                refine (Go.Proofs.YtfngjfnakokgmaaGreatDoor.refNumber_walk q _ hqs).mono ?_
                rintro e' w' ⟨rfl, rfl⟩
                obtain ⟨z, HZ⟩ : ∃ z, Hid (Go.Proofs.YtfngjfnakokgmaaGreatDoor.numI q.data.toList = z) := ⟨_, rfl⟩
                rw [HZ.out] at HV ⊢
                go_wp2
                all_goals
                  refine bodyPost_ret (results_tmp4 rfl _ _ _) rfl ?_
                  refine ⟨?_, hB⟩
                  first | exact HV.out | (have := HV.out; simp_all)
              · clear d0
                have HV : Hid (RV s a (.returned (.tuple #[.string ⟨#[]⟩, .bool false, .int .i64 (e : Int), .bool (decide (0 ≤ Go.Proofs.YtfngjfnakokgmaaGreatDoor.numI (s.extract a e).data.toList))]))) := rv_number HN.out HU.out hes HD.out HE
                obtain ⟨q, hq⟩ : ∃ q, q = s.extract a e := ⟨_, rfl⟩
                have HQe : Hid (q = s.extract a e) := hq
                have hqs : q.size ≤ 1099511627776 := by rw [hq, ByteArray.size_extract]; omega
                have hsl : ∀ wx, (Instr.slice 9 (.string s) (some (.int .i64 (a : Int))) (some (.int .i64 (e : Int))) none).run Tryz.prog wx = .ok (.string q) wx := fun wx => by
                  rw [run_slice_string (P := Tryz.prog) wx 9 s .i64 .i64 (a : Int) (e : Int) Tryz.underlying9 (by omega) (by omega) (by omega), HQe.out]
                  rw [show ((a : Int)).toNat = a by omega, show ((e : Int)).toNat = e by omega]
                rw [← HQe.out] at HV
                clear hq HE
                go_wp2_with fail
                refine (Go.Proofs.YtfngjfnakokgmaaGreatDoor.refNumber_walk q _ hqs).mono ?_
                rintro e' w' ⟨rfl, rfl⟩
                obtain ⟨z, HZ⟩ : ∃ z, Hid (Go.Proofs.YtfngjfnakokgmaaGreatDoor.numI q.data.toList = z) := ⟨_, rfl⟩
                rw [HZ.out] at HV ⊢
                go_wp2
                all_goals
                  refine bodyPost_ret (results_tmp4 rfl _ _ _) rfl ?_
                  refine ⟨?_, hB⟩
                  first | exact HV.out | (have := HV.out; simp_all)
          · have hel' : ¬ (e : Int) < (s.size : Int) := by omega
            have HE := digs_end hfe HD.out (fun h => absurd h hel)
            have HV : Hid (RV s a (.returned (.tuple #[.string ⟨#[]⟩, .bool false, .int .i64 (e : Int), .bool (decide (0 ≤ Go.Proofs.YtfngjfnakokgmaaGreatDoor.numI (s.extract a e).data.toList))]))) := rv_number HN.out HU.out hes HD.out HE
            obtain ⟨q, hq⟩ : ∃ q, q = s.extract a e := ⟨_, rfl⟩
            have HQe : Hid (q = s.extract a e) := hq
            have hqs : q.size ≤ 1099511627776 := by rw [hq, ByteArray.size_extract]; omega
            have hsl : ∀ wx, (Instr.slice 9 (.string s) (some (.int .i64 (a : Int))) (some (.int .i64 (e : Int))) none).run Tryz.prog wx = .ok (.string q) wx := fun wx => by
              rw [run_slice_string (P := Tryz.prog) wx 9 s .i64 .i64 (a : Int) (e : Int) Tryz.underlying9 (by omega) (by omega) (by omega), HQe.out]
              rw [show ((a : Int)).toNat = a by omega, show ((e : Int)).toNat = e by omega]
            rw [← HQe.out] at HV
            clear hq HE
            go_wp2_with fail
            refine (Go.Proofs.YtfngjfnakokgmaaGreatDoor.refNumber_walk q _ hqs).mono ?_
            rintro e' w' ⟨rfl, rfl⟩
            obtain ⟨z, HZ⟩ : ∃ z, Hid (Go.Proofs.YtfngjfnakokgmaaGreatDoor.numI q.data.toList = z) := ⟨_, rfl⟩
            rw [HZ.out] at HV ⊢
            go_wp2
            all_goals
              refine bodyPost_ret (results_tmp4 rfl _ _ _) rfl ?_
              refine ⟨?_, hB⟩
              first | exact HV.out | (have := HV.out; simp_all)
end Go.Proofs.YtfngjfnakokgmaaGreatDoor.Txt
