/- The document's own number, orderText, orderMark, split: each answers what the plain functions on lists tell. -/
import Derived.Test.YtoeolaienpopfaaGreatDoorRefA
namespace Go.Proofs.YtoeolaienpopfaaGreatDoor
open Go.RowKit

/-- What the document's number tells of a text. -/
def numI (l : List UInt8) : Int := if numOk l then val l else -1
set_option maxHeartbeats 1000000 in
theorem refNumber_walk (s : ByteArray) (w : World) (hs : s.size ≤ 1099511627776) :
    Calls Tryz.prog 34 #[.string s] w fun e w' => e = .returned (.int .i64 (numI s.data.toList)) ∧ w' = w := by
  by_cases hm : madeB s.data.toList [48, 49, 50, 51, 52, 53, 54, 55, 56, 57] = true
  · have hm2 := hm
    rw [made_ten, Bool.and_eq_true, Bool.not_eq_true', List.isEmpty_eq_false_iff] at hm2
    obtain ⟨hd, hne⟩ := hm2
    have HNe : Hid (s.data.toList ≠ []) := hne
    have HDg : Hid (∀ c ∈ s.data.toList, digB c = true) := fun c hc => List.all_eq_true.1 hd c hc
    have HM : Hid (madeB s.data.toList [48, 49, 50, 51, 52, 53, 54, 55, 56, 57] = true) := hm
    have hpos : 0 < s.size := by rw [← size_len]; exact List.length_pos_iff.2 hne
    clear hm hd hne
    by_cases h9 : 9 < s.size
    · have HN : Hid (numI s.data.toList = -1) := by
        show _ = _
        rw [numI, if_neg]
        intro h
        have := (numOk_parts h).2.1
        rw [size_len] at this
        omega
      go_enter Tryz.func34, Tryz.ntmps34
      go_wp2_with fail
      refine (made_walk s ⟨#[48, 49, 50, 51, 52, 53, 54, 55, 56, 57]⟩ _ hs (by decide)).mono ?_
      rintro e w' ⟨he, rfl⟩
      obtain rfl : e = .returned (.bool true) := by rw [he]; exact congrArg (fun b => Ending.returned (.bool b)) HM.out
      clear he
      go_wp2
      go_ret
      exact ⟨by rw [HN.out]; rfl, rfl⟩
    · by_cases hz : s[0] = 48 ∧ 1 < s.size
      · have HN : Hid (numI s.data.toList = -1) := by
          show _ = _
          rw [numI, if_neg]
          intro h
          have := (numOk_parts h).2.2.1 (by rw [head_at hpos, hz.1])
          rw [size_len] at this
          omega
        obtain ⟨hz1, hz2⟩ := hz
        have hz3 : ((s[0].toNat : Int) == 48) = true := by rw [hz1]; rfl
        clear hz1
        go_enter Tryz.func34, Tryz.ntmps34
        go_wp2_with fail
        refine (made_walk s ⟨#[48, 49, 50, 51, 52, 53, 54, 55, 56, 57]⟩ _ hs (by decide)).mono ?_
        rintro e w' ⟨he, rfl⟩
        obtain rfl : e = .returned (.bool true) := by rw [he]; exact congrArg (fun b => Ending.returned (.bool b)) HM.out
        clear he
        go_wp2
        go_ret
        exact ⟨by rw [HN.out]; rfl, rfl⟩
      · have HZ : Hid (s.data.toList.head? = some 48 → s.data.toList.length ≤ 1) := by
          show _ → _
          intro e
          rw [head_at hpos] at e
          rw [size_len]
          have : ¬ 1 < s.size := fun h => hz ⟨Option.some.inj e, h⟩
          omega
        have HN : Hid (numI s.data.toList = val s.data.toList) := by
          show _ = _
          rw [numI, if_pos (numOk_mk HNe.out (by rw [size_len]; omega) HZ.out HDg.out)]
        have hz' : (1 < s.size ∧ ((s[0].toNat : Int) == 48) = false) ∨ ¬ 1 < s.size := by
          by_cases h1 : 1 < s.size
          · left
            refine ⟨h1, ?_⟩
            simp only [beq_eq_false_iff_ne, ne_eq]
            intro e2
            exact hz ⟨UInt8.toNat_inj.1 (by show s[0].toNat = 48; omega), h1⟩
          · exact Or.inr h1
        have h9b : decide ((9 : Int) < (s.size : Int)) = false := by simp only [decide_eq_false_iff_not]; omega
        clear hz HZ
        rcases hz' with ⟨h1, hz⟩ | h1
        all_goals
          first
            | have h1b : decide ((1 : Int) < (s.size : Int)) = true := by simp only [decide_eq_true_eq]; omega
            | have h1b : decide ((1 : Int) < (s.size : Int)) = false := by simp only [decide_eq_false_iff_not]; omega
          go_enter Tryz.func34, Tryz.ntmps34
          go_wp2_with fail
          refine (made_walk s ⟨#[48, 49, 50, 51, 52, 53, 54, 55, 56, 57]⟩ _ hs (by decide)).mono ?_
          rintro e w' ⟨he, rfl⟩
          obtain rfl : e = .returned (.bool true) := by rw [he]; exact congrArg (fun b => Ending.returned (.bool b)) HM.out
          clear he
          go_wp2
          go_loop [4, 5] (fun v i => ∃ k : Nat, k ≤ s.size ∧ i = .int .i64 k ∧ v = .int .i64 (val (s.data.toList.take k))) (fun _ i => s.size - (intOf i).toNat)
          case atStart => exact ⟨0, Nat.zero_le _, rfl, rfl⟩
          case round =>
            obtain ⟨k, hk, rfl, rfl⟩ := hrel
            have hdk : ∀ c ∈ s.data.toList.take k, digB c = true := fun c hc => HDg.out c (List.mem_of_mem_take hc)
            have hv0 := val_nonneg _ hdk
            have hv1 := val_bound _ hdk (by simp; omega)
            clear hdk
            by_cases hlt : k < s.size
            · have HT : Hid (s.data.toList.take (k + 1) = s.data.toList.take k ++ [s[k]]) := take_snoc s k hlt
              have HV : Hid (val (s.data.toList.take (k + 1)) = val (s.data.toList.take k) * 10 + ((s[k].toNat : Int) - 48)) := by
                show _ = _
                rw [HT.out, val_snoc]
              have hr := dig_range (HDg.out s[k] (List.getElem_mem (l := s.data.toList) (n := k) (by rw [size_len]; exact hlt)))
              obtain ⟨hr1, hr2⟩ := hr
              generalize val (s.data.toList.take k) = vk at *
              go_wp2
              go_round
              case rel => exact ⟨k + 1, by omega, by go_num, by rw [HV.out]; go_num⟩
              case measure => simp [intOf]; omega
            · have HV : Hid (val (s.data.toList.take k) = val s.data.toList) := by
                show _ = _
                rw [List.take_of_length_le (by rw [size_len]; omega)]
              go_wp2
              go_ret
              exact ⟨by rw [HN.out, ← HV.out]; rfl, rfl⟩
  · have hm : madeB s.data.toList [48, 49, 50, 51, 52, 53, 54, 55, 56, 57] = false := by simpa using hm
    have HM : Hid (madeB s.data.toList [48, 49, 50, 51, 52, 53, 54, 55, 56, 57] = false) := hm
    have HN : Hid (numI s.data.toList = -1) := by
      show _ = _
      rw [numI, if_neg]
      intro h
      obtain ⟨h1, _, _, h4⟩ := numOk_parts h
      rw [made_ten, List.all_eq_true.2 h4] at hm
      simp at hm
      exact h1 (by rw [hm])
    clear hm
    go_enter Tryz.func34, Tryz.ntmps34
    go_wp2_with fail
    refine (made_walk s ⟨#[48, 49, 50, 51, 52, 53, 54, 55, 56, 57]⟩ _ hs (by decide)).mono ?_
    rintro e w' ⟨he, rfl⟩
    obtain rfl : e = .returned (.bool false) := by rw [he]; exact congrArg (fun b => Ending.returned (.bool b)) HM.out
    clear he
    go_wp2
    go_ret
    exact ⟨by rw [HN.out]; rfl, rfl⟩
end Go.Proofs.YtoeolaienpopfaaGreatDoor
