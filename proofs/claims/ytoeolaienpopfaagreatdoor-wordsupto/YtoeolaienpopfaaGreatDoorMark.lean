/- names.parseMark: what it answers of every text of at most 30 bytes. -/
import Derived.Test.YtoeolaienpopfaaGreatDoorLeaf
namespace Go.Proofs.YtoeolaienpopfaaGreatDoor
open Go.RowKit

/-- How parseMark ends. -/
def MarkEnd (s : ByteArray) (e : Ending) : Prop :=
  (markOk s.data.toList = true ∧ e = .returned (.tuple #[.agg #[.string s, .bool (isNum s.data.toList), .int .i64 (if isNum s.data.toList then val s.data.toList else 0)], .nilIface])) ∨
  (markOk s.data.toList = false ∧ ∃ x, e = .returned (.tuple #[.agg #[.string ⟨#[]⟩, .bool false, .int .i64 0], .iface 142 x]))

theorem all_snoc (l : List UInt8) (c : UInt8) (f : UInt8 → Bool) : (l ++ [c]).all f = (l.all f && f c) := by simp
theorem below_one (w : World) (o : Obj) : Below w.heap.size w (w.alloc o) := (Below.refl _ w).alloc (Nat.le_refl _) _

set_option maxHeartbeats 2000000 in
theorem parseMark_walk (s : ByteArray) (w : World) (a0 a1 : Addr) (m : Int) (hs : s.size ≤ 1099511627776) (hW : VerW a0 a1 m w) :
    Calls Tryz.prog 80 #[.string s] w fun e w' => MarkEnd s e ∧ Below w.heap.size w w' := by
  obtain ⟨x1, hx1⟩ := hW.empty
  obtain ⟨x3, hx3⟩ := hW.byte
  by_cases h0 : s.size = 0
  · have hb := str_empty h0
    have HN : Hid (markOk s.data.toList = false) := by
      show _ = _
      rw [nil_of_size h0]; rfl
    have hl1 := lt_of_cell hx1
    clear h0 hW
    go_enter Tryz.func80, Tryz.ntmps80
    go_wp2
    go_region
    all_goals (try go_wp2)
    exact bodyPost_ret (v := .tuple #[.agg #[.string ⟨#[]⟩, .bool false, .int .i64 0], .iface 142 x1]) (by simp [results, Tryz.results80, go_sem]) rfl ⟨Or.inr ⟨HN.out, _, rfl⟩, by repeat (first | exact below_one _ _ | refine Below.drew ?_)⟩
  · have hb := str_nonempty h0
    have hl1 := lt_of_cell hx3
    have hWa : VerW a0 a1 m (w.alloc (.cells #[.string ⟨#[]⟩, .bool false, .int .i64 0] 97)) := hW.below (below_one _ _)
    have HNe : Hid (s.data.toList ≠ []) := by
      show _ ≠ _
      intro e
      rw [← size_len, e] at h0
      exact h0 rfl
    clear hW
    go_enter Tryz.func80, Tryz.ntmps80
    go_wp2
    go_loop [4, 14] (fun v i => ∃ k : Nat, k ≤ s.size ∧ i = .int .i64 k ∧ v = .bool ((s.data.toList.take k).all digB) ∧ Hid ((s.data.toList.take k).all markB = true)) (fun _ i => s.size - (intOf i).toNat)
    case atStart => exact ⟨0, Nat.zero_le _, rfl, rfl, rfl⟩
    case round =>
      obtain ⟨k, hk, rfl, rfl, HM⟩ := hrel
      by_cases hlt : k < s.size
      · have HT : Hid (s.data.toList.take (k + 1) = s.data.toList.take k ++ [s[k]]) := take_snoc s k hlt
        by_cases hm : markB s[k] = true
        · have HM' : Hid ((s.data.toList.take (k + 1)).all markB = true) := by
            show _ = _
            rw [HT.out, all_snoc, HM.out, hm]; rfl
          have HA : Hid ((s.data.toList.take (k + 1)).all digB = ((s.data.toList.take k).all digB && digB s[k])) := by
            show _ = _
            rw [HT.out, all_snoc]
          have HMk : Hid (markB s[k] = true) := hm
          clear hm HM
          generalize (s.data.toList.take k).all digB = b at *
          go_wp2_with fail
          refine (isMarkByte_B s[k] _).mono ?_
          rintro e w' ⟨rfl, rfl⟩
          rw [HMk.out]
          cases b
          · go_wp2
            go_round
            case rel => exact ⟨k + 1, by omega, by go_num, by rw [HA.out]; rfl, HM'⟩
            case measure => simp [intOf]; omega
          · go_wp2_with fail
            refine (isDigit_B s[k] _).mono ?_
            rintro e w' ⟨rfl, rfl⟩
            generalize digB s[k] = d at *
            go_wp2
            go_round
            case rel => exact ⟨k + 1, by omega, by go_num, by rw [HA.out]; rfl, HM'⟩
            case measure => simp [intOf]; omega
        · have hm : markB s[k] = false := by simpa using hm
          have HN : Hid (markOk s.data.toList = false) := by
            show _ = _
            rw [← Bool.not_eq_true]
            intro h
            simp only [markOk, Bool.and_eq_true] at h
            have := List.all_eq_true.1 h.1.2 s[k] (List.getElem_mem (l := s.data.toList) (n := k) (by rw [size_len]; exact hlt))
            rw [hm] at this
            cases this
          have HMk : Hid (markB s[k] = false) := hm
          clear hm
          go_wp2_with fail
          refine (isMarkByte_B s[k] _).mono ?_
          rintro e w' ⟨rfl, rfl⟩
          rw [HMk.out]
          go_wp2
          go_region
          all_goals (try go_wp2)
          exact bodyPost_ret (v := .tuple #[.agg #[.string ⟨#[]⟩, .bool false, .int .i64 0], .iface 142 x3]) (by simp [results, Tryz.results80, go_sem]) rfl ⟨Or.inr ⟨HN.out, _, rfl⟩, by repeat (first | exact below_one _ _ | refine Below.drew ?_)⟩
      · have ht : s.data.toList.take k = s.data.toList := List.take_of_length_le (by rw [size_len]; omega)
        have HMa : Hid (s.data.toList.all markB = true) := by show _ = _; rw [← ht]; exact HM.out
        have HI : Hid ((s.data.toList.take k).all digB = isNum s.data.toList) := by show _ = _; rw [ht]; rfl
        clear ht HM
        generalize (s.data.toList.take k).all digB = b at *
        cases b
        · have HN : Hid (markOk s.data.toList = true) := by
            show _ = _
            have h1 : s.data.toList.isEmpty = false := by rw [List.isEmpty_eq_false_iff]; exact HNe.out
            rw [markOk, HMa.out, ← HI.out, h1]; rfl
          go_wp2
          refine bodyPost_ret (v := .tuple #[.agg #[.string s, .bool false, .int .i64 0], .nilIface]) (by simp [results, Tryz.results80, go_sem]) rfl ⟨Or.inl ⟨HN.out, by rw [← HI.out]; rfl⟩, ?_⟩
          exact below_one _ _
        · have HN : Hid (markOk s.data.toList = numOk s.data.toList) := by
            show _ = _
            have h1 : s.data.toList.isEmpty = false := by rw [List.isEmpty_eq_false_iff]; exact HNe.out
            rw [markOk, HMa.out, ← HI.out, h1]; rfl
          go_wp2_with fail
          refine (parseNumber_walk s _ a0 a1 m hs hWa).mono ?_
          rintro e w1 ⟨he, hb1⟩
          have hz := hb1.size
          have hc0 := cell_below (a := ⟨w.heap.size, 0, none⟩) (v := .string ⟨#[]⟩) hb1 (by simp)
          have hc1 := cell_below (a := ⟨w.heap.size, 1, none⟩) (v := .bool false) hb1 (by simp)
          have hc2 := cell_below (a := ⟨w.heap.size, 2, none⟩) (v := .int .i64 0) hb1 (by simp)
          have hf0 : w1.frozen? ⟨w.heap.size, 0, none⟩ = false := by rw [hb1.frozen (p := ⟨w.heap.size, 0, none⟩) (by simp)]; simp
          have hf1 : w1.frozen? ⟨w.heap.size, 1, none⟩ = false := by rw [hb1.frozen (p := ⟨w.heap.size, 1, none⟩) (by simp)]; simp
          have hf2 : w1.frozen? ⟨w.heap.size, 2, none⟩ = false := by rw [hb1.frozen (p := ⟨w.heap.size, 2, none⟩) (by simp)]; simp
          have HB : Below w.heap.size w w1 := (below_one w _).trans (hb1.mono (by simp))
          rcases he with ⟨hn, rfl⟩ | ⟨hn, x, rfl⟩
          · have HO : Hid (markOk s.data.toList = true) := HN.out.trans hn
            clear hn hb1 hWa
            generalize hv : val s.data.toList = v at *
            have HV : Hid (val s.data.toList = v) := hv
            clear hv
            go_wp2
            refine bodyPost_ret (v := .tuple #[.agg #[.string s, .bool true, .int .i64 v], .nilIface]) (by simp [results, Tryz.results80, go_sem, hc0, hc1, hc2]) rfl ⟨Or.inl ⟨HO.out, by rw [← HI.out, HV.out]; rfl⟩, ?_⟩
            exact ((HB.setCell (p := ⟨w.heap.size, 0, none⟩) (Nat.le_refl _) _).setCell (p := ⟨w.heap.size, 1, none⟩) (Nat.le_refl _) _).setCell (p := ⟨w.heap.size, 2, none⟩) (Nat.le_refl _) _
          · have HO : Hid (markOk s.data.toList = false) := HN.out.trans hn
            clear hn hb1 hWa
            go_wp2
            refine bodyPost_ret (v := .tuple #[.agg #[.string ⟨#[]⟩, .bool false, .int .i64 0], .iface 142 x]) (by simp [results, Tryz.results80, go_sem, hc0, hc1, hc2]) rfl ⟨Or.inr ⟨HO.out, _, rfl⟩, ?_⟩
            exact ((HB.setCell (p := ⟨w.heap.size, 0, none⟩) (Nat.le_refl _) _).setCell (p := ⟨w.heap.size, 1, none⟩) (Nat.le_refl _) _).setCell (p := ⟨w.heap.size, 2, none⟩) (Nat.le_refl _) _
end Go.Proofs.YtoeolaienpopfaaGreatDoor
