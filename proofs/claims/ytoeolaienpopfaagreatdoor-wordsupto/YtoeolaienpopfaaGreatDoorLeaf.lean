/- names.isDigit, isMarkByte, parseNumber, parseMark: what they answer of every byte and of every text of at most 30 bytes. -/
import Derived.Test.YtoeolaienpopfaaGreatDoorProg
import Derived.Test.YtoeolaienpopfaaGreatDoorMem
import Derived.Test.YtoeolaienpopfaaGreatDoorEscMath
import Derived.Test.YtoeolaienpopfaaGreatDoorSmall
import Derived.Test.YtoeolaienpopfaaGreatDoorVerLib
import Derived.LaidEql
import Derived.RowKitTokens
import Derived.BigCall
import Derived.BigQuiet
import Derived.Deep.QuietTactic
namespace Go.Proofs.YtoeolaienpopfaaGreatDoor
open Go.RowKit

theorem isDigit_yes (n : Int) (w : World) (h1 : 48 ≤ n) (h2 : n ≤ 57) : Calls Tryz.prog 76 #[.int .u8 n] w fun e w' => e = .returned (.bool true) ∧ w' = w := by
  go_enter Tryz.func76, Tryz.ntmps76
  go_wp2
  go_ret
  exact ⟨rfl, rfl⟩
theorem isDigit_no (n : Int) (w : World) (h : ¬ (48 ≤ n ∧ n ≤ 57)) : Calls Tryz.prog 76 #[.int .u8 n] w fun e w' => e = .returned (.bool false) ∧ w' = w := by
  by_cases h1 : 48 ≤ n
  · have h2 : ¬ n ≤ 57 := fun h2 => h ⟨h1, h2⟩
    clear h
    go_enter Tryz.func76, Tryz.ntmps76
    go_wp2
    go_ret
    exact ⟨rfl, rfl⟩
  · clear h
    go_enter Tryz.func76, Tryz.ntmps76
    go_wp2
    go_ret
    exact ⟨rfl, rfl⟩
theorem isDigit_B (c : UInt8) (w : World) : Calls Tryz.prog 76 #[.int .u8 c.toNat] w fun e w' => e = .returned (.bool (digB c)) ∧ w' = w := by
  by_cases h : digB c = true
  · rw [h]; have := dig_range h; exact isDigit_yes _ _ (by omega) (by omega)
  · have h : digB c = false := by simpa using h
    rw [h]
    refine isDigit_no _ _ ?_
    simp only [digB, decide_eq_false_iff_not] at h
    omega
set_option maxHeartbeats 400000 in
theorem isMarkByte_B (c : UInt8) (w : World) : Calls Tryz.prog 64 #[.int .u8 c.toNat] w fun e w' => e = .returned (.bool (markB c)) ∧ w' = w := by
  by_cases h1 : 97 ≤ (c.toNat : Int) ∧ (c.toNat : Int) ≤ 122
  · have HM : Hid (markB c = true) := by show _ = _; simp only [markB, Bool.or_eq_true, decide_eq_true_eq]; left; left; left; omega
    obtain ⟨ha, hb⟩ := h1
    go_enter Tryz.func64, Tryz.ntmps64
    go_wp2_with fail
    refine (isSmall_yes _ _ ha hb).mono ?_
    rintro e w' ⟨rfl, rfl⟩
    go_wp2
    go_ret
    exact ⟨by rw [HM.out]; rfl, rfl⟩
  · have HN1 : Hid (¬ (97 ≤ (c.toNat : Int) ∧ (c.toNat : Int) ≤ 122)) := h1
    by_cases h2 : 65 ≤ (c.toNat : Int) ∧ (c.toNat : Int) ≤ 90
    · have HM : Hid (markB c = true) := by show _ = _; simp only [markB, Bool.or_eq_true, decide_eq_true_eq]; left; left; right; omega
      obtain ⟨ha, hb⟩ := h2
      clear h1
      go_enter Tryz.func64, Tryz.ntmps64
      go_wp2_with fail
      refine (isSmall_no _ _ HN1.out).mono ?_
      rintro e w' ⟨rfl, rfl⟩
      go_wp2_with fail
      refine (isCapital_yes _ _ ha hb).mono ?_
      rintro e w' ⟨rfl, rfl⟩
      go_wp2
      go_ret
      exact ⟨by rw [HM.out]; rfl, rfl⟩
    · have HN2 : Hid (¬ (65 ≤ (c.toNat : Int) ∧ (c.toNat : Int) ≤ 90)) := h2
      have e1 : (decide (97 ≤ c.toNat ∧ c.toNat ≤ 122)) = false := by simp only [decide_eq_false_iff_not]; omega
      have e2 : (decide (65 ≤ c.toNat ∧ c.toNat ≤ 90)) = false := by simp only [decide_eq_false_iff_not]; omega
      clear h1 h2
      by_cases h3 : digB c = true
      · have HM : Hid (markB c = true) := by show _ = _; simp [markB, h3]
        have HD : Hid (digB c = true) := h3
        clear h3 e1 e2
        go_enter Tryz.func64, Tryz.ntmps64
        go_wp2_with fail
        refine (isSmall_no _ _ HN1.out).mono ?_
        rintro e w' ⟨rfl, rfl⟩
        go_wp2_with fail
        refine (isCapital_no _ _ HN2.out).mono ?_
        rintro e w' ⟨rfl, rfl⟩
        go_wp2_with fail
        refine (isDigit_B c _).mono ?_
        rintro e w' ⟨rfl, rfl⟩
        rw [HD.out]
        go_wp2
        go_ret
        exact ⟨by rw [HM.out]; rfl, rfl⟩
      · have h3 : digB c = false := by simpa using h3
        have HD : Hid (digB c = false) := h3
        have HM : Hid (markB c = ((c.toNat : Int) == 45)) := by
          show _ = _
          rw [markB, e1, e2, h3, Bool.eq_iff_iff]
          simp only [Bool.false_or, decide_eq_true_eq, beq_iff_eq]
          exact ⟨fun e => by subst e; rfl, fun e => UInt8.toNat_inj.1 (by show c.toNat = 45; omega)⟩
        clear h3 e1 e2
        go_enter Tryz.func64, Tryz.ntmps64
        go_wp2_with fail
        refine (isSmall_no _ _ HN1.out).mono ?_
        rintro e w' ⟨rfl, rfl⟩
        go_wp2_with fail
        refine (isCapital_no _ _ HN2.out).mono ?_
        rintro e w' ⟨rfl, rfl⟩
        go_wp2_with fail
        refine (isDigit_B c _).mono ?_
        rintro e w' ⟨rfl, rfl⟩
        rw [HD.out]
        go_wp2
        go_ret
        exact ⟨by rw [HM.out]; rfl, rfl⟩

/-- The variables that names.parse and what it calls read: each an error of errors.New's make; the library's MaxLen, whatever it is. -/
structure VerW (a0 a1 : Addr) (m : Int) (w : World) : Prop where
  ver : w.cell? ⟨4, 0, none⟩ = some (.iface 142 (.pointer (some a1)))
  empty : ∃ x, w.cell? ⟨19, 0, none⟩ = some (.iface 142 x)
  long : ∃ x, w.cell? ⟨15, 0, none⟩ = some (.iface 142 x)
  byte : ∃ x, w.cell? ⟨16, 0, none⟩ = some (.iface 142 x)
  zero : ∃ x, w.cell? ⟨23, 0, none⟩ = some (.iface 142 x)
  shape : ∃ x, w.cell? ⟨21, 0, none⟩ = some (.iface 142 x)
  maxLen : w.cell? ⟨22, 0, none⟩ = some (.int .i64 m)
theorem VerW.below {a0 a1 : Addr} {m : Int} {w w' : World} (h : VerW a0 a1 m w) (hb : Below w.heap.size w w') : VerW a0 a1 m w' where
  ver := cell_below hb h.ver
  empty := by obtain ⟨x, e⟩ := h.empty; exact ⟨x, cell_below hb e⟩
  long := by obtain ⟨x, e⟩ := h.long; exact ⟨x, cell_below hb e⟩
  byte := by obtain ⟨x, e⟩ := h.byte; exact ⟨x, cell_below hb e⟩
  zero := by obtain ⟨x, e⟩ := h.zero; exact ⟨x, cell_below hb e⟩
  shape := by obtain ⟨x, e⟩ := h.shape; exact ⟨x, cell_below hb e⟩
  maxLen := cell_below hb h.maxLen

theorem below_drewN {w : World} (n : Nat) : Below w.heap.size w (w.drewN n) := ⟨rfl, rfl, rfl, Nat.le_refl _, fun _ _ => rfl⟩

/-- How parseNumber ends. -/
def NumEnd (l : List UInt8) (e : Ending) : Prop :=
  (numOk l = true ∧ e = .returned (.tuple #[.int .i64 (val l), .nilIface])) ∨ (numOk l = false ∧ ∃ x, e = .returned (.tuple #[.int .i64 0, .iface 142 x]))

theorem size_len (s : ByteArray) : s.data.toList.length = s.size := by simp
theorem nil_of_size {s : ByteArray} (h : s.size = 0) : s.data.toList = [] := List.eq_nil_of_length_eq_zero ((size_len s).trans h)
theorem str_empty {s : ByteArray} (h : s.size = 0) : s.toList.isEmpty = true := by rw [ByteArray.toList_eq, nil_of_size h]; rfl
theorem str_nonempty {s : ByteArray} (h : s.size ≠ 0) : s.toList.isEmpty = false := by
  rw [ByteArray.toList_eq, List.isEmpty_eq_false_iff]
  intro e
  apply h
  rw [← size_len, e]; rfl
theorem head_at {s : ByteArray} (h : 0 < s.size) : s.data.toList.head? = some s[0] := by
  rw [List.head?_eq_getElem?, List.getElem?_eq_getElem (by rw [size_len]; exact h)]; rfl

set_option maxHeartbeats 1000000 in
theorem parseNumber_walk (s : ByteArray) (w : World) (a0 a1 : Addr) (m : Int) (hs : s.size ≤ 1099511627776) (hW : VerW a0 a1 m w) :
    Calls Tryz.prog 79 #[.string s] w fun e w' => NumEnd s.data.toList e ∧ Below w.heap.size w w' := by
  obtain ⟨x1, hx1⟩ := hW.empty
  obtain ⟨x2, hx2⟩ := hW.long
  obtain ⟨x3, hx3⟩ := hW.byte
  obtain ⟨x4, hx4⟩ := hW.zero
  clear hW
  by_cases h0 : s.size = 0
  · have hb := str_empty h0
    have HN : Hid (numOk s.data.toList = false) := by
      show _ = _
      rw [nil_of_size h0]; rfl
    clear h0
    go_enter Tryz.func79, Tryz.ntmps79
    go_wp2
    go_quiet (fail)
    go_wp2
    go_ret2
    exact ⟨Or.inr ⟨HN.out, _, rfl⟩, below_drewN _⟩
  · have hb := str_nonempty h0
    have HNe : Hid (s.data.toList ≠ []) := by
      show _ ≠ _
      intro e
      rw [← size_len, e] at h0
      exact h0 rfl
    by_cases h9 : 9 < s.size
    · have HN : Hid (numOk s.data.toList = false) := by
        show _ = _
        rw [← Bool.not_eq_true]
        intro h
        have := (numOk_parts h).2.1
        rw [size_len] at this
        omega
      go_enter Tryz.func79, Tryz.ntmps79
      go_wp2
      go_quiet (fail)
      go_wp2
      go_ret2
      exact ⟨Or.inr ⟨HN.out, _, rfl⟩, below_drewN _⟩
    · have hpos : 0 < s.size := by omega
      by_cases hz : s[0] = 48 ∧ 1 < s.size
      · have HN : Hid (numOk s.data.toList = false) := by
          show _ = _
          rw [← Bool.not_eq_true]
          intro h
          have := (numOk_parts h).2.2.1 (by rw [head_at hpos, hz.1])
          rw [size_len] at this
          omega
        obtain ⟨hz1, hz2⟩ := hz
        have hz3 : ((s[0].toNat : Int) == 48) = true := by rw [hz1]; rfl
        clear hz1
        go_enter Tryz.func79, Tryz.ntmps79
        go_wp2
        go_quiet (fail)
        go_wp2
        go_ret2
        exact ⟨Or.inr ⟨HN.out, _, rfl⟩, below_drewN _⟩
      · have HZ : Hid (s.data.toList.head? = some 48 → s.data.toList.length ≤ 1) := by
          show _ → _
          intro e
          rw [head_at hpos] at e
          rw [size_len]
          have : ¬ 1 < s.size := fun h => hz ⟨Option.some.inj e, h⟩
          omega
        have hz' : ((s[0].toNat : Int) == 48) = false ∨ (((s[0].toNat : Int) == 48) = true ∧ ¬ 1 < s.size) := by
          by_cases e : s[0] = 48
          · exact Or.inr ⟨by rw [e]; rfl, fun h => hz ⟨e, h⟩⟩
          · left
            simp only [beq_eq_false_iff_ne, ne_eq]
            intro e2
            exact e (UInt8.toNat_inj.1 (by show s[0].toNat = 48; omega))
        clear hz
        rcases hz' with hz | ⟨hz, hz1⟩
        all_goals
          have h9b : decide ((9 : Int) < (s.size : Int)) = false := by simp only [decide_eq_false_iff_not]; omega
          try have h1b : decide ((1 : Int) < (s.size : Int)) = false := by simp only [decide_eq_false_iff_not]; omega
          go_enter Tryz.func79, Tryz.ntmps79
          go_wp2
          go_loop [4, 24] (fun v i => ∃ k : Nat, k ≤ s.size ∧ i = .int .i64 k ∧ v = .int .i64 (val (s.data.toList.take k)) ∧ Hid (∀ c ∈ s.data.toList.take k, digB c = true)) (fun _ i => s.size - (intOf i).toNat)
          case atStart => exact ⟨0, Nat.zero_le _, rfl, rfl, by intro c hc; simp at hc⟩
          case round =>
            obtain ⟨k, hk, rfl, rfl, HD⟩ := hrel
            by_cases hlt : k < s.size
            · have HT : Hid (s.data.toList.take (k + 1) = s.data.toList.take k ++ [s[k]]) := take_snoc s k hlt
              have hv0 := val_nonneg _ HD.out
              have hv1 := val_bound _ HD.out (by simp; omega)
              by_cases hd : digB s[k] = true
              · have HV : Hid (val (s.data.toList.take (k + 1)) = val (s.data.toList.take k) * 10 + ((s[k].toNat : Int) - 48)) := by
                  show _ = _
                  rw [HT.out, val_snoc]
                have HD' : Hid (∀ c ∈ s.data.toList.take (k + 1), digB c = true) := by
                  show ∀ c ∈ _, _
                  rw [HT.out]
                  intro c hc
                  rcases List.mem_append.1 hc with hc | hc
                  · exact HD.out c hc
                  · rw [List.mem_singleton.1 hc]; exact hd
                have hr := dig_range hd
                clear hd HD
                obtain ⟨hr1, hr2⟩ := hr
                generalize val (s.data.toList.take k) = vk at *
                go_wp2_with fail
                refine (isDigit_yes _ _ (by omega) (by omega)).mono ?_
                rintro e w' ⟨rfl, rfl⟩
                go_wp2
                go_round
                case rel => exact ⟨k + 1, by omega, by go_num, by rw [HV.out], HD'⟩
                case measure => simp [intOf]; omega
              · have hd : digB s[k] = false := by simpa using hd
                have HN : Hid (numOk s.data.toList = false) := by
                  show _ = _
                  rw [← Bool.not_eq_true]
                  intro h
                  have := (numOk_parts h).2.2.2 s[k] (List.getElem_mem (l := s.data.toList) (n := k) (by rw [size_len]; exact hlt))
                  rw [hd] at this
                  cases this
                have HNd : Hid (¬ ((48 : Int) ≤ (s[k].toNat : Int) ∧ (s[k].toNat : Int) ≤ 57)) := by
                  show ¬ _
                  simp only [digB, decide_eq_false_iff_not] at hd
                  omega
                clear hd
                go_wp2_with fail
                refine (isDigit_no _ _ HNd.out).mono ?_
                rintro e w' ⟨rfl, rfl⟩
                go_wp2
                go_quiet (fail)
                go_wp2
                go_ret2
                exact ⟨Or.inr ⟨HN.out, _, rfl⟩, below_drewN _⟩
            · have ht : s.data.toList.take k = s.data.toList := List.take_of_length_le (by rw [size_len]; omega)
              have HN : Hid (numOk s.data.toList = true) := by
                show _ = _
                have hd := HD.out
                rw [ht] at hd
                exact numOk_mk HNe.out (by rw [size_len]; omega) HZ.out hd
              have HV : Hid (val (s.data.toList.take k) = val s.data.toList) := by show _ = _; rw [ht]
              clear ht
              go_wp2
              go_ret2
              exact ⟨Or.inl ⟨HN.out, by rw [← HV.out]; rfl⟩, Below.refl _ _⟩
end Go.Proofs.YtoeolaienpopfaaGreatDoor
