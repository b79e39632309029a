/- The document's own among, made, number, order, orderText, orderMark: each answers what the plain functions on lists tell. -/
import Derived.Test.YtoeolaienpopfaaGreatDoorComp
namespace Go.Proofs.YtoeolaienpopfaaGreatDoor
open Go.RowKit

theorem u8_beq (c d : UInt8) : ((c.toNat : Int) == (d.toNat : Int)) = (c == d) := by
  rw [Bool.eq_iff_iff]
  simp only [beq_iff_eq]
  exact ⟨fun e => UInt8.toNat_inj.1 (by omega), fun e => by rw [e]⟩
theorem contains_snoc (l : List UInt8) (d c : UInt8) : (l ++ [d]).contains c = (l.contains c || d == c) := by
  rw [Bool.eq_iff_iff]; simp; constructor <;> (rintro (h | h) <;> simp [h])

/-- Is c a byte of the text? -/
def hasB (l : List UInt8) (c : UInt8) : Bool := l.contains c
theorem among_walk (c : UInt8) (s : ByteArray) (w : World) (hs : s.size ≤ 1099511627776) :
    Calls Tryz.prog 23 #[.int .u8 c.toNat, .string s] w fun e w' => e = .returned (.bool (hasB s.data.toList c)) ∧ w' = w := by
  go_enter Tryz.func23, Tryz.ntmps23
  go_wp2
  go_loop [5] (fun i => ∃ k : Nat, k ≤ s.size ∧ i = .int .i64 k ∧ Hid (hasB (s.data.toList.take k) c = false)) (fun i => s.size - (intOf i).toNat)
  case atStart => exact ⟨0, Nat.zero_le _, rfl, rfl⟩
  case round =>
    obtain ⟨k, hk, rfl, HN⟩ := hrel
    by_cases hlt : k < s.size
    · have HT : Hid (s.data.toList.take (k + 1) = s.data.toList.take k ++ [s[k]]) := take_snoc s k hlt
      have hb := u8_beq s[k] c
      by_cases hc : (s[k] == c) = true
      · rw [hc] at hb
        have HR : Hid (hasB s.data.toList c = true) := by
          show _ = _
          rw [hasB, ← (beq_iff_eq.1 hc), List.contains_iff_mem]
          exact List.getElem_mem (l := s.data.toList) (n := k) (by rw [size_len]; exact hlt)
        clear hc
        go_wp2
        go_ret
        exact ⟨by rw [HR.out]; rfl, rfl⟩
      · have hc : (s[k] == c) = false := by simpa using hc
        rw [hc] at hb
        have HN' : Hid (hasB (s.data.toList.take (k + 1)) c = false) := by
          show _ = _
          have hn : (s.data.toList.take k).contains c = false := HN.out
          rw [hasB, HT.out, contains_snoc, hn, hc]; rfl
        clear hc
        go_wp2
        go_round
        case rel => exact ⟨k + 1, by omega, by go_num, HN'⟩
        case measure => simp [intOf]; omega
    · have HR : Hid (hasB s.data.toList c = false) := by
        show _ = _
        have ht : s.data.toList.take k = s.data.toList := List.take_of_length_le (by rw [size_len]; omega)
        rw [← ht]; exact HN.out
      go_wp2
      go_ret
      exact ⟨by rw [HR.out]; rfl, rfl⟩

/-- Is a text made of these bytes alone, of one at least? -/
def madeB (l o : List UInt8) : Bool := l.all (hasB o) && !l.isEmpty
theorem made_walk (s o : ByteArray) (w : World) (hs : s.size ≤ 1099511627776) (ho : o.size ≤ 1099511627776) :
    Calls Tryz.prog 33 #[.string s, .string o] w fun e w' => e = .returned (.bool (madeB s.data.toList o.data.toList)) ∧ w' = w := by
  go_enter Tryz.func33, Tryz.ntmps33
  go_wp2
  go_loop [5] (fun i => ∃ k : Nat, k ≤ s.size ∧ i = .int .i64 k ∧ Hid ((s.data.toList.take k).all (hasB o.data.toList) = true)) (fun i => s.size - (intOf i).toNat)
  case atStart => exact ⟨0, Nat.zero_le _, rfl, rfl⟩
  case round =>
    obtain ⟨k, hk, rfl, HN⟩ := hrel
    by_cases hlt : k < s.size
    · have HT : Hid (s.data.toList.take (k + 1) = s.data.toList.take k ++ [s[k]]) := take_snoc s k hlt
      go_wp2_with fail
      refine (among_walk s[k] o _ ho).mono ?_
      rintro e w' ⟨rfl, rfl⟩
      by_cases hc : hasB o.data.toList s[k] = true
      · have HN' : Hid ((s.data.toList.take (k + 1)).all (hasB o.data.toList) = true) := by
          show _ = _
          rw [HT.out, List.all_append, HN.out]
          simp only [List.all_cons, List.all_nil, Bool.and_true, Bool.true_and]
          exact hc
        rw [hc]
        clear hc
        go_wp2
        go_round
        case rel => exact ⟨k + 1, by omega, by go_num, HN'⟩
        case measure => simp [intOf]; omega
      · have hc : hasB o.data.toList s[k] = false := by simpa using hc
        have HR : Hid (madeB s.data.toList o.data.toList = false) := by
          show _ = _
          have : s.data.toList.all (hasB o.data.toList) = false := by
            rw [← Bool.not_eq_true]
            intro h
            have := List.all_eq_true.1 h s[k] (List.getElem_mem (l := s.data.toList) (n := k) (by rw [size_len]; exact hlt))
            rw [hc] at this
            cases this
          rw [madeB, this]; rfl
        rw [hc]
        clear hc
        go_wp2
        go_ret
        exact ⟨by rw [HR.out]; rfl, rfl⟩
    · have HR : Hid (madeB s.data.toList o.data.toList = decide ((0 : Int) < (s.size : Int))) := by
        show _ = _
        have ht : s.data.toList.take k = s.data.toList := List.take_of_length_le (by rw [size_len]; omega)
        have ha := HN.out
        rw [ht] at ha
        rw [madeB, ha, Bool.true_and, Bool.eq_iff_iff]
        simp only [Bool.not_eq_true', List.isEmpty_eq_false_iff, decide_eq_true_eq]
        rw [← size_len]
        constructor
        · intro h; have := List.length_pos_iff.2 h; omega
        · intro h e; rw [e] at h; simp at h
      go_wp2
      go_ret
      exact ⟨by rw [HR.out]; simp, rfl⟩

/-- ten: the ten digits. -/
def tenB : ByteArray := ⟨#[48, 49, 50, 51, 52, 53, 54, 55, 56, 57]⟩
theorem u8_iff (c d : UInt8) : c = d ↔ c.toNat = d.toNat := UInt8.toNat_inj.symm
theorem ten_contains (c : UInt8) : ([48, 49, 50, 51, 52, 53, 54, 55, 56, 57] : List UInt8).contains c = digB c := by
  rw [Bool.eq_iff_iff, digB]
  simp only [List.contains_iff_mem, List.mem_cons, List.not_mem_nil, or_false, decide_eq_true_eq, u8_iff]
  constructor
  · intro h; have e : (48 : UInt8).toNat = 48 ∧ (49 : UInt8).toNat = 49 ∧ (50 : UInt8).toNat = 50 ∧ (51 : UInt8).toNat = 51 ∧ (52 : UInt8).toNat = 52 ∧ (53 : UInt8).toNat = 53 ∧ (54 : UInt8).toNat = 54 ∧ (55 : UInt8).toNat = 55 ∧ (56 : UInt8).toNat = 56 ∧ (57 : UInt8).toNat = 57 := by decide
    omega
  · intro h; have e : (48 : UInt8).toNat = 48 ∧ (49 : UInt8).toNat = 49 ∧ (50 : UInt8).toNat = 50 ∧ (51 : UInt8).toNat = 51 ∧ (52 : UInt8).toNat = 52 ∧ (53 : UInt8).toNat = 53 ∧ (54 : UInt8).toNat = 54 ∧ (55 : UInt8).toNat = 55 ∧ (56 : UInt8).toNat = 56 ∧ (57 : UInt8).toNat = 57 := by decide
    omega
theorem made_ten (l : List UInt8) : madeB l [48, 49, 50, 51, 52, 53, 54, 55, 56, 57] = (l.all digB && !l.isEmpty) := by
  unfold madeB
  have : hasB ([48, 49, 50, 51, 52, 53, 54, 55, 56, 57] : List UInt8) = digB := funext ten_contains
  rw [this]

theorem refOrder_walk (x y : Int) (w : World) : Calls Tryz.prog 36 #[.int .i64 x, .int .i64 y] w fun e w' => e = .returned (.int .i64 (cmpI x y)) ∧ w' = w := by
  by_cases h1 : x < y
  · have HC : Hid (cmpI x y = -1) := by show _ = _; rw [cmpI, if_pos h1]
    go_enter Tryz.func36, Tryz.ntmps36
    go_wp2
    go_ret
    exact ⟨by rw [HC.out]; rfl, rfl⟩
  · by_cases h2 : y < x
    · have HC : Hid (cmpI x y = 1) := by show _ = _; rw [cmpI, if_neg h1, if_pos h2]
      go_enter Tryz.func36, Tryz.ntmps36
      go_wp2
      go_ret
      exact ⟨by rw [HC.out]; rfl, rfl⟩
    · have HC : Hid (cmpI x y = 0) := by show _ = _; rw [cmpI, if_neg h1, if_neg h2]
      go_enter Tryz.func36, Tryz.ntmps36
      go_wp2
      go_ret
      exact ⟨by rw [HC.out]; rfl, rfl⟩
end Go.Proofs.YtoeolaienpopfaaGreatDoor
