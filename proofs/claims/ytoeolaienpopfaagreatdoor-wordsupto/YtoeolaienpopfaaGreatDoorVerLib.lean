/- The library's Split, Cut and CutPrefix, and the model's order of texts, in the words of the plain functions on versions. -/
import Derived.Test.YtoeolaienpopfaaGreatDoorVerMath
import Derived.Lib.Split
import Derived.Lib.Small
import Derived.Lib.IndexBytes
import Derived.WalkKit
namespace Go.Proofs.YtoeolaienpopfaaGreatDoor
open Go.Lib

theorem spl_miss : ∀ (l : List UInt8), indexByte l 46 = -1 → spl l = [l]
  | [], _ => rfl
  | b :: l, h => by
    unfold indexByte at h
    by_cases hb : (b == 46) = true
    · rw [if_pos hb] at h; cases h
    · rw [if_neg hb] at h
      have hge := indexByte_ge l 46
      by_cases hl : (indexByte l 46 == -1) = true
      · have := spl_miss l (beq_iff_eq.1 hl)
        unfold spl
        rw [if_neg (by simpa using hb), this]
      · rw [if_neg hl] at h; omega
theorem spl_hit : ∀ (l : List UInt8) (i : Nat), indexByte l 46 = (i : Int) → spl l = l.take i :: spl (l.drop (i + 1))
  | [], i, h => by unfold indexByte at h; omega
  | b :: l, i, h => by
    unfold indexByte at h
    by_cases hb : (b == 46) = true
    · rw [if_pos hb] at h
      have : i = 0 := by omega
      subst this
      have hb' : b = 46 := by simpa using hb
      conv => lhs; unfold spl
      simp [hb']
    · rw [if_neg hb] at h
      have hge := indexByte_ge l 46
      by_cases hl : (indexByte l 46 == -1) = true
      · rw [if_pos hl] at h; omega
      · rw [if_neg hl] at h
        have hne : ¬ indexByte l 46 = -1 := by simpa using hl
        obtain ⟨j, rfl⟩ : ∃ j, i = j + 1 := ⟨i - 1, by omega⟩
        have ih := spl_hit l j (by omega)
        conv => lhs; unfold spl
        rw [if_neg (by simpa using hb), ih]
        simp

theorem split_spl : ∀ (n : Nat) (l : List UInt8), l.length ≤ n → splitK [46] 0 (count l [46]) l = spl l
  | n, l, hn => by
    have hge := index_ge l [46]
    have h1 : index l [46] = indexByte l 46 := index_one l 46
    by_cases hm : index l [46] = -1
    · rw [count_miss hm]
      show [l] = _
      rw [spl_miss l (by rw [← h1]; exact hm)]
    · obtain ⟨i, hi⟩ : ∃ i : Nat, index l [46] = (i : Int) := ⟨(index l [46]).toNat, by omega⟩
      have hroom := index_room l [46] (by omega)
      simp at hroom
      cases n with
      | zero => omega
      | succ n =>
        rw [count_hit (by simp) hi, Nat.add_comm]
        unfold splitK
        rw [if_neg (by simpa using hm), hi]
        have e : ((i : Int).toNat + 0) = i := by omega
        have e2 : ((i : Int).toNat + ([46] : List UInt8).length) = i + 1 := by simp
        rw [e, e2]
        have := split_spl n (l.drop (i + 1)) (by simp; omega)
        simp only [List.length_cons, List.length_nil, Nat.zero_add] at *
        rw [this, spl_hit l i (by rw [← h1]; exact hi)]
theorem count_spl : ∀ (n : Nat) (l : List UInt8), l.length ≤ n → count l [46] + 1 = (spl l).length
  | n, l, hn => by
    have hge := index_ge l [46]
    have h1 : index l [46] = indexByte l 46 := index_one l 46
    by_cases hm : index l [46] = -1
    · rw [count_miss hm, spl_miss l (by rw [← h1]; exact hm)]; rfl
    · obtain ⟨i, hi⟩ : ∃ i : Nat, index l [46] = (i : Int) := ⟨(index l [46]).toNat, by omega⟩
      have hroom := index_room l [46] (by omega)
      simp at hroom
      cases n with
      | zero => omega
      | succ n =>
        have := count_spl n (l.drop (i + 1)) (by simp; omega)
        rw [count_hit (by simp) hi, spl_hit l i (by rw [← h1]; exact hi)]
        simp only [List.length_cons, List.length_nil, Nat.zero_add] at *
        omega
theorem splitB_spl (s : ByteArray) : (splitB ⟨#[46]⟩ 0 (countB s ⟨#[46]⟩) s).map (·.data.toList) = spl s.data.toList := by
  rw [splitB_data]
  exact split_spl _ _ (Nat.le_refl _)
theorem countB_spl (s : ByteArray) : countB s ⟨#[46]⟩ + 1 = (spl s.data.toList).length := count_spl _ _ (Nat.le_refl _)

theorem cutD_miss : ∀ (l : List UInt8), indexByte l 45 = -1 → cutD l = (l, [], false)
  | [], _ => rfl
  | b :: l, h => by
    unfold indexByte at h
    by_cases hb : (b == 45) = true
    · rw [if_pos hb] at h; cases h
    · rw [if_neg hb] at h
      have hge := indexByte_ge l 45
      by_cases hl : (indexByte l 45 == -1) = true
      · have := cutD_miss l (beq_iff_eq.1 hl)
        unfold cutD
        rw [if_neg (by simpa using hb), this]
      · rw [if_neg hl] at h; omega
theorem cutD_hit : ∀ (l : List UInt8) (i : Nat), indexByte l 45 = (i : Int) → cutD l = (l.take i, l.drop (i + 1), true)
  | [], i, h => by unfold indexByte at h; omega
  | b :: l, i, h => by
    unfold indexByte at h
    by_cases hb : (b == 45) = true
    · rw [if_pos hb] at h
      have : i = 0 := by omega
      subst this
      have hb' : b = 45 := by simpa using hb
      unfold cutD
      simp [hb']
    · rw [if_neg hb] at h
      have hge := indexByte_ge l 45
      by_cases hl : (indexByte l 45 == -1) = true
      · rw [if_pos hl] at h; omega
      · rw [if_neg hl] at h
        have hne : ¬ indexByte l 45 = -1 := by simpa using hl
        obtain ⟨j, rfl⟩ : ∃ j, i = j + 1 := ⟨i - 1, by omega⟩
        have ih := cutD_hit l j (by omega)
        unfold cutD
        rw [if_neg (by simpa using hb), ih]
        simp
theorem cut_cutD (l : List UInt8) : Lib.cut l [45] = cutD l := by
  have hge := index_ge l [45]
  have h1 : index l [45] = indexByte l 45 := index_one l 45
  unfold Lib.cut
  by_cases hm : index l [45] = -1
  · rw [if_neg (by omega), cutD_miss l (by rw [← h1]; exact hm)]
  · obtain ⟨i, hi⟩ : ∃ i : Nat, index l [45] = (i : Int) := ⟨(index l [45]).toNat, by omega⟩
    rw [if_pos (by omega), hi, cutD_hit l i (by rw [← h1]; exact hi)]
    simp
theorem prefix_v (c : UInt8) (r : List UInt8) (h : c = 118) : Lib.hasPrefix (c :: r) [118] = true ∧ Lib.trimPrefix (c :: r) [118] = r := by
  subst h; simp [Lib.hasPrefix, Lib.trimPrefix]
theorem prefix_nil : Lib.hasPrefix [] [118] = false := rfl
theorem prefix_not (c : UInt8) (r : List UInt8) (h : c ≠ 118) : Lib.hasPrefix (c :: r) [118] = false := by
  simp [Lib.hasPrefix, List.isPrefixOf]; exact fun e => h e.symm
theorem compareInt_cmpI (x y : Int) : Lib.compareInt x y = cmpI x y := rfl

theorem u8_lt_iff (a b : UInt8) : a < b ↔ a.toNat < b.toNat := UInt8.lt_iff_toNat_lt
theorem bytesLess_iff : ∀ (a b : List UInt8), Op.bytesLess a b = decide (cmpB a b = -1)
  | [], [] => by decide
  | [], _ :: _ => by simp [Op.bytesLess, cmpB, lexC]
  | _ :: _, [] => by simp [Op.bytesLess, cmpB, lexC]
  | a :: x, b :: y => by
    have ih := bytesLess_iff x y
    have hcb : cmpB (a :: x) (b :: y) = if cmpI a.toNat b.toNat = 0 then cmpB x y else cmpI a.toNat b.toNat := rfl
    unfold Op.bytesLess
    rw [ih, hcb]
    by_cases h1 : a.toNat < b.toNat
    · have hlt : a < b := (u8_lt_iff a b).2 h1
      have : cmpI a.toNat b.toNat = -1 := by unfold cmpI; rw [if_pos (by omega)]
      simp [hlt, this]
    · have hlt : ¬ a < b := fun h => h1 ((u8_lt_iff a b).1 h)
      by_cases h2 : b.toNat < a.toNat
      · have : cmpI a.toNat b.toNat = 1 := by unfold cmpI; rw [if_neg (by omega), if_pos (by omega)]
        have hne : (a == b) = false := by simp; rintro rfl; omega
        simp [hlt, this, hne]
      · have : cmpI a.toNat b.toNat = 0 := by unfold cmpI; rw [if_neg (by omega), if_neg (by omega)]
        have hab : a = b := UInt8.toNat_inj.1 (by omega)
        subst hab
        rw [this]
        simp
/-- What cmp.Compare tells of two texts. -/
theorem cmpB_tests (a b : List UInt8) : (Op.bytesLess a b = true → cmpB a b = -1) ∧ (Op.bytesLess a b = false → (a == b) = true → cmpB a b = 0) ∧ (Op.bytesLess a b = false → (a == b) = false → cmpB a b = 1) := by
  rw [bytesLess_iff]
  have hr := cmpB_good.rng a b
  have h0 := cmpB_good.eq0 a b trivial trivial
  refine ⟨fun h => by simpa using h, fun _ h => h0.2 (by simpa using h), fun h k => ?_⟩
  have hk : a ≠ b := by simpa using k
  have : ¬ cmpB a b = -1 := by simpa using h
  have : ¬ cmpB a b = 0 := fun e => hk (h0.1 e)
  omega
end Go.Proofs.YtoeolaienpopfaaGreatDoor
