/- The document's own Escaped, Escape and Unescape: they tell what the plain esc, escR and une tell. -/
import Derived.Test.YtoeolaienpopfaaGreatDoorRefE
import Derived.Test.YtoeolaienpopfaaGreatDoorUne
namespace Go.Proofs.YtoeolaienpopfaaGreatDoor
open Go.RowKit

def capBytes : List UInt8 := [65, 66, 67, 68, 69, 70, 71, 72, 73, 74, 75, 76, 77, 78, 79, 80, 81, 82, 83, 84, 85, 86, 87, 88, 89, 90]
theorem cap_contains (c : UInt8) : hasB capBytes c = capB c := by
  have := u8_all (fun c => hasB capBytes c == capB c) (by decide +kernel) c
  simpa using this
theorem ba_ext {a b : ByteArray} (h : a.data.toList = b.data.toList) : a = b := ByteArray.ext (Array.toList_inj.1 h)
theorem extract_one (s : ByteArray) (k : Nat) (h : k < s.size) : s.extract k (k + 1) = ⟨#[s[k]]⟩ := by
  apply ba_ext
  rw [extract_list, drop_at s k h, show k + 1 - k = 1 by omega]
  rfl
theorem add_list (l : List UInt8) (b : ByteArray) (r : List UInt8) (hb : b.data.toList = r) (hl : l.length + r.length ≤ 9223372036854775807) (wx : World) : (Op.stringOp .add ⟨l.toArray⟩ b).run Tryz.prog wx = .ok (.string ⟨(l ++ r).toArray⟩) wx := by
  have hsz : b.size = r.length := by rw [← hb, size_len]
  have hla : (ByteArray.mk l.toArray).size = l.length := by show l.toArray.size = _; simp
  rw [run_string_add_sum wx _ _ (by omega)]
  congr 2
  apply ba_ext
  rw [← hb]
  simp
theorem conv_one (wx : World) (g : Nat) (c : UInt8) (hc : wx.cell? ⟨g, 0, none⟩ = some (.int .u8 c.toNat)) (cap : Nat) : (convert 53 9 (.slice (some ⟨g, 0, none⟩) 1 cap)).run Tryz.prog wx = .ok (.string ⟨#[c]⟩) wx :=
  run_convert_bytes_back wx 53 9 5 ⟨g, 0, none⟩ cap [c] Tryz.underlying53 Tryz.underlying5 Tryz.underlying9 (fun j hj => by
    have : j = 0 := by simp at hj; exact hj
    subst this
    exact hc)

set_option maxHeartbeats 1000000 in
theorem refEscaped_walk (s : ByteArray) (w : World) (hs : s.size ≤ 1099511627776) :
    Calls Tryz.prog 24 #[.string s] w fun e w' => e = .returned (.string ⟨(esc s.data.toList).toArray⟩) ∧ Below w.heap.size w w' := by
  go_enter Tryz.func24, Tryz.ntmps24
  go_wp2
  go_loopw [3, 4] (fun o i wr => ∃ (k : Nat) (acc : List UInt8), k ≤ s.size ∧ i = .int .i64 k ∧ o = .string ⟨acc.toArray⟩ ∧ Hid (acc = esc (s.data.toList.take k)) ∧ acc.length ≤ 2 * k ∧ Below w.heap.size w wr) (fun _ i _ => s.size - (intOf i).toNat)
  case atStart => exact ⟨0, [], Nat.zero_le _, rfl, rfl, rfl, by simp, Below.refl _ _⟩
  case round =>
    obtain ⟨k, acc, hk, rfl, rfl, HA, hal, hB⟩ := hrel
    have hzr := hB.size
    by_cases hlt : k < s.size
    · have HT : Hid (s.data.toList.take (k + 1) = s.data.toList.take k ++ [s[k]]) := take_snoc s k hlt
      by_cases hc : capB s[k] = true
      · have hc' := hc
        simp only [capB, decide_eq_true_eq] at hc'
        obtain ⟨hc1, hc2⟩ := hc'
        have HC : Hid (acc ++ [33, s[k] + 32] = esc (s.data.toList.take (k + 1))) := by
          show _ = _
          rw [HT.out, HA.out, esc_append, esc_cons, escOne_cap hc, esc_nil]; simp
        have HCap : Hid (hasB capBytes s[k] = true) := by show _ = _; rw [cap_contains]; exact hc
        have a1 := add_list acc ⟨#[33]⟩ [33] rfl (by simp; omega)
        have a2 := add_list (acc ++ [33]) ⟨#[s[k] + 32]⟩ [s[k] + 32] rfl (by simp; omega)
        have hv : ((s[k] + 32).toNat : Int) = (s[k].toNat : Int) + 32 := by rw [cap_add hc]; omega
        have cv := fun (wx : World) => conv_one (wx.alloc (.cells #[.int .u8 ((s[k].toNat : Int) + 32)] 5)) wx.heap.size (s[k] + 32) (by rw [hv]; simp)
        clear hc hv
        go_wp2_with fail
        refine (among_walk s[k] _ _ (by decide)).mono ?_
        rintro e w' ⟨he, rfl⟩
        have he' : e = .returned (.bool true) := by rw [he]; exact congrArg (fun b => Ending.returned (.bool b)) HCap.out
        clear he
        subst he'
        go_wp2
        go_roundw
        case rel => exact ⟨k + 1, _, by omega, by go_num, rfl, HC, by simp; omega, hB.alloc hzr _⟩
        case measure => simp [intOf]; omega
      · have hc : capB s[k] = false := by simpa using hc
        have HC : Hid ((acc ++ [s[k]]) = esc (s.data.toList.take (k + 1))) := by
          show _ = _
          rw [HT.out, HA.out, esc_append, esc_cons, escOne_not hc, esc_nil]; simp
        have HCap : Hid (hasB capBytes s[k] = false) := by show _ = _; rw [cap_contains]; exact hc
        have a1 := add_list acc ⟨#[s[k]]⟩ [s[k]] rfl (by simp; omega)
        have hsl : ∀ wx, (Instr.slice 9 (.string s) (some (.int .i64 (k : Int))) (some (.int .i64 ((k : Int) + 1))) none).run Tryz.prog wx = .ok (.string ⟨#[s[k]]⟩) wx := fun wx => by
          rw [run_slice_string (P := Tryz.prog) wx 9 s .i64 .i64 (k : Int) ((k : Int) + 1) Tryz.underlying9 (by omega) (by omega) (by omega)]
          rw [show ((k : Int)).toNat = k by omega, show ((k : Int) + 1).toNat = k + 1 by omega, extract_one s k hlt]
        clear hc
        go_wp2_with fail
        refine (among_walk s[k] _ _ (by decide)).mono ?_
        rintro e w' ⟨he, rfl⟩
        have he' : e = .returned (.bool false) := by rw [he]; exact congrArg (fun b => Ending.returned (.bool b)) HCap.out
        clear he
        subst he'
        go_wp2
        go_roundw
        case rel => exact ⟨k + 1, _, by omega, by go_num, rfl, HC, by simp; omega, hB⟩
        case measure => simp [intOf]; omega
    · have HR : Hid (acc = esc s.data.toList) := by
        show _ = _
        rw [HA.out, List.take_of_length_le (by rw [size_len]; omega)]
      go_wp2
      go_ret
      exact ⟨by rw [HR.out]; rfl, hB⟩

theorem hasB_iff (l : List UInt8) (c : UInt8) : hasB l c = true ↔ c ∈ l := by simp [hasB]
theorem ref_escape (s : ByteArray) (w : World) (hs : s.size ≤ 1099511627776) :
    Calls Tryz.prog 11 #[.string s] w fun e w' => e = ansE (escR s.data.toList) ∧ Below w.heap.size w w' := by
  by_cases hb : hasB s.data.toList 33 = true
  · have HB : Hid (hasB s.data.toList 33 = true) := hb
    have HR : Hid (escR s.data.toList = none) := by show _ = _; rw [escR, if_pos ((hasB_iff _ _).1 hb)]
    clear hb
    go_enter Tryz.func11, Tryz.ntmps11
    go_wp2_with fail
    refine (among_walk 33 s _ hs).mono ?_
    rintro e w' ⟨he, rfl⟩
    have he' : e = .returned (.bool true) := by rw [he]; exact congrArg (fun b => Ending.returned (.bool b)) HB.out
    clear he
    subst he'
    go_wp2
    go_ret2
    exact ⟨by rw [HR.out]; rfl, Below.refl _ _⟩
  · have hb' : hasB s.data.toList 33 = false := by simpa using hb
    have HB : Hid (hasB s.data.toList 33 = false) := hb'
    have HR : Hid (escR s.data.toList = some (esc s.data.toList)) := by show _ = _; rw [escR, if_neg (fun h => hb ((hasB_iff _ _).2 h))]
    clear hb hb'
    go_enter Tryz.func11, Tryz.ntmps11
    go_wp2_with fail
    refine (among_walk 33 s _ hs).mono ?_
    rintro e w' ⟨he, rfl⟩
    have he' : e = .returned (.bool false) := by rw [he]; exact congrArg (fun b => Ending.returned (.bool b)) HB.out
    clear he
    subst he'
    go_wp2_with fail
    refine (refEscaped_walk s _ hs).mono ?_
    rintro e w1 ⟨rfl, hb1⟩
    go_wp2
    go_ret2
    exact ⟨by rw [HR.out]; rfl, hb1⟩

/-- What can be meant by a text. -/
def gre : List UInt8 → List UInt8
  | [] => []
  | [c] => [c]
  | c :: d :: r => if c = 33 ∧ smallB d = true then (d - 32) :: gre r else c :: gre (d :: r)
theorem gre_bang {d : UInt8} (h : smallB d = true) (r : List UInt8) : gre (33 :: d :: r) = (d - 32) :: gre r := by simp [gre, h]
theorem gre_plain {c : UInt8} {r : List UInt8} (h : ∀ d r', r = d :: r' → ¬ (c = 33 ∧ smallB d = true)) : gre (c :: r) = c :: gre r := by
  cases r with
  | nil => simp [gre]
  | cons d r' => rw [gre]; simp only [if_neg (h d r' rfl)]
theorem gre_une : ∀ (n : Nat) (l u : List UInt8), l.length ≤ n → une l = some u → gre l = u := by
  intro n
  induction n with
  | zero =>
    intro l u hl h
    have : l = [] := by cases l <;> simp_all
    subst this
    simp [une] at h
    subst h
    rfl
  | succ n ih =>
    intro l u hl h
    cases l with
    | nil => simp [une] at h; subst h; rfl
    | cons c r =>
      by_cases hc : capB c = true
      · rw [une_cap hc] at h; cases h
      · have hc : capB c = false := by simpa using hc
        by_cases hb : c = 33
        · subst hb
          cases r with
          | nil => rw [une_bang_end] at h; cases h
          | cons d r' =>
            by_cases hd : smallB d = true
            · rw [une_bang hd] at h
              rw [gre_bang hd]
              cases hr : une r' with
              | none => rw [hr] at h; cases h
              | some v =>
                rw [hr] at h
                simp at h
                subst h
                rw [ih r' v (by simp at hl; omega) hr]
            · have hd : smallB d = false := by simpa using hd
              rw [une_bang_bad hd] at h; cases h
        · rw [une_plain hc hb] at h
          rw [gre_plain (fun _ _ _ k => hb k.1)]
          cases hr : une r with
          | none => rw [hr] at h; cases h
          | some v =>
            rw [hr] at h
            simp at h
            subst h
            rw [ih r v (by simp at hl; omega) hr]
theorem une_gre (l : List UInt8) : une l = if (33 : UInt8) ∉ gre l ∧ esc (gre l) = l then some (gre l) else none := by
  split
  · rename_i h
    have := une_esc (gre l) h.1
    rwa [h.2] at this
  · rename_i h
    cases hu : une l with
    | none => rfl
    | some u =>
      have e := gre_une _ l u (Nat.le_refl _) hu
      subst e
      exact absurd (esc_une _ l _ (Nat.le_refl _) hu) h
end Go.Proofs.YtoeolaienpopfaaGreatDoor
