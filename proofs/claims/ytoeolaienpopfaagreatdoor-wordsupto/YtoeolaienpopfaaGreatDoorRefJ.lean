/- The document's own Unescape: it tells what the plain une tells. -/
import Derived.Test.YtoeolaienpopfaaGreatDoorRefI
namespace Go.Proofs.YtoeolaienpopfaaGreatDoor
open Go.RowKit

theorem str_neq_yes {l : List UInt8} {s : ByteArray} (h : l = s.data.toList) : (l == s.toList) = true := by
  rw [ByteArray.toList_eq, h]; simp
theorem str_neq_no {l : List UInt8} {s : ByteArray} (h : l ≠ s.data.toList) : (l == s.toList) = false := by
  rw [ByteArray.toList_eq]; simpa using h

set_option maxHeartbeats 2000000 in
theorem ref_unescape (s : ByteArray) (w : World) (hs : s.size ≤ 549755813888) :
    Calls Tryz.prog 13 #[.string s] w fun e w' => e = ansE (une s.data.toList) ∧ Below w.heap.size w w' := by
  go_enter Tryz.func13, Tryz.ntmps13
  go_wp2
  go_loopw [4, 5] (fun o i wr => ∃ (k : Nat) (acc : List UInt8), k ≤ s.size ∧ i = .int .i64 k ∧ o = .string ⟨acc.toArray⟩ ∧ Hid (gre s.data.toList = acc ++ gre (s.data.toList.drop k)) ∧ acc.length ≤ k ∧ Below w.heap.size w wr) (fun _ i _ => s.size - (intOf i).toNat)
  case atStart => exact ⟨0, [], Nat.zero_le _, rfl, rfl, by show _ = _; simp, by simp, Below.refl _ _⟩
  case round =>
    obtain ⟨k, acc, hk, rfl, rfl, HA, hal, hB⟩ := hrel
    have hzr := hB.size
    by_cases hlt : k < s.size
    · have HD : Hid (s.data.toList.drop k = s[k] :: s.data.toList.drop (k + 1)) := drop_at s k hlt
      have a1 := add_list acc ⟨#[s[k]]⟩ [s[k]] rfl (by simp; omega)
      have hsl : ∀ wx, (Instr.slice 9 (.string s) (some (.int .i64 (k : Int))) (some (.int .i64 ((k : Int) + 1))) none).run Tryz.prog wx = .ok (.string ⟨#[s[k]]⟩) wx := fun wx => by
        rw [run_slice_string (P := Tryz.prog) wx 9 s .i64 .i64 (k : Int) ((k : Int) + 1) Tryz.underlying9 (by omega) (by omega) (by omega)]
        rw [show ((k : Int)).toNat = k by omega, show ((k : Int) + 1).toNat = k + 1 by omega, extract_one s k hlt]
      by_cases hb : s[k] = 33
      · have hb' := u8_eq hb
        have HBg : Hid (s[k] = 33) := hb
        clear hb
        by_cases hend : k + 1 < s.size
        · have HD2 : Hid (s.data.toList.drop (k + 1) = s[k + 1] :: s.data.toList.drop (k + 2)) := drop_at s (k + 1) hend
          by_cases hsm : smallB s[k + 1] = true
          · have hsm' := hsm
            simp only [smallB, decide_eq_true_eq] at hsm'
            obtain ⟨hs1, hs2⟩ := hsm'
            have HG : Hid (gre s.data.toList = (acc ++ [s[k + 1] - 32]) ++ gre (s.data.toList.drop (k + 2))) := by
              show _ = _
              rw [HA.out, HD.out, HD2.out, HBg.out, gre_bang hsm]; simp
            have hv : ((s[k + 1] - 32).toNat : Int) = (s[k + 1].toNat : Int) - 32 := by rw [small_sub hsm]; omega
            have cv := fun (wx : World) => conv_one (wx.alloc (.cells #[.int .u8 ((s[k + 1].toNat : Int) - 32)] 5)) wx.heap.size (s[k + 1] - 32) (by rw [hv]; simp)
            have a2 := add_list acc ⟨#[s[k + 1] - 32]⟩ [s[k + 1] - 32] rfl (by simp; omega)
            clear hsm hv hsl a1
            go_wp2
            go_roundw
            case rel => exact ⟨k + 2, _, by omega, by go_num, rfl, HG, by simp; omega, hB.alloc hzr _⟩
            case measure => simp [intOf]; omega
          · have HG : Hid (gre s.data.toList = (acc ++ [s[k]]) ++ gre (s.data.toList.drop (k + 1))) := by
              show _ = _
              rw [HA.out, HD.out, gre_plain (fun d r' e k => by rw [HD2.out] at e; cases e; exact hsm k.2)]; simp
            have hn : (s[k + 1].toNat : Int) < 97 ∨ (97 ≤ (s[k + 1].toNat : Int) ∧ 122 < (s[k + 1].toNat : Int)) := by
              simp only [smallB, decide_eq_true_eq] at hsm
              omega
            clear hsm
            rcases hn with hn | ⟨hn1, hn2⟩
            · go_wp2
              go_roundw
              case rel => exact ⟨k + 1, _, by omega, by go_num, rfl, HG, by simp; omega, hB⟩
              case measure => simp [intOf]; omega
            · go_wp2
              go_roundw
              case rel => exact ⟨k + 1, _, by omega, by go_num, rfl, HG, by simp; omega, hB⟩
              case measure => simp [intOf]; omega
        · have HG : Hid (gre s.data.toList = (acc ++ [s[k]]) ++ gre (s.data.toList.drop (k + 1))) := by
            show _ = _
            rw [HA.out, HD.out, gre_plain (fun d r' e _ => by rw [List.drop_of_length_le (by rw [size_len]; omega)] at e; cases e)]; simp
          go_wp2
          go_roundw
          case rel => exact ⟨k + 1, _, by omega, by go_num, rfl, HG, by simp; omega, hB⟩
          case measure => simp [intOf]; omega
      · have hb' := u8_ne hb
        have HG : Hid (gre s.data.toList = (acc ++ [s[k]]) ++ gre (s.data.toList.drop (k + 1))) := by
          show _ = _
          rw [HA.out, HD.out, gre_plain (fun d r' _ k => hb k.1)]; simp
        clear hb
        go_wp2
        go_roundw
        case rel => exact ⟨k + 1, _, by omega, by go_num, rfl, HG, by simp; omega, hB⟩
        case measure => simp [intOf]; omega
    · have HG : Hid (gre s.data.toList = acc) := by
        show _ = _
        rw [HA.out, List.drop_of_length_le (by rw [size_len]; omega)]; simp [gre]
      have hsz : (ByteArray.mk acc.toArray).size ≤ 1099511627776 := by
        show acc.toArray.size ≤ _
        simp; omega
      go_wp2_with fail
      refine (ref_escape ⟨acc.toArray⟩ _ hsz).mono ?_
      rintro e w1 ⟨he, hb1⟩
      have hB1 : Below w.heap.size w w1 := hB.trans (hb1.mono hzr)
      have he1 : e = ansE (escR acc) := by simpa using he
      clear he
      by_cases h33 : (33 : UInt8) ∈ acc
      · have HR : Hid (une s.data.toList = none) := by
          show _ = _
          rw [une_gre, HG.out, if_neg (fun h => h.1 h33)]
        have he2 : e = .returned (.tuple #[.string ⟨#[]⟩, .int .i64 4]) := by rw [he1, escR, if_pos h33]; rfl
        clear he1 h33
        subst he2
        go_wp2
        go_ret2
        exact ⟨by rw [HR.out]; rfl, hB1⟩
      · have he2 : e = .returned (.tuple #[.string ⟨(esc acc).toArray⟩, .int .i64 0]) := by rw [he1, escR, if_neg h33]; rfl
        clear he1
        by_cases heq : esc acc = s.data.toList
        · have HR : Hid (une s.data.toList = some acc) := by
            show _ = _
            rw [une_gre, HG.out, if_pos ⟨h33, heq⟩]
          have hq := str_neq_yes heq
          clear h33 heq
          subst he2
          go_wp2
          go_ret2
          exact ⟨by rw [HR.out]; rfl, hB1⟩
        · have HR : Hid (une s.data.toList = none) := by
            show _ = _
            rw [une_gre, HG.out, if_neg (fun h => heq h.2)]
          have hq := str_neq_no heq
          clear h33 heq
          subst he2
          go_wp2
          go_ret2
          exact ⟨by rw [HR.out]; rfl, hB1⟩
end Go.Proofs.YtoeolaienpopfaaGreatDoor
