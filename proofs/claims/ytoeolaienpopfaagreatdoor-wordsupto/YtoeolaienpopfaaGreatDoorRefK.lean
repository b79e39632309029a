/- The document's own IsName and CheckName: they tell what the plain nameOk tells, of every text. -/
import Derived.Test.YtoeolaienpopfaaGreatDoorNameB
import Derived.Test.YtoeolaienpopfaaGreatDoorRefE
namespace Go.Proofs.YtoeolaienpopfaaGreatDoor
open Go.RowKit

def nameBytes : List UInt8 := [48, 49, 50, 51, 52, 53, 54, 55, 56, 57, 97, 98, 99, 100, 101, 102, 103, 104, 105, 106, 107, 108, 109, 110, 111, 112, 113, 114, 115, 116, 117, 118, 119, 120, 121, 122, 65, 66, 67, 68, 69, 70, 71, 72, 73, 74, 75, 76, 77, 78, 79, 80, 81, 82, 83, 84, 85, 86, 87, 88, 89, 90, 45, 95, 46]
theorem name_contains (c : UInt8) : hasB nameBytes c = elB c := by
  have := u8_all (fun c => hasB nameBytes c == elB c) (by decide +kernel) c
  simpa using this
theorem made_name (l : List UInt8) : madeB l nameBytes = (l.all elB && !l.isEmpty) := by
  unfold madeB
  rw [show hasB nameBytes = elB from funext name_contains]
theorem elOk_made {l : List UInt8} (h : madeB l nameBytes = false) : elOk l = false := by
  rw [made_name] at h
  unfold elOk
  cases hl : l.all elB with
  | false => simp
  | true => rw [hl, Bool.true_and] at h; rw [h]; simp

set_option maxHeartbeats 2000000 in
set_option maxRecDepth 100000 in
theorem refIsName_walk (s : ByteArray) (w : World) (hs : s.size ≤ 1099511627776) :
    Calls Tryz.prog 18 #[.string s] w fun e w' => e = .returned (.bool (nameOk s.data.toList)) ∧ Below w.heap.size w w' := by
  by_cases hlong : 60 < s.size
  · have HN : Hid (nameOk s.data.toList = false) := nameOk_long hlong
    go_enter Tryz.func18, Tryz.ntmps18
    go_wp2
    go_ret
    exact ⟨by rw [HN.out]; rfl, Below.refl _ _⟩
  · go_enter Tryz.func18, Tryz.ntmps18
    go_wp2_with fail
    refine (refSplit_walk s 47 _ (by omega)).mono ?_
    rintro e w1 ⟨L, v, hL, rfl, hS, hb1⟩
    have HL : Hid (L.map (·.data.toList) = splC 47 s.data.toList) := hL
    have HLS : Hid (∀ p ∈ L, p.size ≤ 60) := by
      intro p hp
      have := (splC_len 47 s.data.toList).1 p.data.toList (by rw [← hL]; exact List.mem_map_of_mem hp)
      rw [size_len, size_len] at this
      omega
    have hlp : 0 < L.length := by
      have := congrArg List.length hL
      rw [List.length_map] at this
      rw [this]
      exact List.length_pos_iff.2 (splC_ne _ _)
    have hll : L.length ≤ 101 := by obtain ⟨_, h, _⟩ := hS; exact h
    obtain ⟨g, cap, rfl, hg, hcap, hC⟩ := hS.at hlp
    have HC : Hid (∀ k (hk : k < L.length), w1.cell? ⟨g, k, none⟩ = some (.string L[k])) := hC
    have hz1 := hb1.size
    clear hL hS hC
    go_wp2
    go_loopw [4] (fun i wr => ∃ k : Nat, k ≤ L.length ∧ i = .int .i64 k ∧ Below w1.heap.size w1 wr ∧ Hid (∀ p ∈ L.take k, elOk p.data.toList = true)) (fun i _ => L.length - (intOf i).toNat)
    case atStart => exact ⟨0, Nat.zero_le _, rfl, Below.refl _ _, by intro p hp; simp at hp⟩
    case round =>
      obtain ⟨k, hk, rfl, hB, HA⟩ := hrel
      have hzr := hB.size
      by_cases hlt : k < L.length
      · have hcell := cell_below hB (HC.out k hlt)
        have hq := HLS.out L[k] (List.getElem_mem hlt)
        have HN0 : Hid (elOk L[k].data.toList = false → nameOk s.data.toList = false) := fun h => nameOk_el HL.out k hlt h
        have HA0 : Hid (elOk L[k].data.toList = true → ∀ p ∈ L.take (k + 1), elOk p.data.toList = true) := fun h => take_all_snoc hlt HA.out h
        have ix : (0 : Int) ≤ (k : Int) ∧ (k : Int) < (L.length : Int) := ⟨by omega, by omega⟩
        go_wp2_with fail
        refine (made_walk L[k] _ _ (by omega) (by decide)).mono ?_
        rintro e w' ⟨he, rfl⟩
        have he' : e = .returned (.bool (madeB L[k].data.toList nameBytes)) := he
        clear he
        subst he'
        obtain ⟨b, hb⟩ : ∃ b, b = L[k] := ⟨_, rfl⟩
        rw [← hb] at hcell hq HN0 HA0 ⊢
        clear hb
        by_cases hm : madeB b.data.toList nameBytes = true
        · have hm2 := hm
          rw [made_name, Bool.and_eq_true, Bool.not_eq_true', List.isEmpty_eq_false_iff] at hm2
          have hpos : 0 < b.size := by rw [← size_len]; exact List.length_pos_iff.2 hm2.2
          have HAll : Hid (b.data.toList.all elB = true) := hm2.1
          rw [hm]
          clear hm hm2
          have ix0 : (0 : Int) ≤ 0 ∧ (0 : Int) < (b.size : Int) := ⟨by omega, by omega⟩
          have hwr : IntKind.i64.wrap ((b.size : Int) - 1) = ((b.size - 1 : Nat) : Int) := by
            have h : (0 : Int) ≤ (b.size : Int) - 1 ∧ (b.size : Int) - 1 ≤ 9223372036854775807 := ⟨by omega, by omega⟩
            have hm : ((b.size : Int) - 1) % 2 ^ 64 = ((b.size - 1 : Nat) : Int) := by omega
            simp only [IntKind.wrap, IntKind.bits, IntKind.signed, hm]
            rw [if_neg (by simp; omega)]
          have ix1 : (0 : Int) ≤ ((b.size - 1 : Nat) : Int) ∧ ((b.size - 1 : Nat) : Int) < (b.size : Int) := ⟨by omega, by omega⟩
          have ix2 : b.size - 1 < b.size := by omega
          by_cases hf : b[0] = 46
          · have hf' := u8_dot hf
            have HN : Hid (nameOk s.data.toList = false) := HN0.out (elOk_first hpos hf)
            clear hf
            go_wp2
            go_quiet (fail)
            go_wp2
            go_ret
            exact ⟨by rw [HN.out]; rfl, hb1.trans ((hB.trans ((below_drewN nq).mono hzr)).mono hz1)⟩
          · have hf' := u8_dot_no hf
            by_cases hl : b[b.size - 1] = 46
            · have hl' := u8_dot hl
              have HN : Hid (nameOk s.data.toList = false) := HN0.out (elOk_last hpos hl)
              clear hf hl
              go_wp2
              go_quiet (fail)
              go_wp2
              go_ret
              exact ⟨by rw [HN.out]; rfl, hb1.trans ((hB.trans ((below_drewN nq).mono hzr)).mono hz1)⟩
            · have hl' := u8_dot_no hl
              have HA' : Hid (∀ p ∈ L.take (k + 1), elOk p.data.toList = true) := HA0.out (elOk_yes hpos hf hl HAll.out)
              clear hf hl
              go_wp2
              go_quiet (fail)
              have hB2 := hB.trans ((below_drewN nq).mono hzr)
              generalize w'.drewN nq = w3 at *
              go_wp2
              go_roundw
              case rel => exact ⟨k + 1, by omega, by go_num, hB2, HA'⟩
              case measure => simp [intOf]; omega
        · have hm : madeB b.data.toList nameBytes = false := by simpa using hm
          have HN : Hid (nameOk s.data.toList = false) := HN0.out (elOk_made hm)
          rw [hm]
          clear hm
          go_wp2
          go_quiet (fail)
          go_wp2
          go_ret
          exact ⟨by rw [HN.out]; rfl, hb1.trans ((hB.trans ((below_drewN nq).mono hzr)).mono hz1)⟩
      · have HN : Hid (nameOk s.data.toList = true) := nameOk_all HL.out (by omega) (by
          have := HA.out
          rwa [List.take_of_length_le (by omega)] at this)
        go_wp2
        go_ret
        exact ⟨by rw [HN.out]; rfl, hb1.trans (hB.mono hz1)⟩

theorem ref_checkName (s : ByteArray) (w : World) (hs : s.size ≤ 1099511627776) :
    Calls Tryz.prog 6 #[.string s] w fun e w' => e = .returned (.int .i64 (nameNo s.data.toList)) ∧ Below w.heap.size w w' := by
  go_enter Tryz.func6, Tryz.ntmps6
  go_wp2_with fail
  refine (refIsName_walk s w hs).mono ?_
  rintro e w1 ⟨rfl, hb1⟩
  by_cases hx : nameOk s.data.toList = true
  · have HX : Hid (nameNo s.data.toList = 0) := by show _ = _; rw [nameNo, if_pos hx]
    rw [hx]
    clear hx
    go_wp2
    go_ret
    exact ⟨by rw [HX.out]; rfl, hb1⟩
  · have hx : nameOk s.data.toList = false := by simpa using hx
    have HX : Hid (nameNo s.data.toList = 4) := by show _ = _; rw [nameNo, if_neg (by rw [hx]; decide)]
    rw [hx]
    clear hx
    go_wp2
    go_ret
    exact ⟨by rw [HX.out]; rfl, hb1⟩
end Go.Proofs.YtoeolaienpopfaaGreatDoor
