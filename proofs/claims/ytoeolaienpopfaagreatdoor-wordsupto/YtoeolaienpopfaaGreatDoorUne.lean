/- names.Unescape, satchel.Escape and satchel.Unescape: what they answer of every text of at most 2^40 bytes. -/
import Derived.Test.YtoeolaienpopfaaGreatDoorEsc
namespace Go.Proofs.YtoeolaienpopfaaGreatDoor
open Go.RowKit

theorem map_none {r : Option (List UInt8)} {acc : List UInt8} {q : Option (List UInt8)} (h : q = r.map (fun u => acc ++ u)) (hr : r = none) : q = none := by rw [h, hr]; rfl
theorem map_step {r r' : Option (List UInt8)} {acc : List UInt8} {c : UInt8} {q : Option (List UInt8)} (h : q = r.map (fun u => acc ++ u)) (hr : r = r'.map (fun u => c :: u)) : q = r'.map (fun u => (acc ++ [c]) ++ u) := by
  rw [h, hr]; cases r' <;> simp

set_option maxRecDepth 100000 in
set_option maxHeartbeats 1000000 in
theorem unescape_walk (s : ByteArray) (w : World) (ad : Nat → Addr) (x : Value) (hs : s.size ≤ 1099511627776) (hS : Sent ad w)
    (hx : w.cell? ⟨17, 0, none⟩ = some (.iface 142 x)) :
    Calls Tryz.prog 25 #[.string s] w fun e w' => EscEnd (ad 3) (une s.data.toList) e w' ∧ Below w.heap.size w w' := by
  go_enter Tryz.func25, Tryz.ntmps25
  go_wp2
  go_loopw [5] (fun i wr => ∃ (k : Nat) (acc : List UInt8), k ≤ s.size ∧ i = .int .i64 k ∧ Lib.IsBuilderF 73 5 w.heap.size w.heap.size (Lib.byteCells acc) wr ∧ Below w.heap.size w wr ∧ Hid (une s.data.toList = (une (s.data.toList.drop k)).map (fun u => acc ++ u)) ∧ acc.length ≤ k) (fun i _ => s.size - (intOf i).toNat)
  case atStart =>
    refine ⟨0, [], Nat.zero_le _, rfl, Lib.IsBuilderF.of (Lib.fresh_isBuilder 73 5 w), (Below.refl _ w).alloc (Nat.le_refl _) _, ?_, by simp⟩
    show _ = _
    simp
  case round =>
    obtain ⟨k, acc, hk, rfl, hI, hbw, HU, hal⟩ := hrel
    have hsz := hbw.size
    by_cases hlt : k < s.size
    · have HD : Hid (s.data.toList.drop k = s[k] :: s.data.toList.drop (k + 1)) := drop_at s k hlt
      by_cases hc : capB s[k] = true
      · have HE : Hid (une s.data.toList = none) := map_none HU.out (by rw [HD.out, une_cap hc])
        simp only [capB, decide_eq_true_eq] at hc
        obtain ⟨hc1, hc2⟩ := hc
        have hn1 := cell_below hbw hS.c3
        have hx1 := cell_below hbw hx
        go_wp2_with fail
        refine (isCapital_yes _ _ (by omega) (by omega)).mono ?_
        rintro e w' ⟨rfl, rfl⟩
        go_wp2
        go_ret2
        refine ⟨?_, hbw.alloc hsz _⟩
        rw [HE.out]
        exact ⟨_, rfl, by simp⟩
      · have hc : capB s[k] = false := by simpa using hc
        have HNc : Hid (¬ ((65 : Int) ≤ (s[k].toNat : Int) ∧ (s[k].toNat : Int) ≤ 90)) := by
          show ¬ _
          simp only [capB, decide_eq_false_iff_not] at hc
          omega
        have HCf : Hid (capB s[k] = false) := hc
        clear hc
        by_cases hb : s[k] = 33
        · have hb' := u8_eq hb
          have HB : Hid (s[k] = 33) := hb
          clear hb
          go_wp2_with fail
          refine (isCapital_no _ _ HNc.out).mono ?_
          rintro e w' ⟨rfl, rfl⟩
          by_cases hend : k + 1 = s.size
          · have hb2 : ((k : Int) + 1 == (s.size : Int)) = true := by rw [beq_iff_eq]; omega
            have HE : Hid (une s.data.toList = none) := map_none HU.out (by
              rw [HD.out, HB.out, List.drop_of_length_le (by simp; omega)]; exact une_bang_end)
            have hn1 := cell_below hbw hS.c3
            have hx1 := cell_below hbw hx
            clear hend
            go_wp2
            go_ret2
            refine ⟨?_, hbw.alloc hsz _⟩
            rw [HE.out]
            exact ⟨_, rfl, by simp⟩
          · have hlt2 : k + 1 < s.size := by omega
            have hb2 : ((k : Int) + 1 == (s.size : Int)) = false := by rw [beq_eq_false_iff_ne]; omega
            have HD2 : Hid (s.data.toList.drop (k + 1) = s[k + 1] :: s.data.toList.drop (k + 2)) := drop_at s (k + 1) hlt2
            clear hend
            by_cases hd : smallB s[k + 1] = true
            · have HE : Hid (une s.data.toList = (une (s.data.toList.drop (k + 2))).map (fun u => (acc ++ [s[k + 1] - 32]) ++ u)) :=
                map_step HU.out (by rw [HD.out, HB.out, HD2.out, une_bang hd])
              have HSm : Hid (smallB s[k + 1] = true) := hd
              simp only [smallB, decide_eq_true_eq] at hd
              obtain ⟨hd1, hd2⟩ := hd
              go_wp2_with fail
              refine (isSmall_yes _ _ (by omega) (by omega)).mono ?_
              rintro e w' ⟨rfl, rfl⟩
              go_wp2_with fail
              refine (builder_WriteByte w.heap.size w.heap.size _ _ _ hI (by rw [Lib.byteCells_length]; omega) hsz).mono ?_
              rintro e W1 ⟨rfl, h1, b1, _⟩
              go_wp2
              go_roundw
              case rel =>
                refine ⟨k + 2, acc ++ [s[k + 1] - 32], by omega, by go_num, ?_, hbw.trans b1, HE, by simp; omega⟩
                rw [u8_sub32 HSm.out]; exact Or.inr h1
              case measure => simp [intOf]; omega
            · have hd : smallB s[k + 1] = false := by simpa using hd
              have HE : Hid (une s.data.toList = none) := map_none HU.out (by rw [HD.out, HB.out, HD2.out, une_bang_bad hd])
              have HNs : Hid (¬ ((97 : Int) ≤ (s[k + 1].toNat : Int) ∧ (s[k + 1].toNat : Int) ≤ 122)) := by
                show ¬ _
                simp only [smallB, decide_eq_false_iff_not] at hd
                omega
              have hn1 := cell_below hbw hS.c3
              have hx1 := cell_below hbw hx
              clear hd
              go_wp2_with fail
              refine (isSmall_no _ _ HNs.out).mono ?_
              rintro e w' ⟨rfl, rfl⟩
              go_wp2
              go_ret2
              refine ⟨?_, hbw.alloc hsz _⟩
              rw [HE.out]
              exact ⟨_, rfl, by simp⟩
        · have hb' := u8_ne hb
          have HE : Hid (une s.data.toList = (une (s.data.toList.drop (k + 1))).map (fun u => (acc ++ [s[k]]) ++ u)) :=
            map_step HU.out (by rw [HD.out, une_plain HCf.out hb])
          clear hb
          go_wp2_with fail
          refine (isCapital_no _ _ HNc.out).mono ?_
          rintro e w' ⟨rfl, rfl⟩
          go_wp2_with fail
          refine (builder_WriteByte w.heap.size w.heap.size _ _ _ hI (by rw [Lib.byteCells_length]; omega) hsz).mono ?_
          rintro e W1 ⟨rfl, h1, b1, _⟩
          go_wp2
          go_roundw
          case rel =>
            refine ⟨k + 1, acc ++ [s[k]], by omega, by go_num, ?_, hbw.trans b1, HE, by simp; omega⟩
            rw [u8_one]; exact Or.inr h1
          case measure => simp [intOf]; omega
    · have HE : Hid (une s.data.toList = some acc) := by
        show _ = _
        rw [HU.out, List.drop_of_length_le (by simp; omega)]; simp [une_nil]
      go_wp2_with (go_at_call 43; refine (builder_String w.heap.size w.heap.size _ _ hI (by omega)).mono ?_; rintro e W1 ⟨rfl, _, b1, _⟩)
      go_ret2
      refine ⟨?_, hbw.trans b1⟩
      rw [HE.out]
      rfl

/-- What satchel.Escape and satchel.Unescape answer, told by the text that is to come out ('none': ErrName). -/
def ansE (r : Option (List UInt8)) : Ending :=
  match r with
  | some t => .returned (.tuple #[.string ⟨t.toArray⟩, .int .i64 0])
  | none => .returned (.tuple #[.string ⟨#[]⟩, .int .i64 4])

set_option maxRecDepth 100000 in
theorem face_escape (s : ByteArray) (w : World) (ad : Nat → Addr) (x : Value) (hs : s.size ≤ 1099511627776) (hS : Sent ad w)
    (hx : w.cell? ⟨16, 0, none⟩ = some (.iface 142 x)) :
    Calls Tryz.prog 10 #[.string s] w fun e w' => e = ansE (escR s.data.toList) ∧ Below w.heap.size w w' := by
  go_enter Tryz.func10, Tryz.ntmps10
  go_wp2_with fail
  refine (escape_walk s w ad x hs hS hx).mono ?_
  rintro e w1 ⟨he, hb⟩
  have hS1 := hS.below hb
  have hz := hb.size
  cases hr : escR s.data.toList with
  | some t =>
    rw [hr] at he
    have HR : Hid (escR s.data.toList = some t) := hr
    clear hr
    obtain rfl : e = _ := he
    go_wp2_with fail
    refine (number_nil _).mono ?_
    rintro e w' ⟨rfl, rfl⟩
    go_wp2
    go_ret2
    exact ⟨by rw [HR.out]; rfl, hb⟩
  | none =>
    rw [hr] at he
    have HR : Hid (escR s.data.toList = none) := hr
    clear hr
    obtain ⟨b, rfl, hc⟩ := he
    go_wp2_with fail
    refine (number_name b ad _ hS1 hc).mono ?_
    rintro e w2 ⟨rfl, hb2⟩
    go_wp2
    go_ret2
    exact ⟨by rw [HR.out]; rfl, hb.trans (hb2.mono hz)⟩

set_option maxRecDepth 100000 in
theorem face_unescape (s : ByteArray) (w : World) (ad : Nat → Addr) (x : Value) (hs : s.size ≤ 1099511627776) (hS : Sent ad w)
    (hx : w.cell? ⟨17, 0, none⟩ = some (.iface 142 x)) :
    Calls Tryz.prog 12 #[.string s] w fun e w' => e = ansE (une s.data.toList) ∧ Below w.heap.size w w' := by
  go_enter Tryz.func12, Tryz.ntmps12
  go_wp2_with fail
  refine (unescape_walk s w ad x hs hS hx).mono ?_
  rintro e w1 ⟨he, hb⟩
  have hS1 := hS.below hb
  have hz := hb.size
  cases hr : une s.data.toList with
  | some t =>
    rw [hr] at he
    have HR : Hid (une s.data.toList = some t) := hr
    clear hr
    obtain rfl : e = _ := he
    go_wp2_with fail
    refine (number_nil _).mono ?_
    rintro e w' ⟨rfl, rfl⟩
    go_wp2
    go_ret2
    exact ⟨by rw [HR.out]; rfl, hb⟩
  | none =>
    rw [hr] at he
    have HR : Hid (une s.data.toList = none) := hr
    clear hr
    obtain ⟨b, rfl, hc⟩ := he
    go_wp2_with fail
    refine (number_name b ad _ hS1 hc).mono ?_
    rintro e w2 ⟨rfl, hb2⟩
    go_wp2
    go_ret2
    exact ⟨by rw [HR.out]; rfl, hb.trans (hb2.mono hz)⟩
end Go.Proofs.YtoeolaienpopfaaGreatDoor
