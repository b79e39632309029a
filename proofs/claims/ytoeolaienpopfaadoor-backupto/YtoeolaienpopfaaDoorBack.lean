/- The walk of satchelkeep.Back: of every text of at most 2^20 bytes it answers true. -/
import Derived.Test.YtoeolaienpopfaaDoorUne
namespace Go.Proofs.YtoeolaienpopfaaDoor
open Go.RowKit

/-- The world's facts that every call in Back needs. -/
structure BackW (ad : Nat → Addr) (x y : Value) (w : World) : Prop where
  s : Sent ad w
  x : w.cell? ⟨15, 0, none⟩ = some (.iface 131 x)
  y : w.cell? ⟨16, 0, none⟩ = some (.iface 131 y)
theorem BackW.below {ad : Nat → Addr} {x y : Value} {w w' : World} (h : BackW ad x y w) (hb : Below w.heap.size w w') : BackW ad x y w' :=
  ⟨h.s.below hb, cell_below hb h.x, cell_below hb h.y⟩

theorem esc_abc : ansE (escR (ByteArray.mk #[97, 66, 47, 67]).data.toList) = .returned (.tuple #[.string ⟨#[97, 33, 98, 47, 33, 99]⟩, .int .i64 0]) := by
  have h : escR [97, 66, 47, 67] = some [97, 33, 98, 47, 33, 99] := by decide
  show ansE (escR [97, 66, 47, 67]) = _
  rw [h]; rfl
theorem escR_some {l t : List UInt8} (h : escR l = some t) : (33 : UInt8) ∉ l ∧ t = esc l := by
  unfold escR at h
  split at h
  · cases h
  · rename_i hn; exact ⟨hn, (Option.some.inj h).symm⟩
theorem escR_of {l : List UInt8} (h : (33 : UInt8) ∉ l) : escR l = some (esc l) := by simp [escR, h]
theorem str_eta (s : ByteArray) : (⟨s.data.toList.toArray⟩ : ByteArray) = s := by cases s; simp

theorem cap_cases {c : UInt8} (h : capB c = false) : ¬ (65 : Int) ≤ (c.toNat : Int) ∨ ((65 : Int) ≤ (c.toNat : Int) ∧ ¬ (c.toNat : Int) ≤ 90) := by
  simp only [capB, decide_eq_false_iff_not] at h
  omega
theorem nocap_at (T : ByteArray) (h : ∀ c ∈ T.data.toList, capB c = false) (k : Nat) (hk : k < T.size) : capB T[k] = false :=
  h _ (List.getElem_mem (l := T.data.toList) (n := k) (by simpa using hk))

theorem opt_cases (r : Option (List UInt8)) : r = none ∨ ∃ t, r = some t := by cases r <;> simp
theorem ansE_none : ansE none = .returned (.tuple #[.string ⟨#[]⟩, .int .i64 4]) := rfl
theorem ansE_some (t : List UInt8) : ansE (some t) = .returned (.tuple #[.string ⟨t.toArray⟩, .int .i64 0]) := rfl

set_option maxRecDepth 100000 in
set_option maxHeartbeats 2000000 in
theorem back_walk (s : ByteArray) (w : World) (ad : Nat → Addr) (x y : Value) (hs : s.size ≤ 1048576) (hW : BackW ad x y w) :
    Calls Tryd.prog 4 #[.string s] w fun e w' => e = .returned (.bool true) ∧ Below w.heap.size w w' := by
  have hss : s.data.toList.length ≤ 1048576 := by simpa using hs
  go_enter Tryd.func4, Tryd.ntmps4
  go_wp2_with fail
  refine (face_escape _ w ad x (by decide) hW.s hW.x).mono ?_
  rintro e w1 ⟨he, hb1⟩
  rw [esc_abc] at he
  subst he
  have hW1 := hW.below hb1
  go_wp2_with fail
  refine (face_escape s w1 ad x (by omega) hW1.s hW1.x).mono ?_
  rintro e w2 ⟨he2, hb2⟩
  have hW2 := hW1.below hb2
  have hB2 : Below w.heap.size w w2 := hb1.trans (hb2.mono hb1.size)
  clear hb2 hW1 hW hb1
  rcases opt_cases (escR s.data.toList) with hr | ⟨t, hr⟩
  · rw [hr, ansE_none] at he2
    clear hr
    subst he2
    go_wp2_with fail
    refine (face_unescape s w2 ad y (by omega) hW2.s hW2.y).mono ?_
    rintro e w3 ⟨he3, hb3⟩
    have hW3 := hW2.below hb3
    have hB3 : Below w.heap.size w w3 := hB2.trans (hb3.mono hB2.size)
    clear hb3 hW2 hB2
    rcases opt_cases (une s.data.toList) with hu | ⟨u, hu⟩
    · rw [hu, ansE_none] at he3
      clear hu
      subst he3
      have HB := hB3
      go_wp2
      go_loop [11] (fun i => i = .int .i64 0) (fun _ => 0)
      case atStart => rfl
      case round =>
        subst hrel
        go_wp2
        go_ret
        exact ⟨rfl, HB⟩

    · rw [hu, ansE_some] at he3
      subst he3
      obtain ⟨hu1, hu2⟩ := esc_une s.data.toList.length s.data.toList u (Nat.le_refl _) hu
      have hul := une_length s.data.toList.length s.data.toList u (Nat.le_refl _) hu
      have HU : Hid (ansE (escR u) = .returned (.tuple #[.string s, .int .i64 0])) := by
        show _ = _
        rw [escR_of hu1, ansE_some, hu2, str_eta]
      clear hu hu1 hu2
      have HB := hB3
      have HW := hW3
      clear hW3 hB3
      go_wp2
      go_loop [11] (fun i => i = .int .i64 0) (fun _ => 0)
      case atStart => rfl
      case round =>
        subst hrel
        go_wp2_with fail
        refine (face_escape ⟨u.toArray⟩ w3 ad x (by simp [ByteArray.size]; omega) HW.s HW.x).mono ?_
        rintro e w9 ⟨he9, hb9⟩
        rw [show (⟨u.toArray⟩ : ByteArray).data.toList = u by simp, HU.out] at he9
        subst he9
        go_wp2
        go_ret
        exact ⟨by simp, HB.trans (hb9.mono HB.size)⟩

  · rw [hr, ansE_some] at he2
    obtain ⟨hn1, rfl⟩ := escR_some hr
    subst he2
    clear hr
    have HT : Hid (ansE (une (esc s.data.toList)) = .returned (.tuple #[.string s, .int .i64 0])) := by
      show _ = _
      rw [une_esc _ hn1, ansE_some, str_eta]
    have htl := esc_length s.data.toList
    obtain ⟨t, ht⟩ : ∃ t, t = esc s.data.toList := ⟨_, rfl⟩
    have HNo : Hid (∀ c ∈ (⟨t.toArray⟩ : ByteArray).data.toList, capB c = false) := by
      show ∀ c ∈ _, _
      rw [ht]; simpa using esc_nocap s.data.toList
    rw [← ht] at HT htl ⊢
    clear hn1 ht
    go_wp2_with fail
    refine (face_unescape s w2 ad y (by omega) hW2.s hW2.y).mono ?_
    rintro e w3 ⟨he3, hb3⟩
    have hW3 := hW2.below hb3
    have hB3 : Below w.heap.size w w3 := hB2.trans (hb3.mono hB2.size)
    clear hb3 hW2 hB2
    rcases opt_cases (une s.data.toList) with hu | ⟨u, hu⟩
    · rw [hu, ansE_none] at he3
      clear hu
      subst he3
      go_wp2_with fail
      refine (face_unescape ⟨t.toArray⟩ w3 ad y (by simp [ByteArray.size]; omega) hW3.s hW3.y).mono ?_
      rintro e w4 ⟨he4, hb4⟩
      rw [show (⟨t.toArray⟩ : ByteArray).data.toList = t by simp, HT.out] at he4
      subst he4
      have HW := hW3.below hb4
      have HB : Below w.heap.size w w4 := hB3.trans (hb4.mono hB3.size)
      clear hb4 hW3 hB3 HT
      go_wp2
      go_loop [11] (fun i => ∃ k : Nat, k ≤ t.length ∧ i = .int .i64 k) (fun i => t.length - (intOf i).toNat)
      case atStart => exact ⟨0, Nat.zero_le _, rfl⟩
      case round =>
        obtain ⟨k, hk, rfl⟩ := hrel
        by_cases hlt : k < t.length
        · rcases cap_cases (nocap_at ⟨t.toArray⟩ HNo.out k hlt) with h65 | ⟨h65, h90⟩
          all_goals
            go_wp2
            go_round
            case rel => exact ⟨k + 1, by omega, by go_num⟩
            case measure => simp [intOf]; omega
        · go_wp2
          go_ret
          exact ⟨rfl, HB⟩

    · rw [hu, ansE_some] at he3
      subst he3
      obtain ⟨hu1, hu2⟩ := esc_une s.data.toList.length s.data.toList u (Nat.le_refl _) hu
      have hul := une_length s.data.toList.length s.data.toList u (Nat.le_refl _) hu
      have HU : Hid (ansE (escR u) = .returned (.tuple #[.string s, .int .i64 0])) := by
        show _ = _
        rw [escR_of hu1, ansE_some, hu2, str_eta]
      clear hu hu1 hu2
      go_wp2_with fail
      refine (face_unescape ⟨t.toArray⟩ w3 ad y (by simp [ByteArray.size]; omega) hW3.s hW3.y).mono ?_
      rintro e w4 ⟨he4, hb4⟩
      rw [show (⟨t.toArray⟩ : ByteArray).data.toList = t by simp, HT.out] at he4
      subst he4
      have HW := hW3.below hb4
      have HB : Below w.heap.size w w4 := hB3.trans (hb4.mono hB3.size)
      clear hb4 hW3 hB3 HT
      go_wp2
      go_loop [11] (fun i => ∃ k : Nat, k ≤ t.length ∧ i = .int .i64 k) (fun i => t.length - (intOf i).toNat)
      case atStart => exact ⟨0, Nat.zero_le _, rfl⟩
      case round =>
        obtain ⟨k, hk, rfl⟩ := hrel
        by_cases hlt : k < t.length
        · rcases cap_cases (nocap_at ⟨t.toArray⟩ HNo.out k hlt) with h65 | ⟨h65, h90⟩
          all_goals
            go_wp2
            go_round
            case rel => exact ⟨k + 1, by omega, by go_num⟩
            case measure => simp [intOf]; omega
        · go_wp2_with fail
          refine (face_escape ⟨u.toArray⟩ w4 ad x (by simp [ByteArray.size]; omega) HW.s HW.x).mono ?_
          rintro e w9 ⟨he9, hb9⟩
          rw [show (⟨u.toArray⟩ : ByteArray).data.toList = u by simp, HU.out] at he9
          subst he9
          go_wp2
          go_ret
          exact ⟨by simp, HB.trans (hb9.mono HB.size)⟩

end Go.Proofs.YtoeolaienpopfaaDoor
