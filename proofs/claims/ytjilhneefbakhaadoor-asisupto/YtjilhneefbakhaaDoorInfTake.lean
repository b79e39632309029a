/- The machine takes bits. -/
import Derived.Test.YtjilhneefbakhaaDoorInfBase
namespace Go.Proofs.YtjilhneefbakhaaDoor.Inf
open Go.RowKit Go.Proofs.YtjilhneefbakhaaDoor.Sha

theorem i64_and1 (x : Nat) (hx : x < 9223372036854775808) : bits .and .i64 (x : Int) 1 = ((x % 2 : Nat) : Int) := by
  have e : (BitVec.ofInt 64 (x : Int)).toNat = x := by rw [BitVec.ofInt_natCast, BitVec.toNat_ofNat]; exact Nat.mod_eq_of_lt (by omega)
  have e1 : (BitVec.ofInt 64 (1 : Int)).toNat = 1 := by decide
  have ea : x &&& 1 = x % 2 := Nat.and_two_pow_sub_one_eq_mod x 1
  show IntKind.i64.wrap ((BitVec.ofInt 64 (x : Int) &&& BitVec.ofInt 64 (1 : Int)).toNat : Int) = _
  rw [BitVec.toNat_and, e, e1, ea]
  have h2 : x % 2 < 2 := Nat.mod_lt _ (by decide)
  generalize x % 2 = y at *
  have ey : ((y : Int) % 2 ^ 64) = (y : Int) := by omega
  simp only [IntKind.wrap, IntKind.bits, IntKind.signed, ey]
  rw [if_neg]
  simp only [Bool.true_and, decide_eq_true_eq]
  omega
section
variable {mb base : Nat} {s : ByteArray} {pos : Nat} {out : List UInt8} {most : Nat} {bad : Bool} {w : World}
set_option maxHeartbeats 1000000 in
theorem takeBit_good (h : MW mb base s pos out most bad w) (hs : s.size ≤ 140737488355328) (hp : pos < 8 * s.size) :
    Calls Tryd.prog 43 #[.pointer (some ⟨mb, 0, none⟩)] w fun e w' => e = .returned (.int .i64 ((bitAt s pos : Nat) : Int)) ∧ MW mb base s (pos + 1) out most bad w' ∧ Kept mb base w w' := by
  have h : MA mb base s (pos / 8) (pos % 8) out most bad w := h
  obtain ⟨a, HA⟩ : ∃ a, Hid (pos / 8 = a) := ⟨_, rfl⟩
  obtain ⟨b, HB⟩ : ∃ b, Hid (pos % 8 = b) := ⟨_, rfl⟩
  rw [HA.out, HB.out] at h
  have ha : a < s.size := by rw [← HA.out]; omega
  have hb : b < 8 := by rw [← HB.out]; omega
  have c0 := h.c0
  have c1 := h.c1
  have c2 := h.c2
  have f2 := h.fro 2
  have hne : ((a : Int) == (s.size : Int)) = false := by simp; omega
  have hai : (a : Int) < (s.size : Int) := by omega
  have hb1 : (b : Int) ≤ 64 := by omega
  obtain ⟨x, HX⟩ : ∃ x, Hid (bitAt s pos = x) := ⟨_, rfl⟩
  have HV : Hid (bits .and .i64 (wrap64 (s[a].toNat : Int) / 2 ^ b) 1 = (x : Int)) := by
    show _ = _
    have ew : wrap64 (s[a].toNat : Int) = (s[a].toNat : Int) := by have := s[a].toNat_lt; unfold wrap64; omega
    rw [ew]
    have e : (s[a].toNat : Int) / 2 ^ b = ((s[a].toNat / 2 ^ b : Nat) : Int) := by simp
    have hl : s[a].toNat / 2 ^ b < 9223372036854775808 := Nat.lt_of_le_of_lt (Nat.div_le_self _ _) (by have := s[a].toNat_lt; omega)
    have eg : s.data.toList.getD a 0 = s[a] := by simp [ByteArray.getElem_eq_getElem_data, ha]
    rw [e, i64_and1 _ hl, ← HX.out, bitAt, HA.out, HB.out, eg]
  have HK : Hid (Kept mb base w w) := Kept.refl _ _ _
  have HH : Hid (MA mb base s a b out most bad w) := h
  obtain ⟨w0, HW0⟩ : ∃ w0, Hid (w0 = w) := ⟨_, rfl⟩
  clear h
  go_enter Tryd.func43, Tryd.ntmps43
  go_wp2_with fail
  go_quiet (fail)
  have h1 := HH.out.drew nq
  have k1 : Kept mb base w (w.drewN nq) := Kept.drew nq
  clear c0 c1 c2 f2
  generalize hw1 : w.drewN nq = w1 at *
  have c0 := h1.c0
  have c1 := h1.c1
  have c2 := h1.c2
  have HH1 : Hid (MA mb base s a b out most bad w1) := h1
  clear h1 hw1
  go_wp2_with fail
  go_quiet (fail)
  have h2 := HH1.out.drew nq
  have k2 : Kept mb base w (w1.drewN nq) := k1.trans (Kept.drew nq)
  clear c0 c1 c2 k1
  generalize hw2 : w1.drewN nq = w2 at *
  have c2 := h2.c2
  have f2 := h2.fro 2
  clear hw2
  by_cases h7 : b = 7
  · have hM := h2.setB ((b : Int) + 1) (b + 1) (by omega)
    have k3 : Kept mb base w (w2.setCell ⟨mb, 2, none⟩ (.int .i64 ((b : Int) + 1))) := k2.trans (Kept.set _ _ _ (by decide))
    have H7 : Hid (b = 7) := h7
    clear h2 k2
    have h8 : ((b : Int) + 1 == 8) = true := by simp; omega
    clear h7
    go_wp2_with fail
    refine (toNextByte_walk hM (by omega)).mono ?_
    rintro e w3 ⟨rfl, hM3, k4⟩
    have HM3 : Hid (MW mb base s (pos + 1) out most bad w3) := by
      have e1 : (pos + 1) / 8 = a + 1 := by have := HA.out; have := HB.out; have := H7.out; omega
      have e2 : (pos + 1) % 8 = 0 := by have := HA.out; have := HB.out; have := H7.out; omega
      show MA _ _ _ _ _ _ _ _ _
      rw [e1, e2]; exact hM3
    have HK3 := k3.trans k4
    clear hM hM3 k3 k4 c2 f2
    go_wp2
    go_ret
    exact ⟨by rw [HX.out, ← HV.out]; rfl, HM3.out, HK3⟩
  · have hM := h2.setB ((b : Int) + 1) (b + 1) (by omega)
    have k3 : Kept mb base w (w2.setCell ⟨mb, 2, none⟩ (.int .i64 ((b : Int) + 1))) := k2.trans (Kept.set _ _ _ (by decide))
    clear h2 k2
    have h8 : ((b : Int) + 1 == 8) = false := by simp; omega
    have HM3 : Hid (MW mb base s (pos + 1) out most bad (w2.setCell ⟨mb, 2, none⟩ (.int .i64 ((b : Int) + 1)))) := by
      have e1 : (pos + 1) / 8 = a := by have := HA.out; have := HB.out; omega
      have e2 : (pos + 1) % 8 = b + 1 := by have := HA.out; have := HB.out; omega
      show MA _ _ _ _ _ _ _ _ _
      rw [e1, e2]; exact hM
    clear hM
    go_wp2
    go_ret
    exact ⟨by rw [HX.out, ← HV.out]; rfl, HM3.out, k3⟩
theorem takeBit_bad (h : MW mb base s (8 * s.size) out most bad w) (hD : DefW w) :
    Calls Tryd.prog 43 #[.pointer (some ⟨mb, 0, none⟩)] w fun e w' => e = .returned (.int .i64 0) ∧ MW mb base s (8 * s.size) out most true w' ∧ Kept mb base w w' := by
  have h : MA mb base s (8 * s.size / 8) (8 * s.size % 8) out most bad w := h
  have e1 : 8 * s.size / 8 = s.size := by omega
  have e2 : 8 * s.size % 8 = 0 := by omega
  rw [e1, e2] at h
  have c0 := h.c0
  have c1 := h.c1
  have heq : ((s.size : Int) == (s.size : Int)) = true := by simp
  obtain ⟨x, hx⟩ := hD.short
  have HH : Hid (MA mb base s s.size 0 out most bad w) := h
  clear h
  go_enter Tryd.func43, Tryd.ntmps43
  go_wp2_with fail
  go_quiet (fail)
  have h1 := HH.out.drew nq
  have k1 : Kept mb base w (w.drewN nq) := Kept.drew nq
  have hx1 : (w.drewN nq).cell? ⟨28, 0, none⟩ = some (.iface 131 x) := hx
  clear c0 c1 hx
  generalize w.drewN nq = w1 at *
  go_wp2_with fail
  refine (fail_walk x h1).mono ?_
  rintro e w2 ⟨rfl, h2, k2⟩
  have HM2 : Hid (MW mb base s (8 * s.size) out most true w2) := by
    show MA _ _ _ _ _ _ _ _ _
    rw [e1, e2]; exact h2
  have HK := k1.trans k2
  clear h1 h2 hx1 k1 k2
  go_wp2
  go_ret
  exact ⟨rfl, HM2.out, HK⟩
/-- n bits from a place on, the lowest first. -/
def bitsVal (s : ByteArray) (pos : Nat) : Nat → Nat
  | 0 => 0
  | n + 1 => bitsVal s pos n + bitAt s (pos + n) * 2 ^ n
theorem bitAt_lt (s : ByteArray) (p : Nat) : bitAt s p < 2 := Nat.mod_lt _ (by decide)
theorem bitsVal_lt (s : ByteArray) (pos n : Nat) : bitsVal s pos n < 2 ^ n := by
  induction n with
  | zero => exact Nat.one_pos
  | succ n ih =>
    have h := bitAt_lt s (pos + n)
    rw [bitsVal, Nat.pow_succ]
    have : bitAt s (pos + n) * 2 ^ n ≤ 1 * 2 ^ n := Nat.mul_le_mul_right _ (by omega)
    omega
theorem or_bits (v x i : Nat) (hv : v < 2 ^ i) (hx : x < 2) (hi : i < 32) : bits .or .i64 (v : Int) (wrap64 ((x : Int) * 2 ^ i)) = ((v + x * 2 ^ i : Nat) : Int) := by
  have h2 : 2 ^ i ≤ 2 ^ 31 := Nat.pow_le_pow_right (by decide) (by omega)
  have h3 : x * 2 ^ i ≤ 1 * 2 ^ i := Nat.mul_le_mul_right _ (by omega)
  have hl : x * 2 ^ i < 9223372036854775808 := by omega
  have hw : ∀ y : Nat, y < 9223372036854775808 → IntKind.i64.wrap (y : Int) = (y : Int) := by
    intro y hy
    have ey : ((y : Int) % 2 ^ 64) = (y : Int) := by omega
    simp only [IntKind.wrap, IntKind.bits, IntKind.signed, ey]
    rw [if_neg]
    simp only [Bool.true_and, decide_eq_true_eq]
    omega
  have ec : (x : Int) * 2 ^ i = ((x * 2 ^ i : Nat) : Int) := by simp
  have h64 : wrap64 ((x * 2 ^ i : Nat) : Int) = ((x * 2 ^ i : Nat) : Int) := by unfold wrap64; omega
  rw [ec, h64]
  have eo : v ||| x * 2 ^ i = v + x * 2 ^ i := by
    rw [Nat.or_comm, Nat.add_comm, ← Nat.shiftLeft_eq]
    exact (Nat.shiftLeft_add_eq_or_of_lt hv x).symm
  have e : ∀ y : Nat, y < 9223372036854775808 → (BitVec.ofInt 64 (y : Int)).toNat = y := fun y hy => by rw [BitVec.ofInt_natCast, BitVec.toNat_ofNat]; exact Nat.mod_eq_of_lt (by omega)
  show IntKind.i64.wrap ((BitVec.ofInt 64 (v : Int) ||| BitVec.ofInt 64 ((x * 2 ^ i : Nat) : Int)).toNat : Int) = _
  rw [BitVec.toNat_or, e _ (by omega), e _ hl, eo, hw _ (by omega)]
/-- takeBit, whatever the state. -/
theorem takeBit_any (h : MW mb base s pos out most bad w) (hs : s.size ≤ 140737488355328) (hp : pos ≤ 8 * s.size) (hD : DefW w) :
    Calls Tryd.prog 43 #[.pointer (some ⟨mb, 0, none⟩)] w fun e w' => ∃ x p bd, e = .returned (.int .i64 ((x : Nat) : Int)) ∧ x < 2 ∧ p ≤ 8 * s.size ∧ MW mb base s p out most bd w' ∧ Kept mb base w w' ∧ (bd = false → bad = false ∧ pos < 8 * s.size ∧ p = pos + 1 ∧ x = bitAt s pos) ∧ (bad = false → pos < 8 * s.size → bd = false) := by
  by_cases hlt : pos < 8 * s.size
  · refine (takeBit_good h hs hlt).mono ?_
    rintro e w' ⟨rfl, hM, hK⟩
    exact ⟨_, _, bad, rfl, bitAt_lt _ _, hlt, hM, hK, fun hb => ⟨hb, hlt, rfl, rfl⟩, fun hb _ => hb⟩
  · obtain rfl : pos = 8 * s.size := by omega
    refine (takeBit_bad h hD).mono ?_
    rintro e w' ⟨rfl, hM, hK⟩
    exact ⟨0, _, true, rfl, by decide, Nat.le_refl _, hM, hK, (by intro hc; cases hc), fun _ hl => absurd hl (Nat.lt_irrefl _)⟩
set_option maxHeartbeats 1000000 in
/-- take, whatever the state. -/
theorem take_any (n : Nat) (h : MW mb base s pos out most bad w) (hs : s.size ≤ 140737488355328) (hp : pos ≤ 8 * s.size) (hn : n ≤ 16) (hD : DefW w) (hg : 33 ≤ mb) :
    Calls Tryd.prog 28 #[.pointer (some ⟨mb, 0, none⟩), .int .i64 (n : Int)] w fun e w' => ∃ v p bd, e = .returned (.int .i64 ((v : Nat) : Int)) ∧ v < 2 ^ n ∧ p ≤ 8 * s.size ∧ MW mb base s p out most bd w' ∧ Kept mb base w w' ∧ (bd = false → bad = false ∧ pos + n ≤ 8 * s.size ∧ p = pos + n ∧ v = bitsVal s pos n) ∧ (bad = false → pos + n ≤ 8 * s.size → bd = false) := by
  have hlb : mb < base := MA.lt h
  go_enter Tryd.func28, Tryd.ntmps28
  go_wp2
  go_loopw [5, 8] (fun v i wr => ∃ (k y p : Nat) (bd : Bool), k ≤ n ∧ i = .int .i64 k ∧ v = .int .i64 (y : Int) ∧ MW mb base s p out most bd wr ∧ Kept mb base w wr ∧ Hid (y < 2 ^ k ∧ p ≤ 8 * s.size ∧ (bd = false → bad = false ∧ pos + k ≤ 8 * s.size ∧ p = pos + k ∧ y = bitsVal s pos k) ∧ (bad = false → pos + k ≤ 8 * s.size → bd = false))) (fun _ i _ => n - (intOf i).toNat)
  case atStart => exact ⟨0, 0, pos, bad, by omega, rfl, rfl, h, Kept.refl _ _ _, ⟨by decide, hp, fun hb => ⟨hb, by omega, rfl, rfl⟩, fun hb _ => hb⟩⟩
  case round =>
    clear h
    obtain ⟨k, y, p, bd, hk, rfl, rfl, hM, hK, HI⟩ := hrel
    by_cases hlt : k < n
    · have hlt' : (k : Int) < (n : Int) := by omega
      have hk2 : (k : Int) ≤ 64 := by omega
      have hDr := hD.kept hK hg hlb
      go_wp2_with fail
      refine (takeBit_any hM hs HI.out.2.1 hDr).mono ?_
      rintro e w2 ⟨x, p2, bd2, rfl, hx, hp2, hM2, k2, i1, i2⟩
      have hK2 := hK.trans k2
      have HI2 : Hid (y + x * 2 ^ k < 2 ^ (k + 1) ∧ p2 ≤ 8 * s.size ∧ (bd2 = false → bad = false ∧ pos + (k + 1) ≤ 8 * s.size ∧ p2 = pos + (k + 1) ∧ y + x * 2 ^ k = bitsVal s pos (k + 1)) ∧ (bad = false → pos + (k + 1) ≤ 8 * s.size → bd2 = false)) := by
        obtain ⟨a1, a2, a3, a4⟩ := HI.out
        refine ⟨?_, hp2, fun hb => ?_, fun hb hl => ?_⟩
        · have : x * 2 ^ k ≤ 1 * 2 ^ k := Nat.mul_le_mul_right _ (by omega)
          rw [Nat.pow_succ]; omega
        · obtain ⟨b1, b2, b3, b4⟩ := i1 hb
          obtain ⟨d1, d2, d3, d4⟩ := a3 b1
          subst d3
          exact ⟨d1, by omega, by omega, by rw [bitsVal, ← d4, b4]⟩
        · have hbd := a4 hb (by omega)
          obtain ⟨_, _, d3, _⟩ := a3 hbd
          exact i2 hbd (by omega)
      have HV : Hid (bits .or .i64 (y : Int) (wrap64 ((x : Int) * 2 ^ k)) = ((y + x * 2 ^ k : Nat) : Int)) := or_bits y x k HI.out.1 hx (by omega)
      clear hM hK k2 i1 i2 hDr
      go_wp2
      go_roundw
      case rel => exact ⟨k + 1, y + x * 2 ^ k, p2, bd2, by omega, by go_num, congrArg (Value.int .i64) HV.out, hM2, hK2, HI2⟩
      case measure => simp [intOf]; omega
    · have HKn : Hid (k = n) := by show _ = _; omega
      have HF := HI.out
      rw [HKn.out] at HF
      obtain ⟨a1, a2, a3, a4⟩ := HF
      go_wp2
      go_ret
      exact ⟨y, p, bd, rfl, a1, a2, hM, hK, a3, a4⟩
end
end Go.Proofs.YtjilhneefbakhaaDoor.Inf
