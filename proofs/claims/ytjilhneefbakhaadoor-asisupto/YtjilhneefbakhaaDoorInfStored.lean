/- The machine passes on a block's bytes as they are. -/
import Derived.Test.YtjilhneefbakhaaDoorInfPut
import Derived.WalkMore
import Derived.ScopeJumps
namespace Go.Proofs.YtjilhneefbakhaaDoor.Inf
open Go.RowKit Go.Proofs.YtjilhneefbakhaaDoor.Sha

/-- n bytes as they are. -/
def bytesP (s : ByteArray) (most : Nat) : Nat → Nat → List UInt8 → Option (Nat × List UInt8)
  | 0, pos, out => some (pos, out)
  | n + 1, pos, out => if pos + 8 ≤ 8 * s.size ∧ out.length ≠ most then bytesP s most n (pos + 8) (out ++ [UInt8.ofNat (bitsVal s pos 8)]) else none
/-- A block of bytes as they are: from where on it goes on, and what has come. -/
def storedP (s : ByteArray) (most pos : Nat) (out : List UInt8) : Option (Nat × List UInt8) :=
  if (pos + 7) / 8 * 8 + 32 ≤ 8 * s.size ∧ bitsVal s ((pos + 7) / 8 * 8) 16 ^^^ bitsVal s ((pos + 7) / 8 * 8 + 16) 16 = 65535 then bytesP s most (bitsVal s ((pos + 7) / 8 * 8) 16) ((pos + 7) / 8 * 8 + 32) out else none
theorem xor_nat (a b : Nat) (ha : a < 9223372036854775808) (hb : b < 9223372036854775808) : bits .xor .i64 (a : Int) (b : Int) = ((a ^^^ b : Nat) : Int) := by
  have hx : a ^^^ b < 2 ^ 63 := Nat.xor_lt_two_pow (by omega) (by omega)
  have e : ∀ y : Nat, y < 9223372036854775808 → (BitVec.ofInt 64 (y : Int)).toNat = y := fun y hy => by rw [BitVec.ofInt_natCast, BitVec.toNat_ofNat]; exact Nat.mod_eq_of_lt (by omega)
  show IntKind.i64.wrap ((BitVec.ofInt 64 (a : Int) ^^^ BitVec.ofInt 64 (b : Int)).toNat : Int) = _
  rw [BitVec.toNat_xor, e _ ha, e _ hb]
  generalize a ^^^ b = y at *
  have ey : ((y : Int) % 2 ^ 64) = (y : Int) := by omega
  simp only [IntKind.wrap, IntKind.bits, IntKind.signed, ey]
  rw [if_neg]
  simp only [Bool.true_and, decide_eq_true_eq]
  omega
section
variable {s : ByteArray} {most pos P0 v1 v2 p1 p2 : Nat} {out : List UInt8} {bad bd1 bd2 : Bool}
theorem stored_inv (hA : (pos + 7) / 8 * 8 = P0) (l1 : v1 < 2 ^ 16) (q2 : p2 ≤ 8 * s.size) (hm : out.length ≤ most)
    (f1 : bd1 = false → bad = false ∧ P0 + 16 ≤ 8 * s.size ∧ p1 = P0 + 16 ∧ v1 = bitsVal s P0 16) (g1 : bad = false → P0 + 16 ≤ 8 * s.size → bd1 = false)
    (f2 : bd2 = false → bd1 = false ∧ p1 + 16 ≤ 8 * s.size ∧ p2 = p1 + 16 ∧ v2 = bitsVal s p1 16) (g2 : bd1 = false → p1 + 16 ≤ 8 * s.size → bd2 = false) (hx : v1 ^^^ v2 = 65535) :
    v1 < 65536 ∧ p2 ≤ 8 * s.size ∧ out.length ≤ most ∧ (bd2 = false → bad = false ∧ bytesP s most v1 p2 out = storedP s most pos out) ∧ (bad = false → bd2 = true → storedP s most pos out = none) := by
  refine ⟨l1, q2, hm, fun hb => ?_, fun hb hbd => ?_⟩
  · obtain ⟨b1, b2, b3, b4⟩ := f2 hb
    obtain ⟨a1, a2, a3, a4⟩ := f1 b1
    refine ⟨a1, ?_⟩
    subst a3
    rw [storedP, hA, ← a4, ← b4, if_pos ⟨by omega, hx⟩, b3]
  · rw [storedP, hA, if_neg]
    rintro ⟨h1, _⟩
    have hb1 := g1 hb (by omega)
    obtain ⟨a1, a2, a3, a4⟩ := f1 hb1
    have := g2 hb1 (by omega)
    rw [this] at hbd; cases hbd
theorem stored_inv_bad (hA : (pos + 7) / 8 * 8 = P0) (l1 : v1 < 2 ^ 16) (q2 : p2 ≤ 8 * s.size) (hm : out.length ≤ most)
    (f1 : bd1 = false → bad = false ∧ P0 + 16 ≤ 8 * s.size ∧ p1 = P0 + 16 ∧ v1 = bitsVal s P0 16) (g1 : bad = false → P0 + 16 ≤ 8 * s.size → bd1 = false)
    (f2 : bd2 = false → bd1 = false ∧ p1 + 16 ≤ 8 * s.size ∧ p2 = p1 + 16 ∧ v2 = bitsVal s p1 16) (g2 : bd1 = false → p1 + 16 ≤ 8 * s.size → bd2 = false) (hx : v1 ^^^ v2 ≠ 65535) :
    v1 < 65536 ∧ p2 ≤ 8 * s.size ∧ out.length ≤ most ∧ (true = false → bad = false ∧ bytesP s most v1 p2 out = storedP s most pos out) ∧ (bad = false → true = true → storedP s most pos out = none) := by
  refine ⟨l1, q2, hm, (by intro hc; cases hc), fun hb _ => ?_⟩
  rw [storedP, hA, if_neg]
  rintro ⟨h1, h2⟩
  have hb1 := g1 hb (by omega)
  obtain ⟨a1, a2, a3, a4⟩ := f1 hb1
  have hb2 := g2 hb1 (by omega)
  obtain ⟨b1, b2, b3, b4⟩ := f2 hb2
  subst a3
  rw [← a4, ← b4] at h2
  exact hx h2
end
section
variable {mb base : Nat} {s : ByteArray} {pos : Nat} {out : List UInt8} {most : Nat} {bad : Bool} {w : World}
set_option maxRecDepth 100000 in
set_option maxHeartbeats 4000000 in
theorem stored_walk (h : MW mb base s pos out most bad w) (hs : s.size ≤ 140737488355328) (hp : pos ≤ 8 * s.size) (hm : out.length ≤ most) (hm2 : most ≤ 8000) (hD : DefW w) (hg : 33 ≤ mb) :
    Calls Tryd.prog 30 #[.pointer (some ⟨mb, 0, none⟩)] w fun e w' => e = .returned (.tuple #[]) ∧ ∃ p o bd, p ≤ 8 * s.size ∧ o.length ≤ most ∧ MW mb base s p o most bd w' ∧ Kept mb base w w' ∧ (bd = false → bad = false ∧ storedP s most pos out = some (p, o)) ∧ (bad = false → bd = true → storedP s most pos out = none) := by
  have hlb : mb < base := MA.lt h
  have hlb : mb < base := MA.lt h
  have hlb : mb < base := MA.lt h
  have hlb : mb < base := MA.lt h
  have hlb : mb < base := MA.lt h
  go_enter Tryd.func30, Tryd.ntmps30
  go_wp2
  refine wp_scope_jumps 0 (fun a' w' => ∃ (y p : Nat) (o : List UInt8) (bd : Bool), (∃ (u3 u4 u5 u6 u7 u8 u9 u10 u11 u12 u13 u14 u15 u16 u17 u18 u19 u20 u21 u22 u23 u24 u25 u26 u27 u28 u29 u30 u31 u32 u33 u34 u35 : Value), a' = { tmps := #[.pointer (some ⟨mb, 0, none⟩), undef, .int .i64 (y : Int), u3, u4, u5, u6, u7, u8, u9, u10, u11, u12, u13, u14, u15, u16, u17, u18, u19, u20, u21, u22, u23, u24, u25, u26, u27, u28, u29, u30, u31, u32, u33, u34, u35], defers := [] }) ∧ MW mb base s p o most bd w' ∧ Kept mb base w w' ∧ Hid (y < 65536 ∧ p ≤ 8 * s.size ∧ o.length ≤ most ∧ (bd = false → bad = false ∧ bytesP s most y p o = storedP s most pos out) ∧ (bad = false → bd = true → storedP s most pos out = none))) (fun a' _ => (intOf (a'.tmps.getD 2 undef)).toNat) rfl ?_ ?_
  · have h' : MA mb base s (pos / 8) (pos % 8) out most bad w := h
    by_cases hb0 : pos % 8 = 0
    · have c2 := h'.c2
      rw [hb0] at c2
      obtain ⟨P0, HP0, HA⟩ : ∃ P0, Hid (pos = P0) ∧ Hid ((pos + 7) / 8 * 8 = P0) := ⟨pos, rfl, by show _ = _; omega⟩
      have hM0 : MW mb base s P0 out most bad w := by rw [← HP0.out]; exact h
      have hp0 : P0 ≤ 8 * s.size := by rw [← HP0.out]; exact hp
      have hK0 : Kept mb base w w := Kept.refl _ _ _
      have hD0 := hD
      clear h' h
      go_wp2_with fail
      refine (take_any 16 hM0 hs hp0 (by decide) hD0 hg).mono ?_
      rintro e w1 ⟨v1, p1, bd1, rfl, l1, q1, hM1, k1, f1, g1⟩
      have hK1 := hK0.trans k1
      have hD1 := hD.kept hK1 hg hlb
      clear hM0 k1 hD0
      go_wp2_with fail
      refine (take_any 16 hM1 hs q1 (by decide) hD1 hg).mono ?_
      rintro e w2 ⟨v2, p2, bd2, rfl, l2, q2, hM2, k2, f2, g2⟩
      have hK2 := hK1.trans k2
      have hD2 := hD.kept hK2 hg hlb
      clear hM1 hK1 k2 hD1 hK0
      have hxr : bits .xor .i64 (v1 : Int) (v2 : Int) = ((v1 ^^^ v2 : Nat) : Int) := xor_nat v1 v2 (by omega) (by omega)
      obtain ⟨X, HX⟩ : ∃ X, Hid (v1 ^^^ v2 = X) := ⟨_, rfl⟩
      rw [HX.out] at hxr
      by_cases hX : X = 65535
      · have hne : ((X : Int) != 65535) = false := by simp; omega
        obtain ⟨y, HY⟩ : ∃ y, Hid (v1 = y) := ⟨_, rfl⟩
        obtain ⟨p, HPp⟩ : ∃ p, Hid (p2 = p) := ⟨_, rfl⟩
        obtain ⟨o, HOo⟩ : ∃ o, Hid (out = o) := ⟨_, rfl⟩
        obtain ⟨bd, HBb⟩ : ∃ bd, Hid (bd2 = bd) := ⟨_, rfl⟩
        obtain ⟨wr, HWr⟩ : ∃ wr, Hid (w2 = wr) := ⟨_, rfl⟩
        have HI : Hid (y < 65536 ∧ p ≤ 8 * s.size ∧ o.length ≤ most ∧ (bd = false → bad = false ∧ bytesP s most y p o = storedP s most pos out) ∧ (bad = false → bd = true → storedP s most pos out = none)) := by
          rw [← HY.out, ← HPp.out, ← HOo.out, ← HBb.out]
          exact stored_inv HA.out l1 q2 hm f1 g1 f2 g2 (by rw [HX.out]; exact hX)
        rw [HPp.out, HBb.out, HWr.out] at hM2
        rw [HOo.out] at hM2
        rw [HWr.out] at hK2 ⊢
        rw [HY.out] at hxr ⊢
        have hM := hM2
        have hK := hK2
        clear hM2 hK2 hD2 f1 g1 f2 g2 HOo HPp HBb HWr
        go_wp2_with fail
        go_step3
        by_cases hy0 : y = 0
        · have hy : ((y : Int) == 0) = true := by simp; omega
          have HR : Hid ((bd = false → bad = false ∧ storedP s most pos out = some (p, o)) ∧ (bad = false → bd = true → storedP s most pos out = none)) := by
            obtain ⟨i1, i2, i3, i4, i5⟩ := HI.out
            refine ⟨fun hb => ?_, i5⟩
            obtain ⟨j1, j2⟩ := i4 hb
            rw [hy0, bytesP] at j2
            exact ⟨j1, j2.symm⟩
          have HP := HI.out.2.1
          have HO := HI.out.2.2.1
          have HM : Hid (MW mb base s p o most bd wr) := hM
          clear hM
          go_wp2
          try simp only [Exit.jump]
          exact bodyPost_ret (results_none rfl _ _ _) rfl ⟨rfl, p, o, bd, HP, HO, HM.out, hK, HR.out.1, HR.out.2⟩
        · have hy : ((y : Int) == 0) = false := by simp; omega
          have hMA : MA mb base s (p / 8) (p % 8) o most bd wr := hM
          obtain ⟨ev, c5, he⟩ := hMA.c5
          cases bd with
          | true =>
            obtain ⟨x, rfl⟩ := he
            have HR : Hid (bad = false → storedP s most pos out = none) := fun hb => HI.out.2.2.2.2 hb (by first | rfl | trivial)
            have HP := HI.out.2.1
            have HO := HI.out.2.2.1
            have HM : Hid (MW mb base s p o most true wr) := hM
            clear hM hMA
            go_wp2
            try simp only [Exit.jump]
            exact bodyPost_ret (results_none rfl _ _ _) rfl ⟨rfl, p, o, true, HP, HO, HM.out, hK, (by intro hc; cases hc), fun hb _ => HR.out hb⟩
          | false =>
            cases he
            clear hMA
            have hDr := hD.kept hK hg hlb
            go_wp2_with fail
            refine (take_any 8 hM hs HI.out.2.1 (by decide) hDr hg).mono ?_
            rintro e w5 ⟨v5, p5, bd5, rfl, l5, q5, hM5, k5, f5, g5⟩
            have hK5 := hK.trans k5
            have hD5 := hD.kept hK5 hg hlb
            have hc5 : (v5 : Int) = ((UInt8.ofNat v5).toNat : Int) := by rw [UInt8.toNat_ofNat', Nat.mod_eq_of_lt l5]
            obtain ⟨c, HC⟩ : ∃ c, Hid (c = UInt8.ofNat v5) := ⟨_, rfl⟩
            rw [← HC.out] at hc5
            have HC5 : Hid ((v5 : Int) = (c.toNat : Int)) := hc5
            clear hM hK k5 hDr c5 hc5
            go_wp2_with fail
            rw [HC5.out]
            refine (put_walk c hM5 HI.out.2.2.1 hm2 hD5).mono ?_
            rintro e w6 ⟨rfl, k6, HM6⟩
            have hK4 := hK5.trans k6
            obtain ⟨o3, bd3, hM4, HI4⟩ : ∃ o3 bd3, MW mb base s p5 o3 most bd3 w6 ∧ Hid (y - 1 < 65536 ∧ p5 ≤ 8 * s.size ∧ o3.length ≤ most ∧ (bd3 = false → bad = false ∧ bytesP s most (y - 1) p5 o3 = storedP s most pos out) ∧ (bad = false → bd3 = true → storedP s most pos out = none)) := by
              obtain ⟨i1, i2, i3, i4, i5⟩ := HI.out
              obtain ⟨j1, j2⟩ := i4 (by first | rfl | trivial)
              have hyy : y = (y - 1) + 1 := by omega
              rw [hyy, bytesP] at j2
              by_cases hlen : o.length = most
              · refine ⟨o, true, HM6.out.1 hlen, by omega, q5, i3, (by intro hc; cases hc), fun _ _ => ?_⟩
                rw [if_neg (by intro hc; exact hc.2 hlen)] at j2
                exact j2.symm
              · refine ⟨o ++ [c], bd5, HM6.out.2 hlen, by omega, q5, by rw [List.length_append]; simp; omega, fun hb => ?_, fun hb hbd => ?_⟩
                · obtain ⟨a1, a2, a3, a4⟩ := f5 hb
                  rw [if_pos ⟨a2, hlen⟩, ← a3, ← a4, ← HC.out] at j2
                  exact ⟨j1, j2⟩
                · have hno : ¬ (p + 8 ≤ 8 * s.size ∧ o.length ≠ most) := by
                    intro hc
                    have := g5 (by first | rfl | trivial) hc.1
                    rw [this] at hbd; cases hbd
                  rw [if_neg hno] at j2
                  exact j2.symm
            clear hM5 hK5 k6 HM6 hD5
            have hyb : y < 65536 := HI.out.1
            have HYi : Hid ((y : Int) - 1 = ((y - 1 : Nat) : Int)) := by show _ = _; omega
            go_wp2
            go_step3
            try simp only [Exit.jump]
            rw [HYi.out]
            exact ⟨rfl, y - 1, p5, o3, bd3, ⟨_, _, _, _, _, _, _, _, _, _, _, _, _, _, _, _, _, _, _, _, _, _, _, _, _, _, _, _, _, _, _, _, _, rfl⟩, hM4, hK4, HI4⟩
      · have hne : ((X : Int) != 65535) = true := by simp; omega
        obtain ⟨xe, hxe⟩ := hD2.stored
        have hM2' : MA mb base s (p2 / 8) (p2 % 8) out most bd2 w2 := hM2
        go_wp2_with fail
        refine (fail_walk xe hM2').mono ?_
        rintro e wr ⟨rfl, hMf, k3⟩
        have hK := hK2.trans k3
        obtain ⟨y, HY⟩ : ∃ y, Hid (v1 = y) := ⟨_, rfl⟩
        obtain ⟨bd, HBb⟩ : ∃ bd, Hid (true = bd) := ⟨_, rfl⟩
        obtain ⟨o, HOo⟩ : ∃ o, Hid (out = o) := ⟨_, rfl⟩
        obtain ⟨p, HPp⟩ : ∃ p, Hid (p2 = p) := ⟨_, rfl⟩
        have HI : Hid (y < 65536 ∧ p ≤ 8 * s.size ∧ o.length ≤ most ∧ (bd = false → bad = false ∧ bytesP s most y p o = storedP s most pos out) ∧ (bad = false → bd = true → storedP s most pos out = none)) := by
          rw [← HY.out, ← HPp.out, ← HOo.out, ← HBb.out]
          exact stored_inv_bad HA.out l1 q2 hm f1 g1 f2 g2 (by rw [HX.out]; exact hX)
        have hM : MW mb base s p o most bd wr := by rw [← HPp.out, ← HOo.out, ← HBb.out]; exact hMf
        rw [HY.out]
        clear hMf hM2 hM2' hK2 k3 hD2 f1 g1 f2 g2 hxe HOo HPp HBb
        go_wp2_with fail
        go_step3
        by_cases hy0 : y = 0
        · have hy : ((y : Int) == 0) = true := by simp; omega
          have HR : Hid ((bd = false → bad = false ∧ storedP s most pos out = some (p, o)) ∧ (bad = false → bd = true → storedP s most pos out = none)) := by
            obtain ⟨i1, i2, i3, i4, i5⟩ := HI.out
            refine ⟨fun hb => ?_, i5⟩
            obtain ⟨j1, j2⟩ := i4 hb
            rw [hy0, bytesP] at j2
            exact ⟨j1, j2.symm⟩
          have HP := HI.out.2.1
          have HO := HI.out.2.2.1
          have HM : Hid (MW mb base s p o most bd wr) := hM
          clear hM
          go_wp2
          try simp only [Exit.jump]
          exact bodyPost_ret (results_none rfl _ _ _) rfl ⟨rfl, p, o, bd, HP, HO, HM.out, hK, HR.out.1, HR.out.2⟩
        · have hy : ((y : Int) == 0) = false := by simp; omega
          have hMA : MA mb base s (p / 8) (p % 8) o most bd wr := hM
          obtain ⟨ev, c5, he⟩ := hMA.c5
          cases bd with
          | true =>
            obtain ⟨x, rfl⟩ := he
            have HR : Hid (bad = false → storedP s most pos out = none) := fun hb => HI.out.2.2.2.2 hb (by first | rfl | trivial)
            have HP := HI.out.2.1
            have HO := HI.out.2.2.1
            have HM : Hid (MW mb base s p o most true wr) := hM
            clear hM hMA
            go_wp2
            try simp only [Exit.jump]
            exact bodyPost_ret (results_none rfl _ _ _) rfl ⟨rfl, p, o, true, HP, HO, HM.out, hK, (by intro hc; cases hc), fun hb _ => HR.out hb⟩
          | false =>
            cases he
            clear hMA
            have hDr := hD.kept hK hg hlb
            go_wp2_with fail
            refine (take_any 8 hM hs HI.out.2.1 (by decide) hDr hg).mono ?_
            rintro e w5 ⟨v5, p5, bd5, rfl, l5, q5, hM5, k5, f5, g5⟩
            have hK5 := hK.trans k5
            have hD5 := hD.kept hK5 hg hlb
            have hc5 : (v5 : Int) = ((UInt8.ofNat v5).toNat : Int) := by rw [UInt8.toNat_ofNat', Nat.mod_eq_of_lt l5]
            obtain ⟨c, HC⟩ : ∃ c, Hid (c = UInt8.ofNat v5) := ⟨_, rfl⟩
            rw [← HC.out] at hc5
            have HC5 : Hid ((v5 : Int) = (c.toNat : Int)) := hc5
            clear hM hK k5 hDr c5 hc5
            go_wp2_with fail
            rw [HC5.out]
            refine (put_walk c hM5 HI.out.2.2.1 hm2 hD5).mono ?_
            rintro e w6 ⟨rfl, k6, HM6⟩
            have hK4 := hK5.trans k6
            obtain ⟨o3, bd3, hM4, HI4⟩ : ∃ o3 bd3, MW mb base s p5 o3 most bd3 w6 ∧ Hid (y - 1 < 65536 ∧ p5 ≤ 8 * s.size ∧ o3.length ≤ most ∧ (bd3 = false → bad = false ∧ bytesP s most (y - 1) p5 o3 = storedP s most pos out) ∧ (bad = false → bd3 = true → storedP s most pos out = none)) := by
              obtain ⟨i1, i2, i3, i4, i5⟩ := HI.out
              obtain ⟨j1, j2⟩ := i4 (by first | rfl | trivial)
              have hyy : y = (y - 1) + 1 := by omega
              rw [hyy, bytesP] at j2
              by_cases hlen : o.length = most
              · refine ⟨o, true, HM6.out.1 hlen, by omega, q5, i3, (by intro hc; cases hc), fun _ _ => ?_⟩
                rw [if_neg (by intro hc; exact hc.2 hlen)] at j2
                exact j2.symm
              · refine ⟨o ++ [c], bd5, HM6.out.2 hlen, by omega, q5, by rw [List.length_append]; simp; omega, fun hb => ?_, fun hb hbd => ?_⟩
                · obtain ⟨a1, a2, a3, a4⟩ := f5 hb
                  rw [if_pos ⟨a2, hlen⟩, ← a3, ← a4, ← HC.out] at j2
                  exact ⟨j1, j2⟩
                · have hno : ¬ (p + 8 ≤ 8 * s.size ∧ o.length ≠ most) := by
                    intro hc
                    have := g5 (by first | rfl | trivial) hc.1
                    rw [this] at hbd; cases hbd
                  rw [if_neg hno] at j2
                  exact j2.symm
            clear hM5 hK5 k6 HM6 hD5
            have hyb : y < 65536 := HI.out.1
            have HYi : Hid ((y : Int) - 1 = ((y - 1 : Nat) : Int)) := by show _ = _; omega
            go_wp2
            go_step3
            try simp only [Exit.jump]
            rw [HYi.out]
            exact ⟨rfl, y - 1, p5, o3, bd3, ⟨_, _, _, _, _, _, _, _, _, _, _, _, _, _, _, _, _, _, _, _, _, _, _, _, _, _, _, _, _, _, _, _, _, rfl⟩, hM4, hK4, HI4⟩
    · have c2 := h'.c2
      have hb1 : (0 : Int) < ((pos % 8 : Nat) : Int) := by omega
      go_wp2_with fail
      refine (toNextByte_walk h' (by omega)).mono ?_
      rintro e w0 ⟨rfl, hT, hK0⟩
      obtain ⟨P0, HP0, HA⟩ : ∃ P0, Hid (8 * (pos / 8 + 1) = P0) ∧ Hid ((pos + 7) / 8 * 8 = P0) := ⟨_, rfl, by show _ = _; omega⟩
      have hM0 : MW mb base s P0 out most bad w0 := by
        show MA _ _ _ _ _ _ _ _ _
        rw [← HP0.out, show 8 * (pos / 8 + 1) / 8 = pos / 8 + 1 by omega, show 8 * (pos / 8 + 1) % 8 = 0 by omega]; exact hT
      have hp0 : P0 ≤ 8 * s.size := by rw [← HP0.out]; omega
      have hD0 := hD.kept hK0 hg hlb
      clear h' h hT c2
      go_wp2_with fail
      refine (take_any 16 hM0 hs hp0 (by decide) hD0 hg).mono ?_
      rintro e w1 ⟨v1, p1, bd1, rfl, l1, q1, hM1, k1, f1, g1⟩
      have hK1 := hK0.trans k1
      have hD1 := hD.kept hK1 hg hlb
      clear hM0 k1 hD0
      go_wp2_with fail
      refine (take_any 16 hM1 hs q1 (by decide) hD1 hg).mono ?_
      rintro e w2 ⟨v2, p2, bd2, rfl, l2, q2, hM2, k2, f2, g2⟩
      have hK2 := hK1.trans k2
      have hD2 := hD.kept hK2 hg hlb
      clear hM1 hK1 k2 hD1 hK0
      have hxr : bits .xor .i64 (v1 : Int) (v2 : Int) = ((v1 ^^^ v2 : Nat) : Int) := xor_nat v1 v2 (by omega) (by omega)
      obtain ⟨X, HX⟩ : ∃ X, Hid (v1 ^^^ v2 = X) := ⟨_, rfl⟩
      rw [HX.out] at hxr
      by_cases hX : X = 65535
      · have hne : ((X : Int) != 65535) = false := by simp; omega
        obtain ⟨y, HY⟩ : ∃ y, Hid (v1 = y) := ⟨_, rfl⟩
        obtain ⟨p, HPp⟩ : ∃ p, Hid (p2 = p) := ⟨_, rfl⟩
        obtain ⟨o, HOo⟩ : ∃ o, Hid (out = o) := ⟨_, rfl⟩
        obtain ⟨bd, HBb⟩ : ∃ bd, Hid (bd2 = bd) := ⟨_, rfl⟩
        obtain ⟨wr, HWr⟩ : ∃ wr, Hid (w2 = wr) := ⟨_, rfl⟩
        have HI : Hid (y < 65536 ∧ p ≤ 8 * s.size ∧ o.length ≤ most ∧ (bd = false → bad = false ∧ bytesP s most y p o = storedP s most pos out) ∧ (bad = false → bd = true → storedP s most pos out = none)) := by
          rw [← HY.out, ← HPp.out, ← HOo.out, ← HBb.out]
          exact stored_inv HA.out l1 q2 hm f1 g1 f2 g2 (by rw [HX.out]; exact hX)
        rw [HPp.out, HBb.out, HWr.out] at hM2
        rw [HOo.out] at hM2
        rw [HWr.out] at hK2 ⊢
        rw [HY.out] at hxr ⊢
        have hM := hM2
        have hK := hK2
        clear hM2 hK2 hD2 f1 g1 f2 g2 HOo HPp HBb HWr
        go_wp2_with fail
        go_step3
        by_cases hy0 : y = 0
        · have hy : ((y : Int) == 0) = true := by simp; omega
          have HR : Hid ((bd = false → bad = false ∧ storedP s most pos out = some (p, o)) ∧ (bad = false → bd = true → storedP s most pos out = none)) := by
            obtain ⟨i1, i2, i3, i4, i5⟩ := HI.out
            refine ⟨fun hb => ?_, i5⟩
            obtain ⟨j1, j2⟩ := i4 hb
            rw [hy0, bytesP] at j2
            exact ⟨j1, j2.symm⟩
          have HP := HI.out.2.1
          have HO := HI.out.2.2.1
          have HM : Hid (MW mb base s p o most bd wr) := hM
          clear hM
          go_wp2
          try simp only [Exit.jump]
          exact bodyPost_ret (results_none rfl _ _ _) rfl ⟨rfl, p, o, bd, HP, HO, HM.out, hK, HR.out.1, HR.out.2⟩
        · have hy : ((y : Int) == 0) = false := by simp; omega
          have hMA : MA mb base s (p / 8) (p % 8) o most bd wr := hM
          obtain ⟨ev, c5, he⟩ := hMA.c5
          cases bd with
          | true =>
            obtain ⟨x, rfl⟩ := he
            have HR : Hid (bad = false → storedP s most pos out = none) := fun hb => HI.out.2.2.2.2 hb (by first | rfl | trivial)
            have HP := HI.out.2.1
            have HO := HI.out.2.2.1
            have HM : Hid (MW mb base s p o most true wr) := hM
            clear hM hMA
            go_wp2
            try simp only [Exit.jump]
            exact bodyPost_ret (results_none rfl _ _ _) rfl ⟨rfl, p, o, true, HP, HO, HM.out, hK, (by intro hc; cases hc), fun hb _ => HR.out hb⟩
          | false =>
            cases he
            clear hMA
            have hDr := hD.kept hK hg hlb
            go_wp2_with fail
            refine (take_any 8 hM hs HI.out.2.1 (by decide) hDr hg).mono ?_
            rintro e w5 ⟨v5, p5, bd5, rfl, l5, q5, hM5, k5, f5, g5⟩
            have hK5 := hK.trans k5
            have hD5 := hD.kept hK5 hg hlb
            have hc5 : (v5 : Int) = ((UInt8.ofNat v5).toNat : Int) := by rw [UInt8.toNat_ofNat', Nat.mod_eq_of_lt l5]
            obtain ⟨c, HC⟩ : ∃ c, Hid (c = UInt8.ofNat v5) := ⟨_, rfl⟩
            rw [← HC.out] at hc5
            have HC5 : Hid ((v5 : Int) = (c.toNat : Int)) := hc5
            clear hM hK k5 hDr c5 hc5
            go_wp2_with fail
            rw [HC5.out]
            refine (put_walk c hM5 HI.out.2.2.1 hm2 hD5).mono ?_
            rintro e w6 ⟨rfl, k6, HM6⟩
            have hK4 := hK5.trans k6
            obtain ⟨o3, bd3, hM4, HI4⟩ : ∃ o3 bd3, MW mb base s p5 o3 most bd3 w6 ∧ Hid (y - 1 < 65536 ∧ p5 ≤ 8 * s.size ∧ o3.length ≤ most ∧ (bd3 = false → bad = false ∧ bytesP s most (y - 1) p5 o3 = storedP s most pos out) ∧ (bad = false → bd3 = true → storedP s most pos out = none)) := by
              obtain ⟨i1, i2, i3, i4, i5⟩ := HI.out
              obtain ⟨j1, j2⟩ := i4 (by first | rfl | trivial)
              have hyy : y = (y - 1) + 1 := by omega
              rw [hyy, bytesP] at j2
              by_cases hlen : o.length = most
              · refine ⟨o, true, HM6.out.1 hlen, by omega, q5, i3, (by intro hc; cases hc), fun _ _ => ?_⟩
                rw [if_neg (by intro hc; exact hc.2 hlen)] at j2
                exact j2.symm
              · refine ⟨o ++ [c], bd5, HM6.out.2 hlen, by omega, q5, by rw [List.length_append]; simp; omega, fun hb => ?_, fun hb hbd => ?_⟩
                · obtain ⟨a1, a2, a3, a4⟩ := f5 hb
                  rw [if_pos ⟨a2, hlen⟩, ← a3, ← a4, ← HC.out] at j2
                  exact ⟨j1, j2⟩
                · have hno : ¬ (p + 8 ≤ 8 * s.size ∧ o.length ≠ most) := by
                    intro hc
                    have := g5 (by first | rfl | trivial) hc.1
                    rw [this] at hbd; cases hbd
                  rw [if_neg hno] at j2
                  exact j2.symm
            clear hM5 hK5 k6 HM6 hD5
            have hyb : y < 65536 := HI.out.1
            have HYi : Hid ((y : Int) - 1 = ((y - 1 : Nat) : Int)) := by show _ = _; omega
            go_wp2
            go_step3
            try simp only [Exit.jump]
            rw [HYi.out]
            exact ⟨rfl, y - 1, p5, o3, bd3, ⟨_, _, _, _, _, _, _, _, _, _, _, _, _, _, _, _, _, _, _, _, _, _, _, _, _, _, _, _, _, _, _, _, _, rfl⟩, hM4, hK4, HI4⟩
      · have hne : ((X : Int) != 65535) = true := by simp; omega
        obtain ⟨xe, hxe⟩ := hD2.stored
        have hM2' : MA mb base s (p2 / 8) (p2 % 8) out most bd2 w2 := hM2
        go_wp2_with fail
        refine (fail_walk xe hM2').mono ?_
        rintro e wr ⟨rfl, hMf, k3⟩
        have hK := hK2.trans k3
        obtain ⟨y, HY⟩ : ∃ y, Hid (v1 = y) := ⟨_, rfl⟩
        obtain ⟨bd, HBb⟩ : ∃ bd, Hid (true = bd) := ⟨_, rfl⟩
        obtain ⟨o, HOo⟩ : ∃ o, Hid (out = o) := ⟨_, rfl⟩
        obtain ⟨p, HPp⟩ : ∃ p, Hid (p2 = p) := ⟨_, rfl⟩
        have HI : Hid (y < 65536 ∧ p ≤ 8 * s.size ∧ o.length ≤ most ∧ (bd = false → bad = false ∧ bytesP s most y p o = storedP s most pos out) ∧ (bad = false → bd = true → storedP s most pos out = none)) := by
          rw [← HY.out, ← HPp.out, ← HOo.out, ← HBb.out]
          exact stored_inv_bad HA.out l1 q2 hm f1 g1 f2 g2 (by rw [HX.out]; exact hX)
        have hM : MW mb base s p o most bd wr := by rw [← HPp.out, ← HOo.out, ← HBb.out]; exact hMf
        rw [HY.out]
        clear hMf hM2 hM2' hK2 k3 hD2 f1 g1 f2 g2 hxe HOo HPp HBb
        go_wp2_with fail
        go_step3
        by_cases hy0 : y = 0
        · have hy : ((y : Int) == 0) = true := by simp; omega
          have HR : Hid ((bd = false → bad = false ∧ storedP s most pos out = some (p, o)) ∧ (bad = false → bd = true → storedP s most pos out = none)) := by
            obtain ⟨i1, i2, i3, i4, i5⟩ := HI.out
            refine ⟨fun hb => ?_, i5⟩
            obtain ⟨j1, j2⟩ := i4 hb
            rw [hy0, bytesP] at j2
            exact ⟨j1, j2.symm⟩
          have HP := HI.out.2.1
          have HO := HI.out.2.2.1
          have HM : Hid (MW mb base s p o most bd wr) := hM
          clear hM
          go_wp2
          try simp only [Exit.jump]
          exact bodyPost_ret (results_none rfl _ _ _) rfl ⟨rfl, p, o, bd, HP, HO, HM.out, hK, HR.out.1, HR.out.2⟩
        · have hy : ((y : Int) == 0) = false := by simp; omega
          have hMA : MA mb base s (p / 8) (p % 8) o most bd wr := hM
          obtain ⟨ev, c5, he⟩ := hMA.c5
          cases bd with
          | true =>
            obtain ⟨x, rfl⟩ := he
            have HR : Hid (bad = false → storedP s most pos out = none) := fun hb => HI.out.2.2.2.2 hb (by first | rfl | trivial)
            have HP := HI.out.2.1
            have HO := HI.out.2.2.1
            have HM : Hid (MW mb base s p o most true wr) := hM
            clear hM hMA
            go_wp2
            try simp only [Exit.jump]
            exact bodyPost_ret (results_none rfl _ _ _) rfl ⟨rfl, p, o, true, HP, HO, HM.out, hK, (by intro hc; cases hc), fun hb _ => HR.out hb⟩
          | false =>
            cases he
            clear hMA
            have hDr := hD.kept hK hg hlb
            go_wp2_with fail
            refine (take_any 8 hM hs HI.out.2.1 (by decide) hDr hg).mono ?_
            rintro e w5 ⟨v5, p5, bd5, rfl, l5, q5, hM5, k5, f5, g5⟩
            have hK5 := hK.trans k5
            have hD5 := hD.kept hK5 hg hlb
            have hc5 : (v5 : Int) = ((UInt8.ofNat v5).toNat : Int) := by rw [UInt8.toNat_ofNat', Nat.mod_eq_of_lt l5]
            obtain ⟨c, HC⟩ : ∃ c, Hid (c = UInt8.ofNat v5) := ⟨_, rfl⟩
            rw [← HC.out] at hc5
            have HC5 : Hid ((v5 : Int) = (c.toNat : Int)) := hc5
            clear hM hK k5 hDr c5 hc5
            go_wp2_with fail
            rw [HC5.out]
            refine (put_walk c hM5 HI.out.2.2.1 hm2 hD5).mono ?_
            rintro e w6 ⟨rfl, k6, HM6⟩
            have hK4 := hK5.trans k6
            obtain ⟨o3, bd3, hM4, HI4⟩ : ∃ o3 bd3, MW mb base s p5 o3 most bd3 w6 ∧ Hid (y - 1 < 65536 ∧ p5 ≤ 8 * s.size ∧ o3.length ≤ most ∧ (bd3 = false → bad = false ∧ bytesP s most (y - 1) p5 o3 = storedP s most pos out) ∧ (bad = false → bd3 = true → storedP s most pos out = none)) := by
              obtain ⟨i1, i2, i3, i4, i5⟩ := HI.out
              obtain ⟨j1, j2⟩ := i4 (by first | rfl | trivial)
              have hyy : y = (y - 1) + 1 := by omega
              rw [hyy, bytesP] at j2
              by_cases hlen : o.length = most
              · refine ⟨o, true, HM6.out.1 hlen, by omega, q5, i3, (by intro hc; cases hc), fun _ _ => ?_⟩
                rw [if_neg (by intro hc; exact hc.2 hlen)] at j2
                exact j2.symm
              · refine ⟨o ++ [c], bd5, HM6.out.2 hlen, by omega, q5, by rw [List.length_append]; simp; omega, fun hb => ?_, fun hb hbd => ?_⟩
                · obtain ⟨a1, a2, a3, a4⟩ := f5 hb
                  rw [if_pos ⟨a2, hlen⟩, ← a3, ← a4, ← HC.out] at j2
                  exact ⟨j1, j2⟩
                · have hno : ¬ (p + 8 ≤ 8 * s.size ∧ o.length ≠ most) := by
                    intro hc
                    have := g5 (by first | rfl | trivial) hc.1
                    rw [this] at hbd; cases hbd
                  rw [if_neg hno] at j2
                  exact j2.symm
            clear hM5 hK5 k6 HM6 hD5
            have hyb : y < 65536 := HI.out.1
            have HYi : Hid ((y : Int) - 1 = ((y - 1 : Nat) : Int)) := by show _ = _; omega
            go_wp2
            go_step3
            try simp only [Exit.jump]
            rw [HYi.out]
            exact ⟨rfl, y - 1, p5, o3, bd3, ⟨_, _, _, _, _, _, _, _, _, _, _, _, _, _, _, _, _, _, _, _, _, _, _, _, _, _, _, _, _, _, _, _, _, rfl⟩, hM4, hK4, HI4⟩
  · rintro a' wr ⟨y, p, o, bd, ⟨u3, u4, u5, u6, u7, u8, u9, u10, u11, u12, u13, u14, u15, u16, u17, u18, u19, u20, u21, u22, u23, u24, u25, u26, u27, u28, u29, u30, u31, u32, u33, u34, u35, rfl⟩, hM, hK, HI⟩
    clear h
    by_cases hy0 : y = 0
    · have hy : ((y : Int) == 0) = true := by simp; omega
      have HR : Hid ((bd = false → bad = false ∧ storedP s most pos out = some (p, o)) ∧ (bad = false → bd = true → storedP s most pos out = none)) := by
        obtain ⟨i1, i2, i3, i4, i5⟩ := HI.out
        refine ⟨fun hb => ?_, i5⟩
        obtain ⟨j1, j2⟩ := i4 hb
        rw [hy0, bytesP] at j2
        exact ⟨j1, j2.symm⟩
      have HP := HI.out.2.1
      have HO := HI.out.2.2.1
      have HM : Hid (MW mb base s p o most bd wr) := hM
      clear hM
      go_wp2
      try simp only [Exit.jump]
      exact bodyPost_ret (results_none rfl _ _ _) rfl ⟨rfl, p, o, bd, HP, HO, HM.out, hK, HR.out.1, HR.out.2⟩
    · have hy : ((y : Int) == 0) = false := by simp; omega
      have hMA : MA mb base s (p / 8) (p % 8) o most bd wr := hM
      obtain ⟨ev, c5, he⟩ := hMA.c5
      cases bd with
      | true =>
        obtain ⟨x, rfl⟩ := he
        have HR : Hid (bad = false → storedP s most pos out = none) := fun hb => HI.out.2.2.2.2 hb (by first | rfl | trivial)
        have HP := HI.out.2.1
        have HO := HI.out.2.2.1
        have HM : Hid (MW mb base s p o most true wr) := hM
        clear hM hMA
        go_wp2
        try simp only [Exit.jump]
        exact bodyPost_ret (results_none rfl _ _ _) rfl ⟨rfl, p, o, true, HP, HO, HM.out, hK, (by intro hc; cases hc), fun hb _ => HR.out hb⟩
      | false =>
        cases he
        clear hMA
        have hDr := hD.kept hK hg hlb
        go_wp2_with fail
        refine (take_any 8 hM hs HI.out.2.1 (by decide) hDr hg).mono ?_
        rintro e w5 ⟨v5, p5, bd5, rfl, l5, q5, hM5, k5, f5, g5⟩
        have hK5 := hK.trans k5
        have hD5 := hD.kept hK5 hg hlb
        have hc5 : (v5 : Int) = ((UInt8.ofNat v5).toNat : Int) := by rw [UInt8.toNat_ofNat', Nat.mod_eq_of_lt l5]
        obtain ⟨c, HC⟩ : ∃ c, Hid (c = UInt8.ofNat v5) := ⟨_, rfl⟩
        rw [← HC.out] at hc5
        have HC5 : Hid ((v5 : Int) = (c.toNat : Int)) := hc5
        clear hM hK k5 hDr c5 hc5
        go_wp2_with fail
        rw [HC5.out]
        refine (put_walk c hM5 HI.out.2.2.1 hm2 hD5).mono ?_
        rintro e w6 ⟨rfl, k6, HM6⟩
        have hK4 := hK5.trans k6
        obtain ⟨o3, bd3, hM4, HI4⟩ : ∃ o3 bd3, MW mb base s p5 o3 most bd3 w6 ∧ Hid (y - 1 < 65536 ∧ p5 ≤ 8 * s.size ∧ o3.length ≤ most ∧ (bd3 = false → bad = false ∧ bytesP s most (y - 1) p5 o3 = storedP s most pos out) ∧ (bad = false → bd3 = true → storedP s most pos out = none)) := by
          obtain ⟨i1, i2, i3, i4, i5⟩ := HI.out
          obtain ⟨j1, j2⟩ := i4 (by first | rfl | trivial)
          have hyy : y = (y - 1) + 1 := by omega
          rw [hyy, bytesP] at j2
          by_cases hlen : o.length = most
          · refine ⟨o, true, HM6.out.1 hlen, by omega, q5, i3, (by intro hc; cases hc), fun _ _ => ?_⟩
            rw [if_neg (by intro hc; exact hc.2 hlen)] at j2
            exact j2.symm
          · refine ⟨o ++ [c], bd5, HM6.out.2 hlen, by omega, q5, by rw [List.length_append]; simp; omega, fun hb => ?_, fun hb hbd => ?_⟩
            · obtain ⟨a1, a2, a3, a4⟩ := f5 hb
              rw [if_pos ⟨a2, hlen⟩, ← a3, ← a4, ← HC.out] at j2
              exact ⟨j1, j2⟩
            · have hno : ¬ (p + 8 ≤ 8 * s.size ∧ o.length ≠ most) := by
                intro hc
                have := g5 (by first | rfl | trivial) hc.1
                rw [this] at hbd; cases hbd
              rw [if_neg hno] at j2
              exact j2.symm
        clear hM5 hK5 k6 HM6 hD5
        have hyb : y < 65536 := HI.out.1
        have HYi : Hid ((y : Int) - 1 = ((y - 1 : Nat) : Int)) := by show _ = _; omega
        go_wp2
        go_step3
        try simp only [Exit.jump]
        rw [HYi.out]
        refine ⟨rfl, ⟨y - 1, p5, o3, bd3, ⟨_, _, _, _, _, _, _, _, _, _, _, _, _, _, _, _, _, _, _, _, _, _, _, _, _, _, _, _, _, _, _, _, _, rfl⟩, hM4, hK4, HI4⟩, ?_⟩
        simp [intOf]; omega
end
end Go.Proofs.YtjilhneefbakhaaDoor.Inf
