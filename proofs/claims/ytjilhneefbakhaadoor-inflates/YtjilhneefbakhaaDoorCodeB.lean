/- The machine reads a symbol. -/
import Derived.Test.YtjilhneefbakhaaDoorCodeA
import Derived.Test.YtjilhneefbakhaaDoorScopesB
namespace Go.Proofs.YtjilhneefbakhaaDoor.Inf
open Go.RowKit Go.Proofs.YtjilhneefbakhaaDoor.Sha

theorem or_bit (v x : Nat) (hv : v < 65536) (hx : x < 2) : bits .or .i64 ((v : Int) * 2) (x : Int) = ((2 * v + x : Nat) : Int) := by
  have hw : ∀ y : Nat, y < 9223372036854775808 → IntKind.i64.wrap (y : Int) = (y : Int) := by
    intro y hy
    have ey : ((y : Int) % 2 ^ 64) = (y : Int) := by omega
    simp only [IntKind.wrap, IntKind.bits, IntKind.signed, ey]
    rw [if_neg]
    simp only [Bool.true_and, decide_eq_true_eq]
    omega
  have h64 : (v : Int) * 2 = ((v * 2 : Nat) : Int) := by omega
  rw [h64]
  have eo : v * 2 ||| x = 2 * v + x := by
    have h1 : x < 2 ^ 1 := by omega
    have := Nat.shiftLeft_add_eq_or_of_lt h1 v
    rw [Nat.shiftLeft_eq, Nat.pow_one] at this
    omega
  have e : ∀ y : Nat, y < 9223372036854775808 → (BitVec.ofInt 64 (y : Int)).toNat = y := fun y hy => by rw [BitVec.ofInt_natCast, BitVec.toNat_ofNat]; exact Nat.mod_eq_of_lt (by omega)
  show IntKind.i64.wrap ((BitVec.ofInt 64 ((v * 2 : Nat) : Int) ||| BitVec.ofInt 64 (x : Int)).toNat : Int) = _
  rw [BitVec.toNat_or, e _ (by omega), e _ (by omega), eo, hw _ (by omega)]
section
variable {mb base cb o : Nat} {s : ByteArray} {pos : Nat} {out : List UInt8} {most : Nat} {bad : Bool} {lens : List Nat} {w : World}
set_option maxRecDepth 100000 in
set_option maxHeartbeats 4000000 in
theorem symbol_walk (h : MW mb base s pos out most bad w) (hs : s.size ≤ 140737488355328) (hp : pos ≤ 8 * s.size) (hD : DefW w) (hg : 33 ≤ mb) (hC : CodeK mb w cb o lens) (hl : lens.length ≤ 1000) :
    Calls Tryd.prog 47 #[.pointer (some ⟨mb, 0, none⟩), .pointer (some ⟨cb, o, none⟩)] w fun e w' => ∃ (x p : Nat) (bd : Bool), e = .returned (.int .i64 (x : Int)) ∧ (x < lens.length ∨ x = 0) ∧ p ≤ 8 * s.size ∧ MW mb base s p out most bd w' ∧ Kept mb base w w' ∧ Hid ((bd = false → bad = false ∧ symP lens s pos = some (x, p)) ∧ (bad = false → symP lens s pos ≠ none → bd = false)) := by
  have hlb : mb < base := MA.lt h
  obtain ⟨R, HR⟩ : ∃ R, Hid (symP lens s pos = R) := ⟨_, rfl⟩
  rw [HR.out]
  have HR0 : Hid (symG lens s 15 0 0 pos = R) := HR.out
  clear HR
  go_enter Tryd.func47, Tryd.ntmps47
  go_wp2
  refine scope_fall (fun n l a' w' => ∃ (N v p : Nat) (bd : Bool) (zn zv zx zo : Int), (∃ f : Nat → Value, a' = { tmps := #[.pointer (some ⟨mb, 0, none⟩), .pointer (some ⟨cb, o, none⟩), undef, undef, f 4, .int .i64 zn, .int .i64 zv, .int .i64 zx, .int .i64 zo, f 9, f 10, f 11, f 12, f 13, f 14, f 15, f 16, f 17, f 18, f 19, f 20, f 21, f 22, f 23, f 24, f 25, f 26, f 27, f 28, f 29, f 30, f 31, f 32, f 33, f 34, f 35, f 36, f 37, f 38, f 39, f 40, f 41, f 42, f 43, f 44, f 45, f 46, f 47, f 48, f 49, f 50, f 51, f 52, f 53, f 54, f 55, f 56, f 57, f 58, f 59], defers := [] }) ∧ (zn = (N : Int) ∧ zv = (v : Int) ∧ zx = ((nx lens N : Nat) : Int) ∧ zo = ((off lens N : Nat) : Int)) ∧ MW mb base s p out most bd w' ∧ Kept mb base w w' ∧ p ≤ 8 * s.size ∧ N ≤ 15 ∧ v < 2 ^ N ∧ nx lens N ≤ v ∧ l = 0 ∧ n = 15 - N ∧ Hid ((bd = false → bad = false ∧ symG lens s (15 - N) N v p = R) ∧ (bd = true → bad = true ∨ R = none))) ?_ ?_
  · rintro n ih l a' wr ⟨N, v, p, bd, zn, zv, zx, zo, ⟨f, rfl⟩, ⟨rfl, rfl, rfl, rfl⟩, hM, hK, hp, hN, hv, hnv, rfl, rfl, HI⟩
    clear ih h HR0
    refine ⟨_, rfl, ?_⟩
    have hv16 : v < 65536 := Nat.lt_of_lt_of_le hv (Nat.pow_le_pow_right (by decide) (by omega) : 2 ^ N ≤ 2 ^ 16)
    have hnb : nx lens N < 65536 := by omega
    have hob := off_le lens N
    obtain ⟨nX, HX⟩ : ∃ nX, Hid (nx lens N = nX) := ⟨_, rfl⟩
    obtain ⟨oF, HO⟩ : ∃ oF, Hid (off lens N = oF) := ⟨_, rfl⟩
    rw [HX.out] at hnv hnb ⊢
    rw [HO.out] at hob ⊢
    have hDr := hD.kept hK hg hlb
    by_cases h15 : N = 15
    · have hgt : (15 : Int) < (N : Int) + 1 := by omega
      obtain ⟨x, hx⟩ := hDr.code
      have HN : Hid (bd = false → R = none) := fun hb => by
        have h1 := (HI.out.1 hb).2
        rw [h15] at h1; rw [← h1]; rfl
      go_wp2_with fail
      refine (fail_walk x hM).mono ?_
      rintro e w2 ⟨rfl, hM2, k2⟩
      have HM2 : Hid (MW mb base s p out most true w2) := hM2
      have K2 := hK.trans k2
      clear hM hM2 hK k2 hDr hx
      go_wp2
      simp only [jumps]
      refine bodyPost_ret (results_tmp rfl _ _ _) rfl ⟨0, p, true, rfl, .inr rfl, hp, HM2.out, K2, ⟨(by intro hc; cases hc), fun hb hn => ?_⟩⟩
      exfalso
      cases bd with
      | false => exact hn (HN.out rfl)
      | true => rcases HI.out.2 rfl with h1 | h1
                · rw [hb] at h1; cases h1
                · exact hn h1
    · have hgt : ¬ (15 : Int) < (N : Int) + 1 := by omega
      go_wp2_with fail
      refine (takeBit_any hM hs hp hDr).mono ?_
      rintro e w2 ⟨x, p2, bd2, rfl, hx, hp2, hM2, k2, i1, i2⟩
      have K2 := hK.trans k2
      have hC2 := hC.kept K2
      have hor := or_bit v x hv16 hx
      have hb0 : 2 * nX ≤ 2 * v + x := by omega
      have HvB : Hid (2 * v + x < 2 ^ (N + 1)) := by show _ < _; rw [Nat.pow_succ]; omega
      have HB : Hid (∀ b, bd2 = false → bitAt s p = b → x = b) := fun b h1 h2 => by rw [← h2]; exact (i1 h1).2.2.2
      obtain ⟨B, HBB⟩ : ∃ B, Hid (2 * v + x = B) := ⟨_, rfl⟩
      rw [HBB.out] at hor hb0 HvB
      have hBb : B < 131072 := by have := HBB.out; omega
      have c1 := hC2.cnts (N + 1) (by omega)
      obtain ⟨C, HC⟩ : ∃ C, Hid (cn lens (N + 1) = C) := ⟨_, rfl⟩
      rw [HC.out] at c1
      have hCb : C ≤ 1000 := by rw [← HC.out]; exact Nat.le_trans (cn_le _ _) hl
      have HCn : Hid (cnt lens (N + 1) = C) := by rw [← HC.out]; simp [Hid, cn]
      have HM2 : Hid (MW mb base s p2 out most bd2 w2) := hM2
      have Hi : Hid ((bd2 = false → bd = false ∧ p < 8 * s.size ∧ p2 = p + 1 ∧ x = bitAt s p) ∧ (bd = false → p < 8 * s.size → bd2 = false)) := ⟨i1, i2⟩
      have HG : Hid (bd = false → p < 8 * s.size → x = bitAt s p → (match (symsOf lens (N + 1))[B - 2 * nX]? with
          | some y => some (y, p + 1)
          | none => symG lens s (14 - N) (N + 1) B (p + 1)) = R) := fun h1 h2 h3 => by
        have h4 := (HI.out.1 h1).2
        rw [show 15 - N = (14 - N) + 1 by omega, symG, if_pos h2, ← h3, HBB.out, HX.out] at h4
        exact h4
      have HG2 : Hid (bd = false → ¬ p < 8 * s.size → R = none) := fun h1 h2 => by
        have h4 := (HI.out.1 h1).2
        rw [show 15 - N = (14 - N) + 1 by omega, symG, if_neg h2] at h4
        exact h4.symm
      have HBad : Hid (bad = false → R ≠ none → bd = false ∧ p < 8 * s.size) := fun h1 h2 => by
        cases bd with
        | true => rcases HI.out.2 rfl with h3 | h3
                  · rw [h1] at h3; cases h3
                  · exact absurd h3 h2
        | false => exact ⟨rfl, Classical.byContradiction fun h3 => h2 (HG2.out rfl h3)⟩
      have HBad0 : Hid (bd = false → bad = false) := fun h1 => (HI.out.1 h1).1
      clear i1 i2 hM2 hM hDr
      by_cases hlt : B - 2 * nX < C
      · have hlt' : (B : Int) - (nX : Int) * 2 < (C : Int) := by omega
        obtain ⟨g, cap, l, ag, c16, hso, hcl⟩ := hC2.syms
        have hin : B - 2 * nX < (symsOf lens (N + 1)).length := by have := HCn.out; unfold cnt at this; omega
        obtain ⟨y, HY⟩ : ∃ y, Hid ((symsOf lens (N + 1))[B - 2 * nX]? = some y) := ⟨_, List.getElem?_eq_getElem hin⟩
        have HYl : Hid (y < lens.length) := syms_lt (List.mem_of_getElem? HY.out)
        have hly := hso.2 N (by omega) _ _ HY.out
        rw [HO.out] at hly
        have cy := hcl _ _ hly
        have hDl := (List.getElem?_eq_some_iff.1 hly).1
        obtain ⟨D, HDD⟩ : ∃ D, Hid (oF + (B - 2 * nX) = D) := ⟨_, rfl⟩
        rw [HDD.out] at cy hDl
        have hD0 : (oF : Int) + (B : Int) - (nX : Int) * 2 = (D : Int) := by have := HDD.out; omega
        have hDl' : (D : Int) < (l.length : Int) := by omega
        have HR2 : Hid ((bd2 = false → bad = false ∧ R = some (y, p2)) ∧ (bad = false → R ≠ none → bd2 = false)) := by
          refine ⟨fun hb => ?_, fun hb hn => ?_⟩
          · obtain ⟨j1, j2, j3, j4⟩ := Hi.out.1 hb
            have := HG.out j1 j2 j4
            rw [HY.out] at this
            exact ⟨HBad0.out j1, by rw [← this, j3]⟩
          · obtain ⟨j1, j2⟩ := HBad.out hb hn
            exact Hi.out.2 j1 j2
        clear hcl hly hso ag hin
        go_wp2
        simp only [jumps]
        exact bodyPost_ret (results_tmp rfl _ _ _) rfl ⟨y, p2, bd2, rfl, .inl HYl.out, hp2, HM2.out, K2, HR2.out⟩
      · have hlt' : ¬ (B : Int) - (nX : Int) * 2 < (C : Int) := by omega
        have HY : Hid ((symsOf lens (N + 1))[B - 2 * nX]? = none) := List.getElem?_eq_none (by have := HCn.out; unfold cnt at this; omega)
        have HR2 : Hid ((bd2 = false → bad = false ∧ symG lens s (15 - (N + 1)) (N + 1) B p2 = R) ∧ (bd2 = true → bad = true ∨ R = none)) := by
          refine ⟨fun hb => ?_, fun hb => ?_⟩
          · obtain ⟨j1, j2, j3, j4⟩ := Hi.out.1 hb
            have := HG.out j1 j2 j4
            rw [HY.out] at this
            exact ⟨HBad0.out j1, by rw [← this, j3, show 15 - (N + 1) = 14 - N by omega]⟩
          · by_cases h1 : bad = false
            · by_cases h2 : R = none
              · exact .inr h2
              · obtain ⟨j1, j2⟩ := HBad.out h1 h2
                rw [Hi.out.2 j1 j2] at hb; cases hb
            · exact .inl (by cases bad <;> simp_all)
        have HX2 : Hid (nx lens (N + 1) = 2 * nX + C) := by show _ = _; rw [nx, HX.out, HCn.out]
        have HO2 : Hid (off lens (N + 1) = oF + C) := by show _ = _; rw [off, HO.out, HCn.out]
        have hoC : oF + C ≤ 1000 := by rw [← HO2.out]; exact Nat.le_trans (off_le _ _) hl
        go_wp2
        go_step3
        try simp only [Exit.jump]
        exact ⟨_, (by omega : 15 - (N + 1) < 15 - N), N + 1, B, p2, bd2, _, _, _, _, mkF rfl, ⟨by omega, rfl, by rw [HX2.out]; omega, by rw [HO2.out]; omega⟩, HM2.out, K2, hp2, by omega, HvB.out, by rw [HX2.out]; omega, rfl, rfl, HR2.out⟩
  · intro all
    go_wp2_with fail
    go_step3
    rename_i hKK
    exact hKK _ _ (fall2 (all 15 0 _ _ ⟨0, 0, pos, bad, _, _, _, _, mkF rfl, ⟨rfl, rfl, rfl, rfl⟩, h, Kept.refl _ _ _, hp, by omega, by decide, Nat.le_refl _, rfl, rfl, ⟨fun hb => ⟨hb, HR0.out⟩, fun hb => .inl hb⟩⟩) rfl fun k l' a' w' _ hJ => ⟨k, hJ⟩)
end
end Go.Proofs.YtjilhneefbakhaaDoor.Inf
