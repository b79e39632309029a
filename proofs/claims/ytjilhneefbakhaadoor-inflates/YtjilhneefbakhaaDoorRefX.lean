/- The document's copy. -/
import Derived.Test.YtjilhneefbakhaaDoorRefW
namespace Go.Proofs.YtjilhneefbakhaaDoor.Inf
open Go.RowKit Go.Proofs.YtjilhneefbakhaaDoor.Sha

theorem lenEx (i : Nat) (hi : i < 28) : exN 8 4 3 i = lenBase.getD i 0 ∧ exB 8 4 i = lenBits.getD i 0 := by
  have : ∀ i ∈ List.range 28, exN 8 4 3 i = lenBase.getD i 0 ∧ exB 8 4 i = lenBits.getD i 0 := by decide +kernel
  exact this i (List.mem_range.2 hi)
theorem disEx (i : Nat) (hi : i < 30) : exN 4 2 1 i = disBase.getD i 0 ∧ exB 4 2 i = disBits.getD i 0 := by
  have : ∀ i ∈ List.range 30, exN 4 2 1 i = disBase.getD i 0 ∧ exB 4 2 i = disBits.getD i 0 := by decide +kernel
  exact this i (List.mem_range.2 hi)
section
variable {tb base : Nat} {s : ByteArray} {pos : Nat} {out : List UInt8} {most : Nat} {far : List Nat} {w : World}
/-- What the document's copied leaves. -/
def CopR (tb base : Nat) (s : ByteArray) (most : Nat) (R : Option (Nat × List UInt8)) (w : World) (e : Ending) (w' : World) : Prop :=
  ∃ (r : Bool) (p : Nat) (o : List UInt8) (bd : Bool), e = .returned (.bool r) ∧ p ≤ 8 * s.size ∧ o.length ≤ most ∧ TA tb base s p o most bd w' ∧ Kept tb base w w' ∧ (r = true → bd = false ∧ R = some (p, o)) ∧ (r = false → R = none)
set_option maxRecDepth 100000 in
set_option maxHeartbeats 4000000 in
theorem copR_walk (x : Nat) (v0 : Value) (hx1 : 257 ≤ x) (hx2 : x ≤ 285) (h : TA tb base s pos out most false w) (hs : s.size ≤ 140737488355328) (hp : pos ≤ 8 * s.size) (hm : out.length ≤ most) (hm2 : most ≤ 8000) (hC : CodL tb w v0 far) (hl : far.length ≤ 1000) :
    Calls Tryd.prog 42 #[.pointer (some ⟨tb, 0, none⟩), .int .i64 (x : Int), v0] w fun e w' => CopR tb base s most (copyP far s most x pos out) w e w' := by
  obtain ⟨i, HIx⟩ : ∃ i, Hid (x - 257 = i) := ⟨_, rfl⟩
  have hi29 : i < 29 := by have := HIx.out; omega
  have hxi : (x : Int) - 257 = (i : Int) := by have := HIx.out; omega
  go_enter Tryd.func42, Tryd.ntmps42
  go_wp2_with fail
  refine (extra_walk i 8 4 3 (by omega) (by decide) (by decide) (by decide) (by decide)).mono ?_
  rintro e w1 ⟨rfl, hw⟩
  rw [hw]
  clear hw w1
  by_cases h285 : x = 285
  · have h285' : ((x : Int) == 285) = true := by simp; omega
    have HLt : Hid (lenBits.getD (x - 257) 0 = 0) := by rw [h285]; rfl
    have HLb : Hid (lenBase.getD (x - 257) 0 = 258) := by rw [h285]; rfl
    clear h285
    obtain ⟨X1, HX1⟩ : ∃ X1, Hid (exN 8 4 3 i = X1) := ⟨_, rfl⟩
    obtain ⟨X2, HX2⟩ : ∃ X2, Hid (exB 8 4 i = X2) := ⟨_, rfl⟩
    rw [HX1.out, HX2.out]
    go_wp2_with fail
    refine (many_any 0 h hs hp (by omega)).mono ?_
    rintro e w1 ⟨v, p1, bd1, rfl, hv, hp1, hM1, k1, f1, g1⟩
    have hv32 : v < 32 := Nat.lt_of_lt_of_le hv (Nat.pow_le_pow_right (by decide) (by omega) : 2 ^ 0 ≤ 2 ^ 5)
    have hC1 := hC.kept k1
    obtain ⟨N, HN⟩ : ∃ N, Hid (258 + v = N) := ⟨_, rfl⟩
    have hNN : (258 : Int) + (v : Int) = (N : Int) := by have := HN.out; omega
    have hN300 : N ≤ 300 := by have := HN.out; omega
    have HE1 : Hid ((bd1 = true → copyP far s most x pos out = none) ∧ (bd1 = false → takeP s pos (lenBits.getD (x - 257) 0) = some (v, p1))) := by
      refine ⟨fun hb => copyP_n1 ?_, fun hb => ?_⟩
      · rw [HLt.out]
        exact takeP_no (fun hq => by rw [g1 rfl hq] at hb; cases hb)
      · obtain ⟨i1, i2, i3, i4⟩ := f1 hb
        rw [HLt.out, takeP_yes i2, i3, i4]
    clear h f1 g1 hC HX1 HX2
    go_wp2_with fail
    refine (symR_walk v0 hM1 hs hp1 hC1 hl).mono ?_
    rintro e w2 ⟨z, p2, bd2, rfl, hp2, hM2, k2, hcase⟩
    have hK2 := k1.trans k2
    clear hM1 k1 k2 hC1
    rcases hcase with ⟨k, rfl, hk, hb1, hb2, hS⟩ | ⟨rfl, hS⟩
    · subst hb2
      have HS : Hid (takeP s pos (lenBits.getD (x - 257) 0) = some (v, p1) ∧ symP far s p1 = some (k, p2)) := ⟨HE1.out.2 hb1, hS⟩
      clear hS hb1 HE1
      have hk0 : ¬ (k : Int) < 0 := by omega
      by_cases hk29 : 29 < k
      · have hk29' : (29 : Int) < (k : Int) := by omega
        have HF : Hid (copyP far s most x pos out = none) := copyP_n3 HS.out.1 HS.out.2 hk29
        go_wp2
        exact bodyPost_ret (results_tmp rfl _ _ _) rfl ⟨false, p2, out, false, rfl, hp2, hm, hM2, hK2, (by intro hc; cases hc), fun _ => HF.out⟩
      · have hk29' : ¬ (29 : Int) < (k : Int) := by omega
        obtain ⟨Db, HDb⟩ : ∃ y, Hid (disBase[k]? = some y ∧ disBase.getD k 0 = y) := tab_get (n := 30) rfl k (by omega)
        obtain ⟨Dt, HDt⟩ : ∃ y, Hid (disBits[k]? = some y ∧ disBits.getD k 0 = y) := tab_get (n := 30) rfl k (by omega)
        have hDb := disBase_le HDb.out.1
        have hDt : Dt ≤ 13 := by rw [← HDt.out.2]; exact disBits_le k
        go_wp2_with fail
        refine (extra_walk k 4 2 1 (by omega) (by decide) (by decide) (by decide) (by decide)).mono ?_
        rintro e w3 ⟨rfl, hw⟩
        rw [hw, (disEx k (by omega)).1, (disEx k (by omega)).2, HDb.out.2, HDt.out.2]
        clear hw w3
        go_wp2_with fail
        refine (many_any Dt hM2 hs hp2 (by omega)).mono ?_
        rintro e w3 ⟨y, p3, bd3, rfl, hy, hp3, hM3, k3, f3, g3⟩
        have hy8 : y < 8192 := Nat.lt_of_lt_of_le hy (Nat.pow_le_pow_right (by decide) hDt : 2 ^ Dt ≤ 2 ^ 13)
        obtain ⟨D, HDD⟩ : ∃ D, Hid (Db + y = D) := ⟨_, rfl⟩
        have hDD : (Db : Int) + (y : Int) = (D : Int) := by have := HDD.out; omega
        have hD1 : 1 ≤ D := by have := HDD.out; omega
        have hD2 : D ≤ 100000 := by have := HDD.out; omega
        have hK3 := hK2.trans k3
        obtain ⟨RR, HRR⟩ : ∃ RR, Hid (repP most D N out = RR) := ⟨_, rfl⟩
        have HE3 : Hid ((bd3 = true → copyP far s most x pos out = none) ∧ (bd3 = false → copyP far s most x pos out = if out.length < D then none else RR.map fun o' => (p3, o'))) := by
          refine ⟨fun hb => ?_, fun hb => ?_⟩
          · refine copyP_n4 HS.out.1 HS.out.2 hk29 ?_
            rw [HDt.out.2]
            exact takeP_no (fun hq => by rw [g3 rfl hq] at hb; cases hb)
          · obtain ⟨i1, i2, i3, i4⟩ := f3 hb
            have h4 : takeP s p2 (disBits.getD k 0) = some (y, p3) := by rw [HDt.out.2, takeP_yes i2, i3, i4]
            rw [copyP_eq HS.out.1 HS.out.2 hk29 h4, HDb.out.2, HDD.out, HLb.out, HN.out, HRR.out]
        have c2 := hM3.c2
        obtain ⟨vo, c3, ho⟩ := hM3.c3
        obtain ⟨ao, cap, hv0⟩ := own_slice ho
        subst hv0
        obtain ⟨L0, HL0⟩ : ∃ L, Hid (out.length = L) := ⟨_, rfl⟩
        rw [HL0.out] at c3
        have HM3 : Hid (TA tb base s p3 out most bd3 w3) := hM3
        clear hM2 hK2 k3 f3 g3 hM3 ho HS
        cases bd3 with
        | true =>
          have HF : Hid (copyP far s most x pos out = none) := HE3.out.1 rfl
          go_wp2
          exact bodyPost_ret (results_tmp rfl _ _ _) rfl ⟨false, p3, out, true, rfl, hp3, hm, HM3.out, hK3, (by intro hc; cases hc), fun _ => HF.out⟩
        | false =>
          by_cases hgt : L0 < D
          · have hgt' : (L0 : Int) < (D : Int) := by omega
            have HF : Hid (copyP far s most x pos out = none) := by rw [HE3.out.2 rfl, if_pos (by have := HL0.out; omega)]; rfl
            go_wp2
            exact bodyPost_ret (results_tmp rfl _ _ _) rfl ⟨false, p3, out, false, rfl, hp3, hm, HM3.out, hK3, (by intro hc; cases hc), fun _ => HF.out⟩
          · have hgt' : ¬ (L0 : Int) < (D : Int) := by omega
            have HF : Hid (copyP far s most x pos out = RR.map fun o' => (p3, o')) := by rw [HE3.out.2 rfl, if_neg (by have := HL0.out; omega)]; rfl
            have hDl : D ≤ out.length := by have := HL0.out; omega
            clear HE3
            go_wp2
            go_loopw [14, 15] (fun i _ wr => ∃ (j : Nat) (o' : List UInt8), j ≤ N ∧ i = .int .i64 (j : Int) ∧ TA tb base s p3 o' most false wr ∧ Kept tb base w wr ∧ o'.length ≤ most ∧ D ≤ o'.length ∧ Hid (repP most D (N - j) o' = RR)) (fun i _ _ => N - (intOf i).toNat)
            case atStart => exact ⟨0, out, by omega, rfl, HM3.out, hK3, hm, hDl, HRR.out⟩
            case round =>
              clear HM3 hK3 c2 c3
              obtain ⟨j, o', hj, rfl, hM, hK, hm', hd', HI⟩ := hrel
              by_cases hlt : j < N
              · have hlt' : (j : Int) < (N : Int) := by omega
                obtain ⟨v', c3, ho⟩ := hM.c3
                obtain ⟨ao', cap', hv⟩ := own_slice ho
                subst hv
                obtain ⟨g, cap2, hv2⟩ := Own.form ho (by intro hc; have := congrArg List.length hc; simp at this; subst this; simp at hd'; omega)
                rw [List.length_map] at hv2
                injection hv2 with e1 _ e3
                subst e1
                obtain ⟨b, HY⟩ : ∃ y, Hid (o'[o'.length - D]? = some y ∧ o'.getD (o'.length - D) 0 = y) := ⟨o'[o'.length - D]'(by omega), List.getElem?_eq_getElem (by omega), by rw [List.getD_eq_getElem?_getD, List.getElem?_eq_getElem (by omega)]; rfl⟩
                have hcy : wr.cell? ⟨g, o'.length - D, none⟩ = some (.int .u8 (b.toNat : Int)) := by
                  rcases ho with ⟨hv, _⟩ | ⟨g', cap3, hv, _, _, _, h4, _⟩
                  · cases hv
                  · injection hv with hv1; injection hv1 with hv1; injection hv1 with hv1
                    subst hv1
                    exact h4 _ (u8v b) (by rw [List.getElem?_map, HY.out.1]; rfl)
                obtain ⟨L, HL⟩ : ∃ L, Hid (o'.length = L) := ⟨_, rfl⟩
                rw [HL.out] at c3 hcy
                obtain ⟨E, HEE⟩ : ∃ E, Hid (L - D = E) := ⟨_, rfl⟩
                rw [HEE.out] at hcy
                have hLD : (L : Int) - (D : Int) = (E : Int) := by have := HL.out; have := HEE.out; omega
                have hwr : IntKind.i64.wrap ((L : Int) - (D : Int)) = (L : Int) - (D : Int) := by rw [hLD]; exact wrapNat _ (by have := HL.out; omega)
                have hi1 : (0 : Int) ≤ (L : Int) - (D : Int) := by omega
                have hi2 : (L : Int) - (D : Int) < (L : Int) := by omega
                have hi3 : ((L : Int) - (D : Int)).toNat = E := by omega
                have hi4 : (D : Int) ≤ (L : Int) := by have := HL.out; omega
                have hi5 : (0 : Int) < (D : Int) := by omega
                have hMd : TA tb base s p3 o' most false wr.drew := hM.drew 1
                have hKd : Kept tb base w wr.drew := hK.trans (Kept.drew 1)
                have HRn : Hid (repP most D (N - j) o' = RR) := HI
                clear hM ho HI hLD hK
                go_wp2_with fail
                go_still_tail 14, (by kernel_rfl)
                go_wp2_with fail
                refine (putR_walk b hMd hm' hm2).mono ?_
                rintro e w4 ⟨r, o2, rfl, hM4, k4, hm4, q1, q2⟩
                have hK4 := hKd.trans k4
                by_cases hlm : o'.length = most
                · obtain ⟨e1, e2⟩ := q1 hlm
                  subst e1
                  have HF2 : Hid (copyP far s most x pos out = none) := by
                    have h1 := HRn.out
                    rw [show N - j = (N - (j + 1)) + 1 by omega, repP, if_pos hlm] at h1
                    rw [HF.out, ← h1]; rfl
                  clear hMd hKd k4 q1 q2 c3 hcy
                  go_wp2
                  exact bodyPost_ret (results_tmp rfl _ _ _) rfl ⟨false, p3, o2, false, rfl, hp3, hm4, hM4, hK4, (by intro hc; cases hc), fun _ => HF2.out⟩
                · obtain ⟨e1, e2⟩ := q2 hlm
                  subst e1
                  have HR2 : Hid (repP most D (N - (j + 1)) o2 = RR ∧ D ≤ o2.length) := by
                    have h1 := HRn.out
                    rw [show N - j = (N - (j + 1)) + 1 by omega, repP, if_neg hlm, HY.out.2, ← e2] at h1
                    exact ⟨h1, by rw [e2]; simp; omega⟩
                  clear hMd hKd k4 q1 q2 c3 hcy e2
                  go_wp2
                  go_roundw
                  case rel => exact ⟨j + 1, o2, by omega, by go_num, hM4, hK4, hm4, HR2.out.2, HR2.out.1⟩
                  case measure => simp [intOf]; omega
              · have hlt' : ¬ (j : Int) < (N : Int) := by omega
                have HF2 : Hid (copyP far s most x pos out = some (p3, o')) := by
                  have h1 := HI.out
                  rw [show N - j = 0 by omega] at h1
                  rw [HF.out, ← h1]; rfl
                go_wp2
                exact bodyPost_ret (results_tmp rfl _ _ _) rfl ⟨true, p3, o', false, rfl, hp3, hm', hM, hK, fun _ => ⟨rfl, HF2.out⟩, (by intro hc; cases hc)⟩
    · have HF : Hid (copyP far s most x pos out = none) := by
        cases bd1 with
        | true => exact HE1.out.1 rfl
        | false => exact copyP_n2 (HE1.out.2 rfl) (hS rfl)
      clear hS
      go_wp2
      exact bodyPost_ret (results_tmp rfl _ _ _) rfl ⟨false, p2, out, bd2, rfl, hp2, hm, hM2, hK2, (by intro hc; cases hc), fun _ => HF.out⟩
  · have h285' : ((x : Int) == 285) = false := by rw [beq_eq_false_iff_ne]; omega
    obtain ⟨Lb, HLb0⟩ : ∃ y, Hid (lenBase[i]? = some y ∧ lenBase.getD i 0 = y) := tab_get (n := 29) rfl i hi29
    obtain ⟨Lt, HLt0⟩ : ∃ y, Hid (lenBits[i]? = some y ∧ lenBits.getD i 0 = y) := tab_get (n := 29) rfl i hi29
    have hLb := lenBase_le HLb0.out.1
    have hLt : Lt ≤ 5 := by rw [← HLt0.out.2]; exact lenBits_le i
    have HLt : Hid (lenBits.getD (x - 257) 0 = Lt) := by rw [HIx.out]; exact HLt0.out.2
    have HLb : Hid (lenBase.getD (x - 257) 0 = Lb) := by rw [HIx.out]; exact HLb0.out.2
    have hi28 : i < 28 := by have := HIx.out; omega
    rw [(lenEx i hi28).1, (lenEx i hi28).2, HLb0.out.2, HLt0.out.2]
    clear h285
    go_wp2_with fail
    refine (many_any Lt h hs hp (by omega)).mono ?_
    rintro e w1 ⟨v, p1, bd1, rfl, hv, hp1, hM1, k1, f1, g1⟩
    have hv32 : v < 32 := Nat.lt_of_lt_of_le hv (Nat.pow_le_pow_right (by decide) (by omega) : 2 ^ Lt ≤ 2 ^ 5)
    have hC1 := hC.kept k1
    obtain ⟨N, HN⟩ : ∃ N, Hid (Lb + v = N) := ⟨_, rfl⟩
    have hNN : (Lb : Int) + (v : Int) = (N : Int) := by have := HN.out; omega
    have hN300 : N ≤ 300 := by have := HN.out; omega
    have HE1 : Hid ((bd1 = true → copyP far s most x pos out = none) ∧ (bd1 = false → takeP s pos (lenBits.getD (x - 257) 0) = some (v, p1))) := by
      refine ⟨fun hb => copyP_n1 ?_, fun hb => ?_⟩
      · rw [HLt.out]
        exact takeP_no (fun hq => by rw [g1 rfl hq] at hb; cases hb)
      · obtain ⟨i1, i2, i3, i4⟩ := f1 hb
        rw [HLt.out, takeP_yes i2, i3, i4]
    clear h f1 g1 hC 
    go_wp2_with fail
    refine (symR_walk v0 hM1 hs hp1 hC1 hl).mono ?_
    rintro e w2 ⟨z, p2, bd2, rfl, hp2, hM2, k2, hcase⟩
    have hK2 := k1.trans k2
    clear hM1 k1 k2 hC1
    rcases hcase with ⟨k, rfl, hk, hb1, hb2, hS⟩ | ⟨rfl, hS⟩
    · subst hb2
      have HS : Hid (takeP s pos (lenBits.getD (x - 257) 0) = some (v, p1) ∧ symP far s p1 = some (k, p2)) := ⟨HE1.out.2 hb1, hS⟩
      clear hS hb1 HE1
      have hk0 : ¬ (k : Int) < 0 := by omega
      by_cases hk29 : 29 < k
      · have hk29' : (29 : Int) < (k : Int) := by omega
        have HF : Hid (copyP far s most x pos out = none) := copyP_n3 HS.out.1 HS.out.2 hk29
        go_wp2
        exact bodyPost_ret (results_tmp rfl _ _ _) rfl ⟨false, p2, out, false, rfl, hp2, hm, hM2, hK2, (by intro hc; cases hc), fun _ => HF.out⟩
      · have hk29' : ¬ (29 : Int) < (k : Int) := by omega
        obtain ⟨Db, HDb⟩ : ∃ y, Hid (disBase[k]? = some y ∧ disBase.getD k 0 = y) := tab_get (n := 30) rfl k (by omega)
        obtain ⟨Dt, HDt⟩ : ∃ y, Hid (disBits[k]? = some y ∧ disBits.getD k 0 = y) := tab_get (n := 30) rfl k (by omega)
        have hDb := disBase_le HDb.out.1
        have hDt : Dt ≤ 13 := by rw [← HDt.out.2]; exact disBits_le k
        go_wp2_with fail
        refine (extra_walk k 4 2 1 (by omega) (by decide) (by decide) (by decide) (by decide)).mono ?_
        rintro e w3 ⟨rfl, hw⟩
        rw [hw, (disEx k (by omega)).1, (disEx k (by omega)).2, HDb.out.2, HDt.out.2]
        clear hw w3
        go_wp2_with fail
        refine (many_any Dt hM2 hs hp2 (by omega)).mono ?_
        rintro e w3 ⟨y, p3, bd3, rfl, hy, hp3, hM3, k3, f3, g3⟩
        have hy8 : y < 8192 := Nat.lt_of_lt_of_le hy (Nat.pow_le_pow_right (by decide) hDt : 2 ^ Dt ≤ 2 ^ 13)
        obtain ⟨D, HDD⟩ : ∃ D, Hid (Db + y = D) := ⟨_, rfl⟩
        have hDD : (Db : Int) + (y : Int) = (D : Int) := by have := HDD.out; omega
        have hD1 : 1 ≤ D := by have := HDD.out; omega
        have hD2 : D ≤ 100000 := by have := HDD.out; omega
        have hK3 := hK2.trans k3
        obtain ⟨RR, HRR⟩ : ∃ RR, Hid (repP most D N out = RR) := ⟨_, rfl⟩
        have HE3 : Hid ((bd3 = true → copyP far s most x pos out = none) ∧ (bd3 = false → copyP far s most x pos out = if out.length < D then none else RR.map fun o' => (p3, o'))) := by
          refine ⟨fun hb => ?_, fun hb => ?_⟩
          · refine copyP_n4 HS.out.1 HS.out.2 hk29 ?_
            rw [HDt.out.2]
            exact takeP_no (fun hq => by rw [g3 rfl hq] at hb; cases hb)
          · obtain ⟨i1, i2, i3, i4⟩ := f3 hb
            have h4 : takeP s p2 (disBits.getD k 0) = some (y, p3) := by rw [HDt.out.2, takeP_yes i2, i3, i4]
            rw [copyP_eq HS.out.1 HS.out.2 hk29 h4, HDb.out.2, HDD.out, HLb.out, HN.out, HRR.out]
        have c2 := hM3.c2
        obtain ⟨vo, c3, ho⟩ := hM3.c3
        obtain ⟨ao, cap, hv0⟩ := own_slice ho
        subst hv0
        obtain ⟨L0, HL0⟩ : ∃ L, Hid (out.length = L) := ⟨_, rfl⟩
        rw [HL0.out] at c3
        have HM3 : Hid (TA tb base s p3 out most bd3 w3) := hM3
        clear hM2 hK2 k3 f3 g3 hM3 ho HS
        cases bd3 with
        | true =>
          have HF : Hid (copyP far s most x pos out = none) := HE3.out.1 rfl
          go_wp2
          exact bodyPost_ret (results_tmp rfl _ _ _) rfl ⟨false, p3, out, true, rfl, hp3, hm, HM3.out, hK3, (by intro hc; cases hc), fun _ => HF.out⟩
        | false =>
          by_cases hgt : L0 < D
          · have hgt' : (L0 : Int) < (D : Int) := by omega
            have HF : Hid (copyP far s most x pos out = none) := by rw [HE3.out.2 rfl, if_pos (by have := HL0.out; omega)]; rfl
            go_wp2
            exact bodyPost_ret (results_tmp rfl _ _ _) rfl ⟨false, p3, out, false, rfl, hp3, hm, HM3.out, hK3, (by intro hc; cases hc), fun _ => HF.out⟩
          · have hgt' : ¬ (L0 : Int) < (D : Int) := by omega
            have HF : Hid (copyP far s most x pos out = RR.map fun o' => (p3, o')) := by rw [HE3.out.2 rfl, if_neg (by have := HL0.out; omega)]; rfl
            have hDl : D ≤ out.length := by have := HL0.out; omega
            clear HE3
            go_wp2
            go_loopw [14, 15] (fun i _ wr => ∃ (j : Nat) (o' : List UInt8), j ≤ N ∧ i = .int .i64 (j : Int) ∧ TA tb base s p3 o' most false wr ∧ Kept tb base w wr ∧ o'.length ≤ most ∧ D ≤ o'.length ∧ Hid (repP most D (N - j) o' = RR)) (fun i _ _ => N - (intOf i).toNat)
            case atStart => exact ⟨0, out, by omega, rfl, HM3.out, hK3, hm, hDl, HRR.out⟩
            case round =>
              clear HM3 hK3 c2 c3
              obtain ⟨j, o', hj, rfl, hM, hK, hm', hd', HI⟩ := hrel
              by_cases hlt : j < N
              · have hlt' : (j : Int) < (N : Int) := by omega
                obtain ⟨v', c3, ho⟩ := hM.c3
                obtain ⟨ao', cap', hv⟩ := own_slice ho
                subst hv
                obtain ⟨g, cap2, hv2⟩ := Own.form ho (by intro hc; have := congrArg List.length hc; simp at this; subst this; simp at hd'; omega)
                rw [List.length_map] at hv2
                injection hv2 with e1 _ e3
                subst e1
                obtain ⟨b, HY⟩ : ∃ y, Hid (o'[o'.length - D]? = some y ∧ o'.getD (o'.length - D) 0 = y) := ⟨o'[o'.length - D]'(by omega), List.getElem?_eq_getElem (by omega), by rw [List.getD_eq_getElem?_getD, List.getElem?_eq_getElem (by omega)]; rfl⟩
                have hcy : wr.cell? ⟨g, o'.length - D, none⟩ = some (.int .u8 (b.toNat : Int)) := by
                  rcases ho with ⟨hv, _⟩ | ⟨g', cap3, hv, _, _, _, h4, _⟩
                  · cases hv
                  · injection hv with hv1; injection hv1 with hv1; injection hv1 with hv1
                    subst hv1
                    exact h4 _ (u8v b) (by rw [List.getElem?_map, HY.out.1]; rfl)
                obtain ⟨L, HL⟩ : ∃ L, Hid (o'.length = L) := ⟨_, rfl⟩
                rw [HL.out] at c3 hcy
                obtain ⟨E, HEE⟩ : ∃ E, Hid (L - D = E) := ⟨_, rfl⟩
                rw [HEE.out] at hcy
                have hLD : (L : Int) - (D : Int) = (E : Int) := by have := HL.out; have := HEE.out; omega
                have hwr : IntKind.i64.wrap ((L : Int) - (D : Int)) = (L : Int) - (D : Int) := by rw [hLD]; exact wrapNat _ (by have := HL.out; omega)
                have hi1 : (0 : Int) ≤ (L : Int) - (D : Int) := by omega
                have hi2 : (L : Int) - (D : Int) < (L : Int) := by omega
                have hi3 : ((L : Int) - (D : Int)).toNat = E := by omega
                have hi4 : (D : Int) ≤ (L : Int) := by have := HL.out; omega
                have hi5 : (0 : Int) < (D : Int) := by omega
                have hMd : TA tb base s p3 o' most false wr.drew := hM.drew 1
                have hKd : Kept tb base w wr.drew := hK.trans (Kept.drew 1)
                have HRn : Hid (repP most D (N - j) o' = RR) := HI
                clear hM ho HI hLD hK
                go_wp2_with fail
                go_still_tail 14, (by kernel_rfl)
                go_wp2_with fail
                refine (putR_walk b hMd hm' hm2).mono ?_
                rintro e w4 ⟨r, o2, rfl, hM4, k4, hm4, q1, q2⟩
                have hK4 := hKd.trans k4
                by_cases hlm : o'.length = most
                · obtain ⟨e1, e2⟩ := q1 hlm
                  subst e1
                  have HF2 : Hid (copyP far s most x pos out = none) := by
                    have h1 := HRn.out
                    rw [show N - j = (N - (j + 1)) + 1 by omega, repP, if_pos hlm] at h1
                    rw [HF.out, ← h1]; rfl
                  clear hMd hKd k4 q1 q2 c3 hcy
                  go_wp2
                  exact bodyPost_ret (results_tmp rfl _ _ _) rfl ⟨false, p3, o2, false, rfl, hp3, hm4, hM4, hK4, (by intro hc; cases hc), fun _ => HF2.out⟩
                · obtain ⟨e1, e2⟩ := q2 hlm
                  subst e1
                  have HR2 : Hid (repP most D (N - (j + 1)) o2 = RR ∧ D ≤ o2.length) := by
                    have h1 := HRn.out
                    rw [show N - j = (N - (j + 1)) + 1 by omega, repP, if_neg hlm, HY.out.2, ← e2] at h1
                    exact ⟨h1, by rw [e2]; simp; omega⟩
                  clear hMd hKd k4 q1 q2 c3 hcy e2
                  go_wp2
                  go_roundw
                  case rel => exact ⟨j + 1, o2, by omega, by go_num, hM4, hK4, hm4, HR2.out.2, HR2.out.1⟩
                  case measure => simp [intOf]; omega
              · have hlt' : ¬ (j : Int) < (N : Int) := by omega
                have HF2 : Hid (copyP far s most x pos out = some (p3, o')) := by
                  have h1 := HI.out
                  rw [show N - j = 0 by omega] at h1
                  rw [HF.out, ← h1]; rfl
                go_wp2
                exact bodyPost_ret (results_tmp rfl _ _ _) rfl ⟨true, p3, o', false, rfl, hp3, hm', hM, hK, fun _ => ⟨rfl, HF2.out⟩, (by intro hc; cases hc)⟩
    · have HF : Hid (copyP far s most x pos out = none) := by
        cases bd1 with
        | true => exact HE1.out.1 rfl
        | false => exact copyP_n2 (HE1.out.2 rfl) (hS rfl)
      clear hS
      go_wp2
      exact bodyPost_ret (results_tmp rfl _ _ _) rfl ⟨false, p2, out, bd2, rfl, hp2, hm, hM2, hK2, (by intro hc; cases hc), fun _ => HF.out⟩
end
end Go.Proofs.YtjilhneefbakhaaDoor.Inf
