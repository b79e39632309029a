/- The document's block of codes, and its block of bytes as they are. -/
import Derived.Test.YtjilhneefbakhaaDoorRefX
import Derived.Test.YtjilhneefbakhaaDoorRunAll
namespace Go.Proofs.YtjilhneefbakhaaDoor.Inf
open Go.RowKit Go.Proofs.YtjilhneefbakhaaDoor.Sha

/-- Which bit comes next. -/
def atOf (tb : Nat) (w : World) : Nat := match w.cell? ⟨tb, 1, none⟩ with
  | some (.int _ z) => z.toNat
  | _ => 0
theorem TA.at {tb base : Nat} {s : ByteArray} {pos : Nat} {out : List UInt8} {most : Nat} {bad : Bool} {w : World} (h : TA tb base s pos out most bad w) : atOf tb w = pos := by
  unfold atOf; rw [h.c1]; rfl
section
variable {tb base : Nat} {s : ByteArray} {pos : Nat} {out : List UInt8} {most : Nat} {near far : List Nat} {w : World}
theorem putR_nat {bad : Bool} (x : Nat) (c : UInt8) (hc : c.toNat = x) (h : TA tb base s pos out most bad w) (hm : out.length ≤ most) (hm2 : most ≤ 8000) :
    Calls Tryd.prog 23 #[.pointer (some ⟨tb, 0, none⟩), .int .u8 (x : Int)] w fun e w' => PutR tb base s pos out most bad c w e w' := by
  subst hc; exact putR_walk c h hm hm2
set_option maxRecDepth 100000 in
set_option maxHeartbeats 4000000 in
theorem inR_walk (v1 v2 : Value) (h : TA tb base s pos out most false w) (hs : s.size ≤ 140737488355328) (hp : pos ≤ 8 * s.size) (hm : out.length ≤ most) (hm2 : most ≤ 8000) (hC1 : CodL tb w v1 near) (hC2 : CodL tb w v2 far) (hl1 : near.length ≤ 1000) (hl2 : far.length ≤ 1000) :
    Calls Tryd.prog 27 #[.pointer (some ⟨tb, 0, none⟩), v1, v2] w fun e w' => CopR tb base s most (packP near far s most pos out) w e w' := by
  obtain ⟨R, HR⟩ : ∃ R, Hid (packP near far s most pos out = R) := ⟨_, rfl⟩
  rw [HR.out]
  have HR0 : Hid (packG near far s most (8 * s.size + 1 - pos) pos out = R) := HR.out
  clear HR
  go_enter Tryd.func27, Tryd.ntmps27
  go_wp2
  go_loopw [7, 8] (fun _ _ wr => ∃ (p : Nat) (o : List UInt8), TA tb base s p o most false wr ∧ Kept tb base w wr ∧ p ≤ 8 * s.size ∧ o.length ≤ most ∧ Hid (∃ f, 8 * s.size + 1 - p ≤ f ∧ packG near far s most f p o = R)) (fun _ _ wr => 8 * s.size + 1 - atOf tb wr)
  case atStart => exact ⟨pos, out, h, Kept.refl _ _ _, hp, hm, ⟨_, Nat.le_refl _, HR0.out⟩⟩
  case round =>
    clear h HR0
    obtain ⟨p, o, hM, hK, hp, hm, HI⟩ := hrel
    have HQ : Hid (∃ f, 8 * s.size + 1 - p ≤ f + 1 ∧ packG near far s most (f + 1) p o = R) := by
      obtain ⟨f1, i2, i3⟩ := HI.out
      obtain ⟨f2, rfl⟩ : ∃ f2, f1 = f2 + 1 := ⟨f1 - 1, by omega⟩
      exact ⟨f2, i2, i3⟩
    have HAt : Hid (atOf tb wr = p) := hM.at
    go_wp2_with fail
    refine (symR_walk v1 hM hs hp (hC1.kept hK) hl1).mono ?_
    rintro e w2 ⟨z, p2, bd2, rfl, hp2, hM2, k2, hcase⟩
    have hK2 := hK.trans k2
    clear hM hK k2 HI
    rcases hcase with ⟨x, rfl, hx, _, hb2, hS⟩ | ⟨rfl, hS⟩
    · subst hb2
      have HP2 : Hid (p < p2 ∧ ∃ f, 8 * s.size + 1 - p2 ≤ f ∧ (if x < 256 then (if o.length = most then none else packG near far s most f p2 (o ++ [UInt8.ofNat x])) else if x = 256 then some (p2, o) else if 285 < x then none else
          match copyP far s most x p2 o with
          | none => none
          | some (q, o') => packG near far s most f q o') = R) := by
        obtain ⟨f1, hf1, hf2⟩ := HQ.out
        have hlt := (symP_lt hS).2.1
        rw [packG_more hS] at hf2
        exact ⟨hlt, f1, by omega, hf2⟩
      have hx0 : (0 : Int) ≤ (x : Int) := by omega
      clear hS HQ
      by_cases h256 : x < 256
      · have e1 : (x : Int) < 256 := by omega
        have e2 : ((x : Int) == 256) = false := by rw [beq_eq_false_iff_ne]; omega
        have e3 : (x : Int) ≤ 285 := by omega
        obtain ⟨c, Hc⟩ : ∃ c : UInt8, Hid (UInt8.ofNat x = c) := ⟨_, rfl⟩
        have HcX : Hid (c.toNat = x) := by rw [← Hc.out]; simp [Hid]; omega
        rw [Hc.out] at HP2
        go_wp2_with fail
        refine (putR_nat x c HcX.out hM2 hm hm2).mono ?_
        rintro e w3 ⟨r, o2, rfl, hM3, k3, hm3, q1, q2⟩
        have hK3 := hK2.trans k3
        by_cases hlm : o.length = most
        · obtain ⟨e4, e5⟩ := q1 hlm
          subst e4
          have HF : Hid (R = none) := by
            obtain ⟨_, f1, _, hf2⟩ := HP2.out
            rw [if_pos h256, if_pos hlm] at hf2
            exact hf2.symm
          clear hM2 hK2 k3 q1 q2
          go_wp2
          exact bodyPost_ret (results_tmp rfl _ _ _) rfl ⟨false, p2, o2, false, rfl, hp2, hm3, hM3, hK3, (by intro hc; cases hc), fun _ => HF.out⟩
        · obtain ⟨e4, e5⟩ := q2 hlm
          subst e4
          have HF : Hid (∃ f, 8 * s.size + 1 - p2 ≤ f ∧ packG near far s most f p2 o2 = R) := by
            obtain ⟨_, f1, hf1, hf2⟩ := HP2.out
            rw [if_pos h256, if_neg hlm, ← e5] at hf2
            exact ⟨f1, hf1, hf2⟩
          have HAt2 : Hid (atOf tb w3 = p2 ∧ p < p2) := ⟨hM3.at, HP2.out.1⟩
          clear hM2 hK2 k3 q1 q2 e5
          go_wp2
          go_roundw
          case rel => exact ⟨p2, o2, hM3, hK3, hp2, hm3, HF⟩
          case measure => rw [HAt.out, HAt2.out.1]; have := HAt2.out.2; omega
      · have e1 : ¬ (x : Int) < 256 := by omega
        by_cases h2 : x = 256
        · have e2 : ((x : Int) == 256) = true := by simp; omega
          have e3 : (x : Int) ≤ 285 := by omega
          have HF : Hid (R = some (p2, o)) := by
            obtain ⟨_, f1, _, hf2⟩ := HP2.out
            rw [if_neg h256, if_pos h2] at hf2
            exact hf2.symm
          clear h2
          go_wp2
          exact bodyPost_ret (results_tmp rfl _ _ _) rfl ⟨true, p2, o, false, rfl, hp2, hm, hM2, hK2, fun _ => ⟨rfl, HF.out⟩, (by intro hc; cases hc)⟩
        · have e2 : ((x : Int) == 256) = false := by rw [beq_eq_false_iff_ne]; omega
          by_cases h3 : x ≤ 285
          · have e3 : (x : Int) ≤ 285 := by omega
            go_wp2_with fail
            refine (copR_walk x v2 (by omega) h3 hM2 hs hp2 hm hm2 (hC2.kept hK2) hl2).mono ?_
            rintro e w3 ⟨r, p3, o3, bd3, rfl, hp3, hm3, hM3, k3, q1, q2⟩
            have hK3 := hK2.trans k3
            cases r with
            | false =>
              have HF : Hid (R = none) := by
                obtain ⟨_, f1, _, hf2⟩ := HP2.out
                rw [if_neg h256, if_neg h2, if_neg (by omega), q2 rfl] at hf2
                exact hf2.symm
              clear hM2 hK2 k3 q1 q2
              go_wp2
              exact bodyPost_ret (results_tmp rfl _ _ _) rfl ⟨false, p3, o3, bd3, rfl, hp3, hm3, hM3, hK3, (by intro hc; cases hc), fun _ => HF.out⟩
            | true =>
              obtain ⟨e4, e5⟩ := q1 rfl
              subst e4
              have HF : Hid (p < p3 ∧ ∃ f, 8 * s.size + 1 - p3 ≤ f ∧ packG near far s most f p3 o3 = R) := by
                obtain ⟨hlt, f1, hf1, hf2⟩ := HP2.out
                rw [if_neg h256, if_neg h2, if_neg (by omega), e5] at hf2
                have hlt2 := (copyP_lt e5).1
                exact ⟨by omega, f1, by omega, hf2⟩
              have HAt2 : Hid (atOf tb w3 = p3) := hM3.at
              clear hM2 hK2 k3 q1 q2 e5
              go_wp2
              go_roundw
              case rel => exact ⟨p3, o3, hM3, hK3, hp3, hm3, HF.out.2⟩
              case measure => rw [HAt.out, HAt2.out]; have := HF.out.1; omega
          · have e3 : ¬ (x : Int) ≤ 285 := by omega
            have HF : Hid (R = none) := by
              obtain ⟨_, f1, _, hf2⟩ := HP2.out
              rw [if_neg h256, if_neg h2, if_pos (by omega)] at hf2
              exact hf2.symm
            go_wp2
            exact bodyPost_ret (results_tmp rfl _ _ _) rfl ⟨false, p2, o, false, rfl, hp2, hm, hM2, hK2, (by intro hc; cases hc), fun _ => HF.out⟩
    · have HF : Hid (R = none) := by
        obtain ⟨f1, _, hf2⟩ := HQ.out
        rw [packG_none (hS rfl)] at hf2
        exact hf2.symm
      clear hS
      go_wp2
      exact bodyPost_ret (results_tmp rfl _ _ _) rfl ⟨false, p2, o, bd2, rfl, hp2, hm, hM2, hK2, (by intro hc; cases hc), fun _ => HF.out⟩
end
end Go.Proofs.YtjilhneefbakhaaDoor.Inf
