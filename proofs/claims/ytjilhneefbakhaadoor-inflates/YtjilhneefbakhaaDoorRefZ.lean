/- The document's block of bytes as they are; the fixed codes' lengths. -/
import Derived.Test.YtjilhneefbakhaaDoorRefY
namespace Go.Proofs.YtjilhneefbakhaaDoor.Inf
open Go.RowKit Go.Proofs.YtjilhneefbakhaaDoor.Sha

theorem xor_sum (a b : Nat) (ha : a < 65536) : a ^^^ b = 65535 ↔ a + b = 65535 := by
  have key : ∀ c : Nat, c < 65536 → c ^^^ 65535 = 65535 - c := by
    intro c hc
    have h1 : (BitVec.ofNat 16 c ^^^ BitVec.allOnes 16).toNat = (~~~ BitVec.ofNat 16 c).toNat := by rw [BitVec.xor_allOnes]
    rw [BitVec.toNat_xor, BitVec.toNat_allOnes, BitVec.toNat_not, BitVec.toNat_ofNat, Nat.mod_eq_of_lt (by omega)] at h1
    omega
  constructor
  · intro h
    have h1 : a ^^^ (a ^^^ b) = a ^^^ 65535 := by rw [h]
    rw [← Nat.xor_assoc, Nat.xor_self, Nat.zero_xor, key a ha] at h1
    omega
  · intro h
    have h1 : b = 65535 - a := by omega
    rw [h1, ← key a ha, ← Nat.xor_assoc, Nat.xor_self, Nat.zero_xor]
section
variable {tb base : Nat} {s : ByteArray} {pos : Nat} {out : List UInt8} {most : Nat} {w : World}
set_option maxRecDepth 100000 in
set_option maxHeartbeats 4000000 in
theorem asIsR_walk (h : TA tb base s pos out most false w) (hs : s.size ≤ 140737488355328) (hp : pos ≤ 8 * s.size) (hm : out.length ≤ most) (hm2 : most ≤ 8000) :
    Calls Tryd.prog 14 #[.pointer (some ⟨tb, 0, none⟩)] w fun e w' => CopR tb base s most (storedP s most pos out) w e w' := by
  obtain ⟨R, HR⟩ : ∃ R, Hid (storedP s most pos out = R) := ⟨_, rfl⟩
  rw [HR.out]
  obtain ⟨q0, HQ0⟩ : ∃ q0, Hid ((pos + 7) / 8 * 8 = q0) := ⟨_, rfl⟩
  have HR0 : Hid ((if q0 + 32 ≤ 8 * s.size ∧ bitsVal s q0 16 ^^^ bitsVal s (q0 + 16) 16 = 65535 then bytesP s most (bitsVal s q0 16) (q0 + 32) out else none) = R) := by rw [← HR.out, ← HQ0.out]; rfl
  clear HR
  go_enter Tryd.func14, Tryd.ntmps14
  go_wp2
  go_loopw [] (fun wr => ∃ (p : Nat), TA tb base s p out most false wr ∧ Kept tb base w wr ∧ p ≤ 8 * s.size ∧ Hid ((p + 7) / 8 * 8 = q0)) (fun wr => (8 - atOf tb wr % 8) % 8)
  case atStart => exact ⟨pos, h, Kept.refl _ _ _, hp, HQ0⟩
  case round =>
    clear h
    obtain ⟨p, hM, hK, hp, HP⟩ := hrel
    have c1 := hM.c1
    have f1 := hM.fro 1
    have HAt : Hid (atOf tb wr = p) := hM.at
    obtain ⟨b, HB⟩ : ∃ b, Hid (p % 8 = b) := ⟨_, rfl⟩
    have hb8 : b < 8 := by have := HB.out; omega
    have hr : (p : Int).tmod 8 = (b : Int) := by rw [Int.tmod_eq_emod_of_nonneg (by omega)]; have := HB.out; omega
    have hwb : IntKind.i64.wrap (b : Int) = (b : Int) := wrapNat _ (by omega)
    by_cases hb0 : b = 0
    · have hne : ((b : Int) != 0) = false := by simp; omega
      have HPq : Hid (p = q0) := by show _ = _; have := HP.out; have := HB.out; omega
      clear hb0
      go_wp2_with fail
      refine (many_any 16 hM hs hp (by decide)).mono ?_
      rintro e w1 ⟨n, p1, bd1, rfl, hn, hp1, hM1, k1, f1, g1⟩
      have hn' : n < 65536 := hn
      go_wp2_with fail
      refine (many_any 16 hM1 hs hp1 (by decide)).mono ?_
      rintro e w2 ⟨m, p2, bd2, rfl, hm', hp2, hM2, k2, f2, g2⟩
      have hm'' : m < 65536 := hm'
      have hK2 := (hK.trans k1).trans k2
      have c2 := hM2.c2
      have HF : Hid ((bd2 = true → ¬ q0 + 32 ≤ 8 * s.size) ∧ (bd2 = false → q0 + 32 ≤ 8 * s.size ∧ n = bitsVal s q0 16 ∧ m = bitsVal s (q0 + 16) 16 ∧ p2 = q0 + 32)) := by
        refine ⟨fun hbd hle => ?_, fun hbd => ?_⟩
        · have b1 := g1 (by first | rfl | trivial) (by have := HPq.out; omega)
          have e1 := (f1 b1).2.2.1
          rw [g2 b1 (by have := HPq.out; omega)] at hbd; cases hbd
        · obtain ⟨b1, i2, i3, i4⟩ := f2 hbd
          obtain ⟨_, j2, j3, j4⟩ := f1 b1
          rw [HPq.out] at j3 j4
          rw [j3] at i3 i4
          exact ⟨by omega, j4, i4, by omega⟩
      clear hM hM1 hK k1 k2 f1 g1 f2 g2 c1
      cases bd2 with
      | true =>
        have HN : Hid (R = none) := by rw [← HR0.out, if_neg (fun hc => HF.out.1 rfl hc.1)]; rfl
        go_wp2
        exact bodyPost_ret (results_tmp rfl _ _ _) rfl ⟨false, p2, out, true, rfl, hp2, hm, hM2, hK2, (by intro hc; cases hc), fun _ => HN.out⟩
      | false =>
        by_cases hsum : n + m = 65535
        · have hsum' : ((n : Int) + (m : Int) != 65535) = false := by simp; omega
          have HI0 : Hid (bytesP s most n p2 out = R) := by
            obtain ⟨i1, i2, i3, i4⟩ := HF.out.2 rfl
            rw [← HR0.out, ← i2, ← i3, ← i4, if_pos ⟨by omega, (xor_sum n m hn').2 hsum⟩]; rfl
          clear hsum HF HR0
          go_wp2
          go_loopw [5, 6, 7] (fun i _ _ wr => ∃ (k p : Nat) (o : List UInt8), k ≤ n ∧ i = .int .i64 (k : Int) ∧ TA tb base s p o most false wr ∧ Kept tb base w wr ∧ p ≤ 8 * s.size ∧ o.length ≤ most ∧ Hid (bytesP s most (n - k) p o = R)) (fun i _ _ _ => n - (intOf i).toNat)
          case atStart => exact ⟨0, p2, out, by omega, rfl, hM2, hK2, hp2, hm, HI0⟩
          case round =>
            clear hM2 hK2 c2 HI0
            obtain ⟨k, p, o, hk, rfl, hM, hK, hp, hm, HI⟩ := hrel
            by_cases hlt : k < n
            · have hlt' : (k : Int) < (n : Int) := by omega
              go_wp2_with fail
              refine (many_any 8 hM hs hp (by decide)).mono ?_
              rintro e w3 ⟨x, p3, bd3, rfl, hx, hp3, hM3, k3, f3, g3⟩
              have hx8 : x < 256 := hx
              obtain ⟨c, Hc⟩ : ∃ c : UInt8, Hid (UInt8.ofNat x = c) := ⟨_, rfl⟩
              have HcX : Hid (c.toNat = x) := by rw [← Hc.out]; simp [Hid]; omega
              go_wp2_with fail
              refine (putR_nat x c HcX.out hM3 hm hm2).mono ?_
              rintro e w4 ⟨r, o2, rfl, hM4, k4, hm4, q1, q2⟩
              have hK4 := (hK.trans k3).trans k4
              have c24 := hM4.c2
              have HI2 : Hid ((if p + 8 ≤ 8 * s.size ∧ o.length ≠ most then bytesP s most (n - (k + 1)) (p + 8) (o ++ [UInt8.ofNat (bitsVal s p 8)]) else none) = R) := by
                have h1 := HI.out
                rw [show n - k = (n - (k + 1)) + 1 by omega, bytesP] at h1
                exact h1
              have HF3 : Hid ((bd3 = true → ¬ p + 8 ≤ 8 * s.size) ∧ (bd3 = false → p + 8 ≤ 8 * s.size ∧ p3 = p + 8 ∧ x = bitsVal s p 8)) := by
                refine ⟨fun hbd hle => ?_, fun hbd => ?_⟩
                · rw [g3 (by first | rfl | trivial) hle] at hbd; cases hbd
                · obtain ⟨_, i2, i3, i4⟩ := f3 hbd
                  exact ⟨i2, i3, i4⟩
              clear hM hM3 hK k3 k4 f3 g3 HI
              cases bd3 with
              | true =>
                have HN : Hid (R = none) := by rw [← HI2.out, if_neg (fun hc => HF3.out.1 rfl hc.1)]; rfl
                clear q1 q2
                go_wp2
                exact bodyPost_ret (results_tmp rfl _ _ _) rfl ⟨false, p3, o2, true, rfl, hp3, hm4, hM4, hK4, (by intro hc; cases hc), fun _ => HN.out⟩
              | false =>
                by_cases hlm : o.length = most
                · obtain ⟨e4, e5⟩ := q1 hlm
                  subst e4
                  have HN : Hid (R = none) := by rw [← HI2.out, if_neg (fun hc => hc.2 hlm)]; rfl
                  clear q1 q2
                  go_wp2
                  exact bodyPost_ret (results_tmp rfl _ _ _) rfl ⟨false, p3, o2, false, rfl, hp3, hm4, hM4, hK4, (by intro hc; cases hc), fun _ => HN.out⟩
                · obtain ⟨e4, e5⟩ := q2 hlm
                  subst e4
                  have HI3 : Hid (bytesP s most (n - (k + 1)) p3 o2 = R) := by
                    obtain ⟨i1, i2, i3⟩ := HF3.out.2 rfl
                    rw [← HI2.out, if_pos ⟨i1, hlm⟩, e5, ← i3, i2, Hc.out]; rfl
                  clear q1 q2 e5
                  go_wp2
                  go_roundw
                  case rel => exact ⟨k + 1, p3, o2, by omega, by go_num, hM4, hK4, hp3, hm4, HI3⟩
                  case measure => simp [intOf]; omega
            · have hlt' : ¬ (k : Int) < (n : Int) := by omega
              have HN : Hid (R = some (p, o)) := by
                have h1 := HI.out
                rw [show n - k = 0 by omega] at h1
                exact h1.symm
              go_wp2
              exact bodyPost_ret (results_tmp rfl _ _ _) rfl ⟨true, p, o, false, rfl, hp, hm, hM, hK, fun _ => ⟨rfl, HN.out⟩, (by intro hc; cases hc)⟩
        · have hsum' : ((n : Int) + (m : Int) != 65535) = true := by simp; omega
          have HN : Hid (R = none) := by
            obtain ⟨i1, i2, i3, i4⟩ := HF.out.2 rfl
            rw [← HR0.out, if_neg (fun hc => hsum ((xor_sum n m hn').1 (by rw [i2, i3]; exact hc.2)))]; rfl
          clear hsum
          go_wp2
          exact bodyPost_ret (results_tmp rfl _ _ _) rfl ⟨false, p2, out, false, rfl, hp2, hm, hM2, hK2, (by intro hc; cases hc), fun _ => HN.out⟩
    · have hne : ((b : Int) != 0) = true := by simp; omega
      have h2 := hM.setAt ((p : Int) + 1) (p + 1) (by omega)
      have k2 : Kept tb base w (wr.setCell ⟨tb, 1, none⟩ (.int .i64 ((p : Int) + 1))) := hK.trans (Kept.set _ _ _ (by decide))
      have HP2 : Hid (p + 1 ≤ 8 * s.size ∧ (p + 1 + 7) / 8 * 8 = q0 ∧ (8 - (p + 1) % 8) % 8 < (8 - p % 8) % 8 ∧ atOf tb (wr.setCell ⟨tb, 1, none⟩ (.int .i64 ((p : Int) + 1))) = p + 1) := by
        have h1 := HP.out
        have h3 := HB.out
        exact ⟨by omega, by omega, by omega, h2.at⟩
      clear hb0 hM hK
      go_wp2
      go_roundw
      case rel => exact ⟨p + 1, h2, k2, HP2.out.1, HP2.out.2.1⟩
      case measure => rw [HAt.out, HP2.out.2.2.2]; exact HP2.out.2.2.1
end
end Go.Proofs.YtjilhneefbakhaaDoor.Inf
