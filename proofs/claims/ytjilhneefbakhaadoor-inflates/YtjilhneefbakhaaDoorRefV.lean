/- The document reads a symbol. -/
import Derived.Test.YtjilhneefbakhaaDoorRefU
namespace Go.Proofs.YtjilhneefbakhaaDoor.Inf
open Go.RowKit Go.Proofs.YtjilhneefbakhaaDoor.Sha

/-- The codes of some lengths, away from the text. -/
def CodL (tb : Nat) (w : World) (v : Value) (lens : List Nat) : Prop :=
  ∃ ao cap, v = .slice ao (codesN lens 15).length cap ∧ ∀ i c, (codesN lens 15)[i]? = some c → ∃ g, ao = some ⟨g, 0, none⟩ ∧ Apart tb w g ∧ w.cell? ⟨g, 3 * i, none⟩ = some (nv c.1) ∧ w.cell? ⟨g, 3 * i + 1, none⟩ = some (nv c.2.1) ∧ w.cell? ⟨g, 3 * i + 2, none⟩ = some (nv c.2.2)
theorem CodL.kept {tb base : Nat} {w w' : World} {v : Value} {lens : List Nat} (h : CodL tb w v lens) (hk : Kept tb base w w') : CodL tb w' v lens := by
  obtain ⟨ao, cap, hv, h⟩ := h
  refine ⟨ao, cap, hv, fun i c hc => ?_⟩
  obtain ⟨g, h1, h2, h3, h4, h5⟩ := h i c hc
  obtain ⟨a1, e1⟩ := hk.apart h2
  refine ⟨g, h1, a1, ?_, ?_, ?_⟩
  · rw [World.cell?_of_block (a := ⟨g, 3 * i, none⟩) (w := w) e1]; exact h3
  · rw [World.cell?_of_block (a := ⟨g, 3 * i + 1, none⟩) (w := w) e1]; exact h4
  · rw [World.cell?_of_block (a := ⟨g, 3 * i + 2, none⟩) (w := w) e1]; exact h5
theorem look_drop (n v : Nat) (L : List (Nat × Nat × Nat)) (i : Nat) (c : Nat × Nat × Nat) (h : L[i]? = some c) : look n v (L.drop i) = if c.1 = n ∧ c.2.1 = v then some c.2.2 else look n v (L.drop (i + 1)) := by
  have hi := List.getElem?_eq_some_iff.1 h
  rw [List.drop_eq_getElem_cons hi.1, hi.2]; rfl
section
variable {tb base : Nat} {s : ByteArray} {pos : Nat} {out : List UInt8} {most : Nat} {bad : Bool} {lens : List Nat} {w : World}
/-- What the document's symbol leaves. -/
def SymR (tb base : Nat) (s : ByteArray) (out : List UInt8) (most : Nat) (bad : Bool) (n : Nat) (R : Option (Nat × Nat)) (w : World) (e : Ending) (w' : World) : Prop :=
  ∃ (z : Int) (p : Nat) (bd : Bool), e = .returned (.int .i64 z) ∧ p ≤ 8 * s.size ∧ TA tb base s p out most bd w' ∧ Kept tb base w w' ∧ ((∃ x : Nat, z = (x : Int) ∧ x < n ∧ bad = false ∧ bd = false ∧ R = some (x, p)) ∨ (z = -1 ∧ (bad = false → R = none)))
set_option maxRecDepth 100000 in
set_option maxHeartbeats 4000000 in
theorem symR_walk (v : Value) (h : TA tb base s pos out most bad w) (hs : s.size ≤ 140737488355328) (hp : pos ≤ 8 * s.size) (hC : CodL tb w v lens) (hl : lens.length ≤ 1000) :
    Calls Tryd.prog 41 #[.pointer (some ⟨tb, 0, none⟩), v] w fun e w' => SymR tb base s out most bad lens.length (symP lens s pos) w e w' := by
  obtain ⟨R, HR⟩ : ∃ R, Hid (symP lens s pos = R) := ⟨_, rfl⟩
  rw [HR.out]
  have HR0 : Hid (symG lens s 15 0 0 pos = R) := HR.out
  clear HR
  obtain ⟨ao, cap, rfl, hC⟩ := hC
  obtain ⟨L, HL⟩ : ∃ L, Hid (codesN lens 15 = L) := ⟨_, rfl⟩
  have hLl : L.length ≤ 1000 := by rw [← HL.out, codesN_len]; exact Nat.le_trans (off_le _ _) hl
  rw [HL.out] at hC ⊢
  have HC : Hid (∀ i c, L[i]? = some c → ∃ g, ao = some ⟨g, 0, none⟩ ∧ Apart tb w g ∧ w.cell? ⟨g, 3 * i, none⟩ = some (nv c.1) ∧ w.cell? ⟨g, 3 * i + 1, none⟩ = some (nv c.2.1) ∧ w.cell? ⟨g, 3 * i + 2, none⟩ = some (nv c.2.2)) := hC
  clear hC
  obtain ⟨T, HT⟩ : ∃ T, Hid (L.length = T) := ⟨_, rfl⟩
  rw [HT.out] at hLl ⊢
  go_enter Tryd.func41, Tryd.ntmps41
  go_wp2
  go_loopw [5, 6, 7, 8] (fun v n _ _ wr => ∃ (N vv p : Nat), N ≤ 15 ∧ n = .int .i64 ((N + 1 : Nat) : Int) ∧ v = .int .i64 (vv : Int) ∧ TA tb base s p out most bad wr ∧ Kept tb base w wr ∧ Hid (p ≤ 8 * s.size ∧ vv < 2 ^ N ∧ nx lens N ≤ vv ∧ symG lens s (15 - N) N vv p = R)) (fun _ n _ _ _ => 16 - (intOf n).toNat)
  case atStart => exact ⟨0, 0, pos, by omega, rfl, rfl, h, Kept.refl _ _ _, ⟨hp, by decide, Nat.le_refl _, HR0.out⟩⟩
  case round =>
    clear h HR0
    obtain ⟨N, vv, p, hN, rfl, rfl, hM, hK, HI⟩ := hrel
    have hv16 : vv < 65536 := Nat.lt_of_lt_of_le HI.out.2.1 (Nat.pow_le_pow_right (by decide) (by omega) : 2 ^ N ≤ 2 ^ 16)
    obtain ⟨M, HM⟩ : ∃ M, Hid (N + 1 = M) := ⟨_, rfl⟩
    have hM16 : M ≤ 16 := by have := HM.out; omega
    rw [HM.out]
    by_cases hlt : M ≤ 15
    · have hlt' : (M : Int) ≤ 15 := by omega
      go_wp2_with fail
      refine (one_walk hM hs HI.out.1).mono ?_
      rintro e w2 ⟨x, p2, bd2, rfl, hx, hp2, hM2, k2, HX⟩
      have hK2 := hK.trans k2
      have c2 := hM2.c2
      have HM2 : Hid (TA tb base s p2 out most bd2 w2) := hM2
      clear hM hK k2 hM2
      cases bd2 with
      | true =>
        have HN : Hid (bad = false → R = none) := fun hb => by
          have hpl : ¬ p < 8 * s.size := fun hc => by have := (HX.out.1 hc).2.2; rw [hb] at this; cases this
          obtain ⟨_, _, _, h4⟩ := HI.out
          rw [show 15 - N = (14 - N) + 1 by have := HM.out; omega, symG, if_neg hpl] at h4
          exact h4.symm
        go_wp2
        exact bodyPost_ret (results_tmp rfl _ _ _) rfl ⟨-1, p2, true, rfl, hp2, HM2.out, hK2, .inr ⟨rfl, HN.out⟩⟩
      | false =>
        have hpl : p < 8 * s.size := Classical.byContradiction fun hc => by have := HX.out.2 hc; cases this
        obtain ⟨b1, b2, b3⟩ := HX.out.1 hpl
        subst b2
        have HB : Hid (bad = false) := b3.symm
        obtain ⟨B, HBB⟩ : ∃ B, Hid (2 * vv + x = B) := ⟨_, rfl⟩
        have hBb : B < 131072 := by have := HBB.out; omega
        have hBz : (2 : Int) * (vv : Int) + (x : Int) = (B : Int) := by have := HBB.out; omega
        have HG : Hid (2 * nx lens N ≤ B ∧ B < 2 ^ M ∧ (match (symsOf lens M)[B - 2 * nx lens N]? with
            | some y => some (y, p + 1)
            | none => symG lens s (15 - M) M B (p + 1)) = R) := by
          obtain ⟨_, i2, i3, h4⟩ := HI.out
          rw [show 15 - N = (15 - M) + 1 by have := HM.out; omega, symG, if_pos hpl, ← b1, HBB.out, HM.out] at h4
          refine ⟨by have := HBB.out; omega, ?_, h4⟩
          rw [← HM.out, Nat.pow_succ]; have := HBB.out; omega
        have HLk : Hid (look M B L = (symsOf lens M)[B - 2 * nx lens N]?) := by
          rw [← HL.out, ← HM.out]
          exact look_codesN lens N B HG.out.1 15 (by have := HM.out; omega)
        clear HX b1 b3 HI
        go_wp2
        go_loopw [8] (fun i wr => ∃ k : Nat, k ≤ T ∧ i = .int .i64 (k : Int) ∧ wr = w2 ∧ Hid (look M B L = look M B (L.drop k))) (fun i _ => T - (intOf i).toNat)
        case atStart => exact ⟨0, by omega, rfl, rfl, rfl⟩
        case round =>
          obtain ⟨k, hk, rfl, rfl, HD⟩ := hrel
          by_cases hlt2 : k < T
          · have hlt2' : (k : Int) < (T : Int) := by omega
            obtain ⟨ca, cb, cc, Hc⟩ : ∃ ca cb cc, Hid (L[k]? = some (ca, cb, cc)) := by
              obtain ⟨c, hc⟩ : ∃ c, L[k]? = some c := ⟨L[k]'(by have := HT.out; omega), List.getElem?_eq_getElem _⟩
              exact ⟨c.1, c.2.1, c.2.2, hc⟩
            obtain ⟨g, hao, hag, q0, q1, q2⟩ := HC.out k _ Hc.out
            obtain ⟨_, e1⟩ := hK2.apart hag
            have c0 : wr.cell? ⟨g, k * 3, none⟩ = some (.int .i64 (ca : Int)) := by rw [World.cell?_of_block (a := ⟨g, k * 3, none⟩) (w := w) e1, Nat.mul_comm]; exact q0
            have c1 : wr.cell? ⟨g, k * 3 + 1, none⟩ = some (.int .i64 (cb : Int)) := by rw [World.cell?_of_block (a := ⟨g, k * 3 + 1, none⟩) (w := w) e1, Nat.mul_comm]; exact q1
            have c3 : wr.cell? ⟨g, k * 3 + 2, none⟩ = some (.int .i64 (cc : Int)) := by rw [World.cell?_of_block (a := ⟨g, k * 3 + 2, none⟩) (w := w) e1, Nat.mul_comm]; exact q2
            have HDk := look_drop M B L k _ Hc.out
            have HD2 : Hid (look M B L = if ca = M ∧ cb = B then some cc else look M B (L.drop (k + 1))) := by rw [HD.out]; exact HDk
            subst hao
            clear HDk HD q0 q1 q2 e1 hag
            by_cases hcM : ca = M
            · have heq1 : ((ca : Int) == (M : Int)) = true := by simp; omega
              by_cases hcB : cb = B
              · have heq2 : ((cb : Int) == (B : Int)) = true := by simp; omega
                have HF : Hid (cc < lens.length ∧ R = some (cc, p + 1)) := by
                  have h1 := HD2.out
                  rw [if_pos ⟨hcM, hcB⟩, HLk.out] at h1
                  have h2 := HG.out.2.2
                  rw [h1] at h2
                  exact ⟨syms_lt (List.mem_of_getElem? h1), h2.symm⟩
                clear hcM hcB
                go_wp2
                exact bodyPost_ret (results_tmp rfl _ _ _) rfl ⟨(cc : Int), p + 1, false, rfl, hp2, HM2.out, hK2, .inl ⟨cc, rfl, HF.out.1, HB.out, rfl, HF.out.2⟩⟩
              · have heq2 : ((cb : Int) == (B : Int)) = false := by rw [beq_eq_false_iff_ne]; omega
                have HD3 : Hid (look M B L = look M B (L.drop (k + 1))) := by rw [HD2.out, if_neg (fun hc => hcB hc.2)]; rfl
                clear hcM hcB HD2
                go_wp2
                go_roundw
                case rel => exact ⟨k + 1, by omega, by go_num, by first | rfl | trivial, HD3⟩
                case measure => simp [intOf]; omega
            · have heq1 : ((ca : Int) == (M : Int)) = false := by rw [beq_eq_false_iff_ne]; omega
              have HD3 : Hid (look M B L = look M B (L.drop (k + 1))) := by rw [HD2.out, if_neg (fun hc => hcM hc.1)]; rfl
              clear hcM HD2
              go_wp2
              go_roundw
              case rel => exact ⟨k + 1, by omega, by go_num, by first | rfl | trivial, HD3⟩
              case measure => simp [intOf]; omega
          · have hlt2' : ¬ (k : Int) < (T : Int) := by omega
            have HI2 : Hid (p + 1 ≤ 8 * s.size ∧ B < 2 ^ M ∧ nx lens M ≤ B ∧ symG lens s (15 - M) M B (p + 1) = R) := by
              have h1 := HD.out
              rw [List.drop_of_length_le (by have := HT.out; omega), HLk.out] at h1
              have h2 := HG.out.2.2
              have h1' : (symsOf lens M)[B - 2 * nx lens N]? = none := h1
              rw [h1'] at h2
              refine ⟨hp2, HG.out.2.1, ?_, h2⟩
              have h3 := List.getElem?_eq_none_iff.1 h1'
              have h4 := HG.out.1
              rw [← HM.out, nx, HM.out]
              unfold cnt
              omega
            have HMM : Hid (TA tb base s (p + 1) out most bad wr) := by rw [HB.out]; exact HM2.out
            clear HD hk hlt2
            go_wp2
            go_roundw
            case rel => exact ⟨M, B, p + 1, hlt, by go_num, rfl, HMM.out, hK2, HI2⟩
            case measure => simp [intOf]; omega
    · have hlt' : ¬ (M : Int) ≤ 15 := by omega
      have HN : Hid (R = none) := by
        obtain ⟨_, _, _, h4⟩ := HI.out
        rw [show 15 - N = 0 by have := HM.out; omega] at h4
        exact h4.symm
      have HMM : Hid (TA tb base s p out most bad wr) := hM
      have hp1 := HI.out.1
      clear hM
      go_wp2
      exact bodyPost_ret (results_tmp rfl _ _ _) rfl ⟨-1, p, bad, rfl, hp1, HMM.out, hK, .inr ⟨rfl, fun _ => HN.out⟩⟩
end
end Go.Proofs.YtjilhneefbakhaaDoor.Inf
