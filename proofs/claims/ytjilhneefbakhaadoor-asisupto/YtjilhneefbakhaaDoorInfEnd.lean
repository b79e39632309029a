/- The machine looks at what is behind the last block. -/
import Derived.Test.YtjilhneefbakhaaDoorInfStored
namespace Go.Proofs.YtjilhneefbakhaaDoor.Inf
open Go.RowKit Go.Proofs.YtjilhneefbakhaaDoor.Sha

/-- Nothing is behind the last block: no bit but 0, no byte. -/
def endP (s : ByteArray) (pos : Nat) : Prop := (pos % 8 = 0 ∨ (s.data.toList.getD (pos / 8) 0).toNat / 2 ^ (pos % 8) = 0) ∧ (pos + 7) / 8 = s.size
section
variable {mb base : Nat} {s : ByteArray} {a b pos : Nat} {out : List UInt8} {most : Nat} {bad : Bool} {w : World}
set_option maxRecDepth 100000 in
set_option maxHeartbeats 2000000 in
theorem end_walk (h : MW mb base s pos out most false w) (hs : s.size ≤ 140737488355328) (hp : pos ≤ 8 * s.size) (hD : DefW w) (hg : 33 ≤ mb) :
    Calls Tryd.prog 34 #[.pointer (some ⟨mb, 0, none⟩)] w fun e w' => e = .returned (.tuple #[]) ∧ ∃ a b bd, MA mb base s a b out most bd w' ∧ Kept mb base w w' ∧ (bd = false ↔ endP s pos) := by
  have hlb : mb < base := MA.lt h
  have h : MA mb base s (pos / 8) (pos % 8) out most false w := h
  obtain ⟨A, HA⟩ : ∃ A, Hid (pos / 8 = A) := ⟨_, rfl⟩
  obtain ⟨B, HB⟩ : ∃ B, Hid (pos % 8 = B) := ⟨_, rfl⟩
  rw [HA.out, HB.out] at h
  have hB8 : B < 8 := by rw [← HB.out]; omega
  have c0 := h.c0
  have c1 := h.c1
  have c2 := h.c2
  obtain ⟨xe, hxe⟩ := hD.behind
  have HH : Hid (MA mb base s A B out most false w) := h
  clear h
  by_cases hb0 : B = 0
  · have hb1 : ¬ (0 : Int) < (B : Int) := by omega
    have HB0 : Hid (pos % 8 = 0) := by show _ = _; rw [HB.out]; exact hb0
    clear hb0
    by_cases hlt : A < s.size
    · have hlt' : (A : Int) < (s.size : Int) := by omega
      have HN : Hid (¬ endP s pos) := by
        rintro ⟨_, h2⟩
        have h0 := HB0.out; have h1 := HA.out
        omega
      go_enter Tryd.func34, Tryd.ntmps34
      go_wp2_with fail
      go_quiet (fail)
      have h1 := HH.out.drew nq
      have k1 : Kept mb base w (w.drewN nq) := Kept.drew nq
      have hx1 : (w.drewN nq).cell? ⟨27, 0, none⟩ = some (.iface 131 xe) := hxe
      clear c0 c1 c2 hxe
      generalize w.drewN nq = w1 at *
      go_wp2_with fail
      refine (fail_walk xe h1).mono ?_
      rintro e w2 ⟨rfl, h2, k2⟩
      have HK := k1.trans k2
      clear h1 k1 k2 hx1
      go_wp2
      go_end0
      exact ⟨rfl, A, B, true, h2, HK, (by intro hc; cases hc), fun he => absurd he HN.out⟩
    · have hlt' : ¬ (A : Int) < (s.size : Int) := by omega
      have HN : Hid (endP s pos) := by
        have h0 := HB0.out; have h1 := HA.out
        exact ⟨.inl h0, by omega⟩
      go_enter Tryd.func34, Tryd.ntmps34
      go_wp2_with fail
      go_quiet (fail)
      have h1 := HH.out.drew nq
      have k1 : Kept mb base w (w.drewN nq) := Kept.drew nq
      clear c0 c1 c2 hxe
      generalize w.drewN nq = w1 at *
      go_wp2
      go_end0
      exact ⟨rfl, A, B, false, h1, k1, fun _ => HN.out, fun _ => rfl⟩
  · have hb1 : (0 : Int) < (B : Int) := by omega
    have hAs : A < s.size := by have h1 := HA.out; have h2 := HB.out; omega
    have hAi : (A : Int) < (s.size : Int) := by omega
    have hBi : (B : Int) ≤ 8 := by omega
    have eg : s.data.toList.getD A 0 = s[A] := by simp [ByteArray.getElem_eq_getElem_data, hAs]
    obtain ⟨Z, HZ⟩ : ∃ Z, Hid (s[A].toNat / 2 ^ B = Z) := ⟨s[A].toNat / 2 ^ B, rfl⟩
    have hZ : (s[A].toNat : Int) / 2 ^ B = (Z : Int) := by rw [← HZ.out]; simp
    have HEq : Hid (endP s pos ↔ Z = 0 ∧ A + 1 = s.size) := by
      have h1 := HA.out; have h2 := HB.out
      show _ ↔ _
      rw [endP, HA.out, HB.out, eg, HZ.out]
      constructor
      · rintro ⟨h3 | h3, h4⟩
        · omega
        · exact ⟨h3, by omega⟩
      · rintro ⟨h3, h4⟩
        exact ⟨.inr h3, by omega⟩
    clear eg
    by_cases hz0 : Z = 0
    · have hne : ((Z : Int) != 0) = false := by simp; omega
      go_enter Tryd.func34, Tryd.ntmps34
      go_wp2_with fail
      go_quiet (fail)
      have h1 := HH.out.drew nq
      have k1 : Kept mb base w (w.drewN nq) := Kept.drew nq
      have hx1 : (w.drewN nq).cell? ⟨27, 0, none⟩ = some (.iface 131 xe) := hxe
      clear c0 c1 c2 hxe
      generalize w.drewN nq = w1 at *
      go_wp2_with fail
      refine (toNextByte_walk h1 (by omega)).mono ?_
      rintro e w2 ⟨rfl, h2, k2⟩
      have hx2 : w2.cell? ⟨27, 0, none⟩ = some (.iface 131 xe) := by rw [k2.glob hg hlb _ (by decide)]; exact hx1
      have K2 := k1.trans k2
      have c0 := h2.c0
      have c1 := h2.c1
      have HH2 : Hid (MA mb base s (A + 1) 0 out most false w2) := h2
      clear h1 h2 hx1 k1 k2
      by_cases hlt : A + 1 < s.size
      · have hlt' : ((A + 1 : Nat) : Int) < (s.size : Int) := by omega
        have hlt2 : (A : Int) + 1 < (s.size : Int) := by omega
        go_wp2_with fail
        go_quiet (fail)
        have h3 := HH2.out.drew nq
        have K3 : Kept mb base w (w2.drewN nq) := K2.trans (Kept.drew nq)
        have hx3 : (w2.drewN nq).cell? ⟨27, 0, none⟩ = some (.iface 131 xe) := hx2
        clear c0 c1 hx2 K2
        generalize w2.drewN nq = w3 at *
        go_wp2_with fail
        refine (fail_walk xe h3).mono ?_
        rintro e w4 ⟨rfl, h4, k4⟩
        have K4 := K3.trans k4
        clear h3 hx3 K3 k4
        go_wp2
        go_end0
        exact ⟨rfl, A + 1, 0, true, h4, K4, (by intro hc; cases hc), fun he => by have := (HEq.out.1 he).2; omega⟩
      · have hlt2 : ¬ (A : Int) + 1 < (s.size : Int) := by omega
        go_wp2_with fail
        go_quiet (fail)
        have h3 := HH2.out.drew nq
        have K3 : Kept mb base w (w2.drewN nq) := K2.trans (Kept.drew nq)
        clear c0 c1 hx2 K2
        generalize w2.drewN nq = w3 at *
        go_wp2
        go_end0
        exact ⟨rfl, A + 1, 0, false, h3, K3, fun _ => HEq.out.2 ⟨hz0, by omega⟩, fun _ => rfl⟩
    · have hne : ((Z : Int) != 0) = true := by simp; omega
      have HNo : Hid (¬ endP s pos) := fun he => hz0 (HEq.out.1 he).1
      go_enter Tryd.func34, Tryd.ntmps34
      go_wp2_with fail
      go_quiet (fail)
      have h1 := HH.out.drew nq
      have k1 : Kept mb base w (w.drewN nq) := Kept.drew nq
      have hx1 : (w.drewN nq).cell? ⟨27, 0, none⟩ = some (.iface 131 xe) := hxe
      clear c0 c1 c2 hxe
      generalize w.drewN nq = w1 at *
      go_wp2_with fail
      refine (fail_walk xe h1).mono ?_
      rintro e w5 ⟨rfl, h5, k5⟩
      have hx5 : w5.cell? ⟨27, 0, none⟩ = some (.iface 131 xe) := by rw [k5.glob hg hlb _ (by decide)]; exact hx1
      have k15 := k1.trans k5
      clear h1 hx1 k1 k5
      go_wp2_with fail
      refine (toNextByte_walk h5 (by omega)).mono ?_
      rintro e w2 ⟨rfl, h2, k2⟩
      have hx2 : w2.cell? ⟨27, 0, none⟩ = some (.iface 131 xe) := by rw [k2.glob hg hlb _ (by decide)]; exact hx5
      have K2 := k15.trans k2
      have c0 := h2.c0
      have c1 := h2.c1
      have HH2 : Hid (MA mb base s (A + 1) 0 out most true w2) := h2
      clear h5 h2 hx5 k15 k2
      by_cases hlt : A + 1 < s.size
      · have hlt2 : (A : Int) + 1 < (s.size : Int) := by omega
        go_wp2_with fail
        go_quiet (fail)
        have h3 := HH2.out.drew nq
        have K3 : Kept mb base w (w2.drewN nq) := K2.trans (Kept.drew nq)
        have hx3 : (w2.drewN nq).cell? ⟨27, 0, none⟩ = some (.iface 131 xe) := hx2
        clear c0 c1 hx2 K2
        generalize w2.drewN nq = w3 at *
        go_wp2_with fail
        refine (fail_walk xe h3).mono ?_
        rintro e w4 ⟨rfl, h4, k4⟩
        have K4 := K3.trans k4
        clear h3 hx3 K3 k4
        go_wp2
        go_end0
        exact ⟨rfl, A + 1, 0, true, h4, K4, (by intro hc; cases hc), fun he => absurd he HNo.out⟩
      · have hlt2 : ¬ (A : Int) + 1 < (s.size : Int) := by omega
        go_wp2_with fail
        go_quiet (fail)
        have h3 := HH2.out.drew nq
        have K3 : Kept mb base w (w2.drewN nq) := K2.trans (Kept.drew nq)
        clear c0 c1 hx2 K2
        generalize w2.drewN nq = w3 at *
        go_wp2
        go_end0
        exact ⟨rfl, A + 1, 0, true, h3, K3, (by intro hc; cases hc), fun he => absurd he HNo.out⟩
end
end Go.Proofs.YtjilhneefbakhaaDoor.Inf
