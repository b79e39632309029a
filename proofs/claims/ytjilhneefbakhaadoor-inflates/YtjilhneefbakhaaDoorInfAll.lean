/- deflate.Inflate and satchel.Inflate, of any text and any number. -/
import Derived.Test.YtjilhneefbakhaaDoorRunAll
import Derived.Test.YtjilhneefbakhaaDoorInfLib
namespace Go.Proofs.YtjilhneefbakhaaDoor.Inf
open Go.RowKit Go.Proofs.YtjilhneefbakhaaDoor.Sha

instance (s : ByteArray) (pos : Nat) : Decidable (endP s pos) := inferInstanceAs (Decidable (_ ∧ _))
/-- What a text gives: the bytes, and the error's number. -/
def inflP (s : ByteArray) (m : Int) : List UInt8 × Int :=
  if m < 0 ∨ 8000 < m then ([], 1) else match runP s m.toNat 0 [] with
    | some (p, o) => if endP s p then (o, 0) else ([], 6)
    | none => ([], 6)
theorem Tabs.of_kept {w w' : World} (h : Tabs w) (hb : Below w.heap.size w w') : Tabs w' := h.below hb
set_option maxRecDepth 100000 in
set_option maxHeartbeats 4000000 in
theorem inflate_good (FN FD : List Nat) (HFN : Hid (FN = fixN)) (HFD : Hid (FD = fixD)) (s : ByteArray) (most : Nat) (ad : Nat → Addr) (w : World) (hS : Sent ad w) (hD : DefW w) (hT : Tabs w) (hg : 33 ≤ w.heap.size) (hs : s.size ≤ 140737488355328) (hm2 : most ≤ 8000) :
    Calls Tryd.prog 11 #[.string s, .int .i64 (most : Int)] w fun e w' => Below w.heap.size w w' ∧ ((∃ p o, Hid (runP s most 0 [] = some (p, o) ∧ endP s p) ∧ e = .returned (.tuple #[.string ⟨o.toArray⟩, .nilIface])) ∨ (Hid (∀ p o, runP s most 0 [] = some (p, o) → ¬ endP s p) ∧ ∃ k, e = .returned (.tuple #[.string ⟨#[]⟩, .iface 55 (.pointer (some ⟨k, 0, none⟩))]) ∧ w'.cell? ⟨k, 0, none⟩ = some (.iface 131 (.pointer (some (ad 5)))))) := by
  have h0 : ¬ (most : Int) < 0 := by omega
  have h1 : ¬ (8000 : Int) < (most : Int) := by omega
  obtain ⟨R, HR⟩ : ∃ R, Hid (runP s most 0 [] = R) := ⟨_, rfl⟩
  rw [HR.out]
  go_enter Tryd.func11, Tryd.ntmps11
  go_wp2_with fail
  refine (runAll_walk FN FD HFN HFD (fresh_machine w s most _) hs (by omega) (by simp) hm2 (hD.below (below_one _ _)) (hT.below (below_one _ _)) hg).mono ?_
  rintro e w1 ⟨rfl, a1, b1, o, bd, hM, hK, hR1, hR2⟩
  have HR2 : Hid ((R = none → bd = true) ∧ ∀ p o', R = some (p, o') → o = o' ∧ (bd = false ↔ endP s p)) := by rw [← HR.out]; exact ⟨hR1, hR2⟩
  clear hR1 hR2
  have hB := below_of_kept hK
  have hS1 := hS.below hB
  have hc3 := hS1.c5
  obtain ⟨ev, c5, he⟩ := hM.c5
  cases bd with
  | true =>
    obtain ⟨x, rfl⟩ := he
    have HN : Hid (∀ p o, R = some (p, o) → ¬ endP s p) := fun p o h he => by
      have := ((HR2.out.2 p o h).2).2 he; cases this
    clear hM hK hD
    go_wp2_with fail
    refine (faultOf_any _ _ _).mono ?_
    rintro e w2 ⟨rfl, hB2, hc⟩
    have HB := hB.trans (hB2.mono hB.size)
    clear hB hB2
    go_wp2
    go_ret2
    exact ⟨HB, .inr ⟨HN, _, rfl, hc⟩⟩
  | false =>
    cases he
    obtain ⟨v, c3, ho⟩ := hM.c3
    obtain ⟨p, HP⟩ : ∃ p, Hid (R = some (p, o) ∧ endP s p) := by
      rcases hR : R with _ | ⟨p, o'⟩
      · have := HR2.out.1 hR; cases this
      · obtain ⟨e1, e2⟩ := HR2.out.2 p o' hR
        exact ⟨p, by rw [e1], e2.1 rfl⟩
    have hcv := own_string ho
    clear hK hD
    go_wp2
    go_ret2
    exact ⟨hB, .inl ⟨p, o, HP, rfl⟩⟩
set_option maxRecDepth 100000 in
set_option maxHeartbeats 4000000 in
theorem inflate_arg (s : ByteArray) (m : Int) (ad : Nat → Addr) (w : World) (hS : Sent ad w) (hE : ∃ x, w.cell? ⟨1, 0, none⟩ = some (.iface 131 x)) (hm : m < 0 ∨ 8000 < m) :
    Calls Tryd.prog 11 #[.string s, .int .i64 m] w fun e w' => Below w.heap.size w w' ∧ ∃ k, e = .returned (.tuple #[.string ⟨#[]⟩, .iface 55 (.pointer (some ⟨k, 0, none⟩))]) ∧ w'.cell? ⟨k, 0, none⟩ = some (.iface 131 (.pointer (some (ad 0)))) := by
  obtain ⟨x, hx⟩ := hE
  have hc0 := hS.c0
  by_cases h0 : m < 0
  · clear hm
    go_enter Tryd.func11, Tryd.ntmps11
    go_wp2_with fail
    refine (faultOf_any _ _ _).mono ?_
    rintro e w2 ⟨rfl, hB2, hc⟩
    go_wp2
    go_ret2
    exact ⟨hB2, _, rfl, hc⟩
  · have h1 : (8000 : Int) < m := by omega
    clear hm
    go_enter Tryd.func11, Tryd.ntmps11
    go_wp2_with fail
    refine (faultOf_any _ _ _).mono ?_
    rintro e w2 ⟨rfl, hB2, hc⟩
    go_wp2
    go_ret2
    exact ⟨hB2, _, rfl, hc⟩
set_option maxRecDepth 100000 in
set_option maxHeartbeats 4000000 in
theorem sat_inflate (s : ByteArray) (m : Int) (ad : Nat → Addr) (w : World) (hS : Sent ad w) (hD : DefW w) (hT : Tabs w) (hE : ∃ x, w.cell? ⟨1, 0, none⟩ = some (.iface 131 x)) (hg : 33 ≤ w.heap.size) (hs : s.size ≤ 140737488355328) (R : List UInt8 × Int) (HR : Hid (inflP s m = R)) :
    Calls Tryd.prog 5 #[.string s, .int .i64 m] w fun e w' => Below w.heap.size w w' ∧ e = .returned (.tuple #[.string ⟨R.1.toArray⟩, .int .i64 R.2]) := by
  by_cases hm : m < 0 ∨ 8000 < m
  · have HR1 : Hid (R = ([], 1)) := by rw [← HR.out]; unfold inflP; exact if_pos hm
    clear HR
    go_enter Tryd.func5, Tryd.ntmps5
    go_wp2_with fail
    refine (inflate_arg s m ad w hS hE hm).mono ?_
    rintro e w1 ⟨hB, k, rfl, hk⟩
    have hS1 := hS.below hB
    clear hD hS hE hT hm
    go_wp2_with fail
    refine (number_arg k ad _ hS1 hk).mono ?_
    rintro e w2 ⟨rfl, hB2⟩
    have HB := hB.trans (hB2.mono hB.size)
    clear hB hB2
    go_wp2
    go_ret2
    exact ⟨HB, by rw [HR1.out]; rfl⟩
  · obtain ⟨most, rfl⟩ : ∃ most : Nat, m = (most : Int) := ⟨m.toNat, by omega⟩
    have hm2 : most ≤ 8000 := by omega
    have HR1 : Hid (R = match runP s most 0 [] with
        | some (p, o) => if endP s p then (o, 0) else ([], 6)
        | none => ([], 6)) := by
      rw [← HR.out]
      unfold inflP
      rw [if_neg hm]
      rfl
    clear HR hm
    go_enter Tryd.func5, Tryd.ntmps5
    go_wp2_with fail
    refine (inflate_good _ _ (rfl : fixN = fixN) (rfl : fixD = fixD) s most ad w hS hD hT hg hs hm2).mono ?_
    rintro e w1 ⟨hB, ⟨p, o, HP, rfl⟩ | ⟨HP, k, rfl, hk⟩⟩
    · have HR2 : Hid (R = (o, 0)) := by
        rw [HR1.out, HP.out.1]
        exact if_pos HP.out.2
      clear hD hS hE hT HP HR1
      go_wp2_with fail
      refine (number_nil _).mono ?_
      rintro e w2 ⟨rfl, rfl⟩
      go_wp2
      go_ret2
      exact ⟨hB, by rw [HR2.out]; rfl⟩
    · have HR2 : Hid (R = ([], 6)) := by
        rw [HR1.out]
        cases hr : runP s most 0 [] with
        | none => rfl
        | some r => exact if_neg (HP.out r.1 r.2 hr)
      have hS1 := hS.below hB
      clear hD hS hE hT HP HR1
      go_wp2_with fail
      refine (number_deflate k ad _ hS1 hk).mono ?_
      rintro e w2 ⟨rfl, hB2⟩
      have HB := hB.trans (hB2.mono hB.size)
      clear hB hB2
      go_wp2
      go_ret2
      exact ⟨HB, by rw [HR2.out]; rfl⟩
end Go.Proofs.YtjilhneefbakhaaDoor.Inf
