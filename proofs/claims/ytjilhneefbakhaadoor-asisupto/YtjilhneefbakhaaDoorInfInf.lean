/- deflate.Inflate at a text whose blocks are not packed. -/
import Derived.Test.YtjilhneefbakhaaDoorInfRun
import Derived.Test.YtjilhneefbakhaaDoorInfLib
namespace Go.Proofs.YtjilhneefbakhaaDoor.Inf
open Go.RowKit Go.Proofs.YtjilhneefbakhaaDoor.Sha

set_option maxRecDepth 100000 in
set_option maxHeartbeats 4000000 in
theorem inflate_stored (b : Nat) (R : Option (Nat × List UInt8)) (s : ByteArray) (most : Nat) (ad : Nat → Addr) (w : World) (hS : Sent ad w) (hD : DefW w) (hg : 33 ≤ w.heap.size) (hs : s.size ≤ 140737488355328) (hm2 : most ≤ 8000) (HRun : Hid (Run s most (b + 1) 0 [] R)) :
    Calls Tryd.prog 11 #[.string s, .int .i64 (most : Int)] w fun e w' => Below w.heap.size w w' ∧ ((∃ p o, Hid (R = some (p, o) ∧ endP s p) ∧ e = .returned (.tuple #[.string ⟨o.toArray⟩, .nilIface])) ∨ (Hid (∀ p o, R = some (p, o) → ¬ endP s p) ∧ ∃ k, e = .returned (.tuple #[.string ⟨#[]⟩, .iface 55 (.pointer (some ⟨k, 0, none⟩))]) ∧ w'.cell? ⟨k, 0, none⟩ = some (.iface 131 (.pointer (some (ad 5)))))) := by
  have h0 : ¬ (most : Int) < 0 := by omega
  have h1 : ¬ (8000 : Int) < (most : Int) := by omega
  go_enter Tryd.func11, Tryd.ntmps11
  go_wp2_with fail
  refine (run_walk b R (fresh_machine w s most _) hs (by omega) (by simp) hm2 (hD.below (below_one _ _)) hg HRun).mono ?_
  rintro e w1 ⟨rfl, a1, b1, o, bd, hM, hK, HR⟩
  have hB := below_of_kept hK
  have hS1 := hS.below hB
  have hc3 := hS1.c5
  obtain ⟨ev, c5, he⟩ := hM.c5
  cases bd with
  | true =>
    obtain ⟨x, rfl⟩ := he
    have HN : Hid (∀ p o, R = some (p, o) → ¬ endP s p) := fun p o h he => by
      have := ((HR.out.2 p o h).2).2 he; cases this
    clear hM hK HRun hD
    go_wp2_with fail
    refine (faultOf_any _ _ _).mono ?_
    rintro e w2 ⟨rfl, hB2, hc⟩
    have HB := hB.trans (hB2.mono hB.size)
    clear hB hB2
    go_wp2
    go_ret2
    exact ⟨HB, .inr ⟨HN, _, rfl, hc⟩⟩
  | false =>
    cases he
    obtain ⟨v, c3, ho⟩ := hM.c3
    obtain ⟨p, HP⟩ : ∃ p, Hid (R = some (p, o) ∧ endP s p) := by
      rcases hR : R with _ | ⟨p, o'⟩
      · have := HR.out.1 hR; cases this
      · obtain ⟨e1, e2⟩ := HR.out.2 p o' hR
        exact ⟨p, by rw [e1], e2.1 rfl⟩
    have hcv := own_string ho
    clear hK HRun hD
    go_wp2
    go_ret2
    exact ⟨hB, .inl ⟨p, o, HP, rfl⟩⟩
end Go.Proofs.YtjilhneefbakhaaDoor.Inf
