/- satchel.Inflate at a text of blocks that are not packed. -/
import Derived.Test.YtjilhneefbakhaaDoorAsIsMath
namespace Go.Proofs.YtjilhneefbakhaaDoor.Inf
open Go.RowKit Go.Proofs.YtjilhneefbakhaaDoor.Sha Go.Proofs.YtjilhneefbakhaaDoor.Keep

set_option maxRecDepth 100000 in
set_option maxHeartbeats 4000000 in
theorem sat_stored (b : Nat) (R : Option (Nat × List UInt8)) (s : ByteArray) (most : Nat) (ad : Nat → Addr) (w : World) (hS : Sent ad w) (hD : DefW w) (hg : 33 ≤ w.heap.size) (hs : s.size ≤ 140737488355328) (hm2 : most ≤ 8000) (HRun : Hid (Run s most (b + 1) 0 [] R)) :
    Calls Tryd.prog 5 #[.string s, .int .i64 (most : Int)] w fun e w' => Below w.heap.size w w' ∧ ((∃ p o, Hid (R = some (p, o) ∧ endP s p) ∧ e = .returned (.tuple #[.string ⟨o.toArray⟩, .int .i64 0])) ∨ (Hid (∀ p o, R = some (p, o) → ¬ endP s p) ∧ e = .returned (.tuple #[.string ⟨#[]⟩, .int .i64 6]))) := by
  go_enter Tryd.func5, Tryd.ntmps5
  go_wp2_with fail
  refine (inflate_stored b R s most ad w hS hD hg hs hm2 HRun).mono ?_
  rintro e w1 ⟨hB, ⟨p, o, HR, rfl⟩ | ⟨HR, k, rfl, hk⟩⟩
  · clear HRun hD hS
    go_wp2_with fail
    refine (number_nil _).mono ?_
    rintro e w2 ⟨rfl, rfl⟩
    go_wp2
    go_ret2
    exact ⟨hB, .inl ⟨p, o, HR, rfl⟩⟩
  · have hS1 := hS.below hB
    clear HRun hD hS
    go_wp2_with fail
    refine (number_deflate k ad _ hS1 hk).mono ?_
    rintro e w2 ⟨rfl, hB2⟩
    have HB := hB.trans (hB2.mono hB.size)
    clear hB hB2
    go_wp2
    go_ret2
    exact ⟨HB, .inr ⟨HR, rfl⟩⟩
/-- A text of such blocks, and what is behind it. -/
theorem sat_asIs (ps : List (List UInt8)) (tail : List UInt8) (s : ByteArray) (most : Nat) (ad : Nat → Addr) (w : World) (hS : Sent ad w) (hD : DefW w) (hg : 33 ≤ w.heap.size) (hs : s.size ≤ 140737488355328) (hm2 : most ≤ 8000)
    (he : s.data.toList = asIsL ps ++ tail) (hp : ∀ p ∈ ps, p.length ≤ 65535) :
    Calls Tryd.prog 5 #[.string s, .int .i64 (most : Int)] w fun e w' => Below w.heap.size w w' ∧ (tail = [] → ps.flatten.length ≤ most → e = .returned (.tuple #[.string ⟨ps.flatten.toArray⟩, .int .i64 0])) ∧ (tail ≠ [] ∨ most < ps.flatten.length → e = .returned (.tuple #[.string ⟨#[]⟩, .int .i64 6])) := by
  have hR := run_asIs s most tail ps 0 [] (by rw [List.drop_zero]; exact he) hp (by simp)
  have hl : s.data.toList.length = s.size := by simp
  have hlen : s.size = (asIsL ps).length + tail.length := by rw [← hl, he, List.length_append]
  refine (sat_stored ps.length _ s most ad w hS hD hg hs hm2 hR).mono ?_
  rintro e w1 ⟨hB, h⟩
  refine ⟨hB, ?_, ?_⟩
  · intro ht hlt
    have hz : ([] : List UInt8).length + ps.flatten.length ≤ most := by simp at hlt ⊢; exact hlt
    rw [if_pos hz] at h
    rcases h with ⟨p, o, HR, rfl⟩ | ⟨HR, _⟩
    · obtain ⟨e1, _⟩ := HR.out
      injection e1 with e1
      injection e1 with _ e1
      rw [← e1]; rfl
    · exact absurd ((end_asIs s _).2 (by rw [hlen, ht]; simp)) (HR.out _ _ rfl)
  · intro hor
    rcases h with ⟨p, o, HR, rfl⟩ | ⟨_, h⟩
    · exfalso
      obtain ⟨e1, e2⟩ := HR.out
      split at e1
      · rename_i hz
        injection e1 with e1
        injection e1 with e1 _
        rw [← e1, end_asIs, hlen] at e2
        rcases hor with h | h
        · exact h (List.eq_nil_of_length_eq_zero (by omega))
        · rw [List.length_nil] at hz; omega
      · cases e1
    · exact h
end Go.Proofs.YtjilhneefbakhaaDoor.Inf
