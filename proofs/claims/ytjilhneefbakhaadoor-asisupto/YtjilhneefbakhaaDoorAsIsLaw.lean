/- satchelkeep.AsIs answers true. -/
import Derived.Test.YtjilhneefbakhaaDoorAsIsSat
namespace Go.Proofs.YtjilhneefbakhaaDoor.Inf
open Go.RowKit Go.Proofs.YtjilhneefbakhaaDoor.Sha Go.Proofs.YtjilhneefbakhaaDoor.Keep

theorem mem_len {p : List UInt8} : ∀ {L : List (List UInt8)}, p ∈ L → p.length ≤ L.flatten.length
  | [], h => by cases h
  | q :: L, h => by
    rcases List.mem_cons.1 h with rfl | h
    · simp
    · have := mem_len h; simp at this ⊢; omega
theorem asIsL_len : ∀ ps : List (List UInt8), (asIsL ps).length = 5 * ps.length + ps.flatten.length + 5
  | [] => by simp [asIsL, lowL_len]
  | p :: ps => by
    have := asIsL_len ps
    have hall : asIsL (p :: ps) = blockL p ++ asIsL ps := by simp [asIsL]
    rw [hall, List.length_append, this]
    simp [blockL, lowL_len]; omega
theorem arr_list (t : ByteArray) (l : List UInt8) (h : l = t.data.toList) : (⟨l.toArray⟩ : ByteArray) = t := by subst h; rfl
set_option maxRecDepth 100000 in
set_option maxHeartbeats 4000000 in
theorem asIs_law (s : ByteArray) (ra : Option Addr) (n cap : Nat) (ad : Nat → Addr) (w : World) (hS : Sent ad w) (hD : DefW w) (hg : 33 ≤ w.heap.size) (hs : s.size ≤ 140737488355328) (hn : n ≤ 1048579) (HR : Hid (RawAt w ra n)) :
    Calls Tryd.prog 4 #[.string s, .slice ra n cap] w fun e w' => e = .returned (.bool true) ∧ Below w.heap.size w w' := by
  go_enter Tryd.func4, Tryd.ntmps4
  go_wp2_with fail
  refine (upTo_walk s 8000 w).mono ?_
  rintro e w0 ⟨he, rfl⟩
  obtain ⟨t, HT⟩ : ∃ t, Hid (s.extract 0 (min 8000 s.size) = t) := ⟨_, rfl⟩
  rw [HT.out] at he
  subst he
  have ht : t.size ≤ 8000 := by rw [← HT.out, ByteArray.size_extract]; omega
  clear HT
  go_wp2_with fail
  refine (cut_walk t ra n cap _ (by omega) (by omega) HR).mono ?_
  rintro e w1 ⟨v, L, rfl, ho, HL, hB1⟩
  obtain ⟨g, cp, hv⟩ := Own.form ho (by intro hc; have h1 := congrArg List.length hc; rw [List.length_map, List.length_nil] at h1; have h2 := HL.out.2.2; omega)
  rw [List.length_map] at hv
  subst hv
  obtain ⟨ps, HPs⟩ : ∃ ps, Hid (L.map (·.data.toList) = ps) := ⟨_, rfl⟩
  have HF : Hid (ps.flatten = t.data.toList ∧ ps.length ≤ n + 1) := by
    rw [← HPs.out]; exact ⟨HL.out.1, by rw [List.length_map]; exact HL.out.2.1⟩
  have hfl : ps.flatten.length = t.size := by rw [HF.out.1]; simp
  have HLs : Hid (L.length ≤ 1048580 ∧ ∀ p ∈ L, p.size ≤ 8000) := by
    refine ⟨by have := HL.out.2.1; omega, fun p hp => ?_⟩
    have h1 : p.data.toList ∈ ps := by rw [← HPs.out]; exact List.mem_map_of_mem hp
    have h2 := mem_len h1
    have h3 : p.data.toList.length = p.size := by simp
    omega
  have Hp : Hid (∀ p ∈ ps, p.length ≤ 65535) := fun p hp => by have := mem_len hp; omega
  go_wp2_with fail
  refine (asIs_walk L g cp _ w1 ho HLs).mono ?_
  rintro e w2 ⟨he, hB2⟩
  rw [HPs.out] at he
  obtain ⟨q, HQ⟩ : ∃ q, Hid (asIsL ps = q) := ⟨_, rfl⟩
  rw [HQ.out] at he
  subst he
  have hql : q.length ≤ 6000000 := by rw [← HQ.out, asIsL_len]; have := HF.out.2; omega
  have B2 := hB1.trans (hB2.mono hB1.size)
  have hS2 := hS.below B2
  have hD2 := hD.below B2
  have hg2 : 33 ≤ w2.heap.size := Nat.le_trans hg B2.size
  clear hB1 hB2 ho HLs HL HPs HR
  go_wp2_with fail
  refine (sat_asIs ps [] ⟨q.toArray⟩ t.size ad w2 hS2 hD2 hg2 (by show q.toArray.size ≤ _; simp; omega) ht (by simp [HQ.out]) Hp.out).mono ?_
  rintro e w3 ⟨hB3, he, _⟩
  have he := he rfl (by omega)
  rw [arr_list t _ HF.out.1] at he
  subst he
  have B3 := B2.trans (hB3.mono B2.size)
  have hS3 := hS.below B3
  have hD3 := hD.below B3
  have hg3 : 33 ≤ w3.heap.size := Nat.le_trans hg B3.size
  clear hB3 B2 hS2 hD2 hg2
  have a1 := add_list q ⟨#[120]⟩ [120] rfl (by rw [List.length_cons, List.length_nil]; omega)
  obtain ⟨q2, HQ2⟩ : ∃ q2 : List UInt8, Hid (q ++ [120] = q2) := ⟨q ++ [120], (rfl : q ++ [120] = q ++ [120])⟩
  rw [HQ2.out] at a1
  have hq2 : q2.length = q.length + 1 := by rw [← HQ2.out]; simp
  go_wp2_with fail
  refine (sat_asIs ps [120] ⟨q2.toArray⟩ t.size ad w3 hS3 hD3 hg3 (by show q2.toArray.size ≤ _; simp; omega) ht (by simp [HQ.out, HQ2.out]) Hp.out).mono ?_
  rintro e w4 ⟨hB4, _, he⟩
  have he := he (.inl (by simp))
  subst he
  have B4 := B3.trans (hB4.mono B3.size)
  have hS4 := hS.below B4
  have hD4 := hD.below B4
  have hg4 : 33 ≤ w4.heap.size := Nat.le_trans hg B4.size
  clear hB4 B3 hS3 hD3 hg3
  by_cases h0 : t.size = 0
  · have h0' : ((t.size : Int) == 0) = true := by simp [h0]
    go_wp2
    go_ret
    exact ⟨rfl, B4⟩
  · have h0' : ((t.size : Int) == 0) = false := by rw [beq_eq_false_iff_ne]; omega
    have hsub : ((t.size : Int) - 1) = ((t.size - 1 : Nat) : Int) := by omega
    go_wp2_with fail
    refine (sat_asIs ps [] ⟨q.toArray⟩ (t.size - 1) ad w4 hS4 hD4 hg4 (by show q.toArray.size ≤ _; simp; omega) (by omega) (by simp [HQ.out]) Hp.out).mono ?_
    rintro e w5 ⟨hB5, _, he⟩
    have he := he (.inr (by omega))
    subst he
    have B5 := B4.trans (hB5.mono B4.size)
    go_wp2
    go_ret
    exact ⟨rfl, B5⟩
end Go.Proofs.YtjilhneefbakhaaDoor.Inf
