/- satchellaw.Inflates answers true. -/
import Derived.Test.YtjilhneefbakhaaDoorRefInf
namespace Go.Proofs.YtjilhneefbakhaaDoor.Inf
open Go.RowKit Go.Proofs.YtjilhneefbakhaaDoor.Sha

theorem num_walk (z : Int) (w : World) (hz : -9223372036854775808 ≤ z ∧ z ≤ 9223372036854775807) : Calls Tryd.prog 7 #[.int .i64 z] w fun e w' => e = .returned (.int .i64 z) ∧ w' = w := by
  have hw : wrap64 z = z := by unfold wrap64; omega
  go_enter Tryd.func7, Tryd.ntmps7
  go_wp2
  go_ret
  exact ⟨rfl, rfl⟩
theorem inflP_small (s : ByteArray) (m : Int) : (inflP s m).2 = 0 ∨ (inflP s m).2 = 1 ∨ (inflP s m).2 = 6 := by
  unfold inflP
  split
  · simp
  · split
    · split <;> simp
    · simp
set_option maxRecDepth 100000 in
set_option maxHeartbeats 4000000 in
theorem inflates_law (s : ByteArray) (m : Int) (ad : Nat → Addr) (w : World) (hS : Sent ad w) (hD : DefW w) (hT : Tabs w) (hE : ∃ x, w.cell? ⟨1, 0, none⟩ = some (.iface 131 x)) (hg : 33 ≤ w.heap.size) (hs : s.size ≤ 140737488355328) :
    Calls Tryd.prog 3 #[.string s, .int .i64 m] w fun e w' => e = .returned (.bool true) ∧ Below w.heap.size w w' := by
  have hsm := inflP_small s m
  obtain ⟨R, HR⟩ : ∃ R, Hid (inflP s m = R) := ⟨_, rfl⟩
  rw [HR.out] at hsm
  obtain ⟨d, Hd⟩ : ∃ d : ByteArray, Hid ((⟨R.1.toArray⟩ : ByteArray) = d) := ⟨_, rfl⟩
  obtain ⟨z, Hz⟩ : ∃ z : Int, Hid (R.2 = z) := ⟨_, rfl⟩
  rw [Hz.out] at hsm
  have hz : -9223372036854775808 ≤ z ∧ z ≤ 9223372036854775807 := by omega
  go_enter Tryd.func3, Tryd.ntmps3
  go_wp2_with fail
  refine (sat_inflate s m ad w hS hD hT hE hg hs R HR).mono ?_
  rintro e w1 ⟨hB1, he⟩
  have he' : e = .returned (.tuple #[.string d, .int .i64 z]) := by rw [he, Hd.out, Hz.out]
  clear he
  subst he'
  clear hS hD hT hE
  go_wp2_with fail
  refine (infR_walk s m w1 hs R HR).mono ?_
  rintro e w2 ⟨hB2, he⟩
  have he' : e = .returned (.tuple #[.string d, .int .i64 z]) := by rw [he, Hd.out, Hz.out]
  clear he
  subst he'
  have HB := hB1.trans (hB2.mono hB1.size)
  clear hB1 hB2
  have hdd : (d.toList == d.toList) = true := by simp
  have hzz : (z == z) = true := by simp
  go_wp2_with fail
  refine (num_walk z w2 hz).mono ?_
  rintro e w3 ⟨rfl, hw⟩
  rw [hw]
  clear hw w3
  go_wp2
  go_ret
  exact ⟨rfl, HB⟩
end Go.Proofs.YtjilhneefbakhaaDoor.Inf
