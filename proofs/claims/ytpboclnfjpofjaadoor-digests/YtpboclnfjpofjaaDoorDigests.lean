/- The walk of satchellaw.Digests: of every text of at most 2^47 - 4096 bytes it answers true. -/
import Derived.Test.YtpboclnfjpofjaaDoorShaRef
namespace Go.Proofs.YtpboclnfjpofjaaDoor.Sha
open Go.RowKit

theorem toList_ba (l : List UInt8) : (⟨l.toArray⟩ : ByteArray).toList = l := by simp
theorem digests_walk (s : ByteArray) (w : World) (hs : s.size ≤ 140737488351232) (hP : TabP w) (hR : TabR w) :
    Calls Tryd.prog 3 #[.string s] w fun e w' => e = .returned (.bool true) ∧ Below w.heap.size w w' := by
  obtain ⟨a, HA⟩ : ∃ a : ByteArray, Hid (a = ⟨(sha [97, 98, 99]).toArray⟩) := ⟨_, rfl⟩
  obtain ⟨d, HD⟩ : ∃ d : ByteArray, Hid (d = ⟨(sha s.data.toList).toArray⟩) := ⟨_, rfl⟩
  have ha : a.toList = [98, 97, 55, 56, 49, 54, 98, 102, 56, 102, 48, 49, 99, 102, 101, 97, 52, 49, 52, 49, 52, 48, 100, 101, 53, 100, 97, 101, 50, 50, 50, 51, 98, 48, 48, 51, 54, 49, 97, 51, 57, 54, 49, 55, 55, 97, 57, 99, 98, 52, 49, 48, 102, 102, 54, 49, 102, 50, 48, 48, 49, 53, 97, 100] := by
    rw [HA.out, toList_ba, sha_abc]
  go_enter Tryd.func3, Tryd.ntmps3
  go_wp2_with fail
  refine (digest_walk ⟨#[97, 98, 99]⟩ _ (by decide) hP).mono ?_
  rintro e w1 ⟨he, hb1⟩
  have he' : e = .returned (.string a) := by rw [he, HA.out]
  clear he
  subst he'
  have hP1 := hP.below hb1
  have hR1 := hR.below hb1
  go_wp2_with fail
  refine (digest_walk s _ (by omega) hP1).mono ?_
  rintro e w2 ⟨he, hb2⟩
  have he' : e = .returned (.string d) := by rw [he, HD.out]
  clear he
  subst he'
  have hB2 := hb1.trans (hb2.mono hb1.size)
  have hR2 := hR1.below hb2
  clear hb2 hP hP1 hR hR1
  go_wp2_with fail
  refine (refDigest_walk s _ hs hR2).mono ?_
  rintro e w3 ⟨he, hb3⟩
  have he' : e = .returned (.string d) := by rw [he, HD.out]
  clear he
  subst he'
  have hB3 := hB2.trans (hb3.mono hB2.size)
  clear hb3 hR2
  have hdd : (d.toList == d.toList) = true := by simp
  go_wp2
  go_ret
  exact ⟨rfl, hB3⟩
end Go.Proofs.YtpboclnfjpofjaaDoor.Sha
