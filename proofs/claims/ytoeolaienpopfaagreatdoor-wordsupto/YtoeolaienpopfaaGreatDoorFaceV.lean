/- satchel.CheckVersion and satchel.Compare: what they tell. VK: the number of ErrVersion among number's errors. -/
import Derived.Test.YtoeolaienpopfaaGreatDoorCompV
import Derived.Test.YtoeolaienpopfaaGreatDoorSent
namespace Go.Proofs.YtoeolaienpopfaaGreatDoor
open Go.RowKit
set_option maxRecDepth 100000 in
set_option maxHeartbeats 2000000 in
theorem compare_walk (s t : ByteArray) (w : World) (a0 a1 : Addr) (m : Int) (hs : s.size ≤ maxLen) (ht : t.size ≤ maxLen) (hW : VerW a0 a1 m w) :
    Calls Tryz.prog 20 #[.string s, .string t] w fun e w' => CompareEnd a1 s.data.toList t.data.toList e w' ∧ Below w.heap.size w w' := by
  go_enter Tryz.func20, Tryz.ntmps20
  go_wp2_with fail
  refine (parse_walk s w a0 a1 m hs hW).mono ?_
  rintro e w1 ⟨he, hb1⟩
  have hz1 := hb1.size
  rcases he with ⟨x, vv, hx, rfl, hv⟩ | ⟨hx, b, rfl, hc⟩
  · obtain ⟨q0, q1, q2, ao, n, cap, rfl⟩ := verIs_form hv
    have HX : Hid (parseV s.data.toList = some x) := hx
    clear hx
    have hb2 := below_one w1 (.cells #[.int .i64 q0, .int .i64 q1, .int .i64 q2, .slice ao n cap] 64)
    have hB2 : Below w.heap.size w _ := hb1.trans (hb2.mono hz1)
    have hv2 := hv.below hb2
    have hW2 := hW.below hB2
    clear hb2 hv
    go_wp2_with fail
    refine (parse_walk t _ a0 a1 m ht hW2).mono ?_
    rintro e w3 ⟨he, hb3⟩
    have hz3 := hb3.size
    simp only [World.size_alloc] at hz3
    have hB3 : Below w.heap.size w w3 := hB2.trans (hb3.mono (by simp; omega))
    have k0 := cell_below (a := ⟨w1.heap.size, 0, none⟩) (v := .int .i64 q0) hb3 (by simp)
    have k1 := cell_below (a := ⟨w1.heap.size, 1, none⟩) (v := .int .i64 q1) hb3 (by simp)
    have k2 := cell_below (a := ⟨w1.heap.size, 2, none⟩) (v := .int .i64 q2) hb3 (by simp)
    have k3 := cell_below (a := ⟨w1.heap.size, 3, none⟩) (v := .slice ao n cap) hb3 (by simp)
    have hv3 := hv2.below hb3
    clear hv2 hW2 hb3 hB2
    rcases he with ⟨y, uu, hy, rfl, hu⟩ | ⟨hy, b, rfl, hc⟩
    · obtain ⟨s0, s1, s2, ao', n', cap', rfl⟩ := verIs_form hu
      have HY : Hid (cmpNo s.data.toList t.data.toList = (cmpV x y, 0)) := cmpNo_some HX.out hy
      clear hy
      have hb4 := below_one w3 (.cells #[.int .i64 s0, .int .i64 s1, .int .i64 s2, .slice ao' n' cap'] 64)
      have hv4 := hv3.below hb4
      have hu4 := hu.below hb4
      have hB4 : Below w.heap.size w _ := hB3.trans (hb4.mono (by omega))
      have j0 := cell_below hb4 k0
      have j1 := cell_below hb4 k1
      have j2 := cell_below hb4 k2
      have j3 := cell_below hb4 k3
      clear hv3 hu hb4 k0 k1 k2 k3 hB3
      go_wp2_with fail
      refine (compareVersions_walk _ _ x y _ hv4 hu4).mono ?_
      rintro e w5 ⟨rfl, hb5⟩
      go_wp2
      go_ret2
      exact ⟨Or.inl ⟨_, HY.out, rfl⟩, hB4.trans (hb5.below.mono (by simp; omega))⟩
    · have HY : Hid (cmpNo s.data.toList t.data.toList = (0, 5)) := cmpNo_none2 hy
      have hc2 := cell_below (below_one w3 (.cells #[.int .i64 0, .int .i64 0, .int .i64 0, .slice none 0 0] 64)) hc
      clear hy k0 k1 k2 k3 hv3
      go_wp2
      go_ret2
      exact ⟨Or.inr ⟨HY.out, b, rfl, hc2⟩, hB3.alloc (by omega) _⟩
  · have HY : Hid (cmpNo s.data.toList t.data.toList = (0, 5)) := cmpNo_none1 hx
    have hc2 := cell_below (below_one w1 (.cells #[.int .i64 0, .int .i64 0, .int .i64 0, .slice none 0 0] 64)) hc
    clear hx
    go_wp2
    go_ret2
    exact ⟨Or.inr ⟨HY.out, b, rfl, hc2⟩, hb1.alloc hz1 _⟩

theorem face_checkVersion (s : ByteArray) (w : World) (a0 : Addr) (ad : Nat → Addr) (m : Int) (hs : s.size ≤ maxLen) (hW : VerW a0 (ad 4) m w) (hSe : Sent ad w) :
    Calls Tryz.prog 5 #[.string s] w fun e w' => e = .returned (.int .i64 (verNo s.data.toList)) ∧ Below w.heap.size w w' := by
  go_enter Tryz.func5, Tryz.ntmps5
  go_wp2_with fail
  refine (checkVersion_walk s w a0 (ad 4) m hs hW).mono ?_
  rintro e w1 ⟨he, hb1⟩
  have hS1 := hSe.below hb1
  have hz1 := hb1.size
  rcases he with ⟨hx, rfl⟩ | ⟨hx, b, rfl, hc⟩
  · have HX : Hid (verNo s.data.toList = 0) := by show _ = _; rw [verNo, if_neg hx]
    clear hx
    go_wp2_with fail
    refine (number_nil _).mono ?_
    rintro e w' ⟨rfl, rfl⟩
    go_wp2
    go_ret
    exact ⟨by rw [HX.out]; rfl, hb1⟩
  · have HX : Hid (verNo s.data.toList = 5) := by show _ = _; rw [verNo, if_pos hx]
    clear hx
    go_wp2_with fail
    refine (number_version b ad _ hS1 hc).mono ?_
    rintro e w2 ⟨rfl, hb2⟩
    go_wp2
    go_ret
    exact ⟨by rw [HX.out]; rfl, hb1.trans (hb2.mono hz1)⟩
theorem face_compare (s t : ByteArray) (w : World) (a0 : Addr) (ad : Nat → Addr) (m : Int) (hs : s.size ≤ maxLen) (ht : t.size ≤ maxLen) (hW : VerW a0 (ad 4) m w) (hSe : Sent ad w) :
    Calls Tryz.prog 8 #[.string s, .string t] w fun e w' => e = .returned (.tuple #[.int .i64 (cmpNo s.data.toList t.data.toList).1, .int .i64 (cmpNo s.data.toList t.data.toList).2]) ∧ Below w.heap.size w w' := by
  go_enter Tryz.func8, Tryz.ntmps8
  go_wp2_with fail
  refine (compare_walk s t w a0 (ad 4) m hs ht hW).mono ?_
  rintro e w1 ⟨he, hb1⟩
  have hS1 := hSe.below hb1
  have hz1 := hb1.size
  rcases he with ⟨c, hx, rfl⟩ | ⟨hx, b, rfl, hc⟩
  · have HX : Hid (cmpNo s.data.toList t.data.toList = (c, 0)) := hx
    clear hx
    go_wp2_with fail
    refine (number_nil _).mono ?_
    rintro e w' ⟨rfl, rfl⟩
    go_wp2
    go_ret2
    exact ⟨by rw [HX.out]; rfl, hb1⟩
  · have HX : Hid (cmpNo s.data.toList t.data.toList = (0, 5)) := hx
    clear hx
    go_wp2_with fail
    refine (number_version b ad _ hS1 hc).mono ?_
    rintro e w2 ⟨rfl, hb2⟩
    go_wp2
    go_ret2
    exact ⟨by rw [HX.out]; rfl, hb1.trans (hb2.mono hz1)⟩
end Go.Proofs.YtoeolaienpopfaaGreatDoor
