/- The document's own CheckVersion and Compare: they tell what the plain verNo and cmpNo tell. -/
import Derived.Test.YtoeolaienpopfaaGreatDoorRefG
namespace Go.Proofs.YtoeolaienpopfaaGreatDoor
open Go.RowKit

theorem rverIs_form {w : World} {vv : Value} {x : List (List UInt8) × List (List UInt8)} (h : RVerIs w vv x) : ∃ q0 q1 q2 ao n cap, vv = .agg #[.int .i64 q0, .int .i64 q1, .int .i64 q2, .slice ao n cap] := by
  obtain ⟨p0, p1, p2, mv, L, rfl, rfl, hM⟩ := h
  obtain ⟨ao, cap, rfl⟩ := hM.slice
  exact ⟨_, _, _, _, _, _, rfl⟩

theorem ref_checkVersion (s : ByteArray) (w : World) (hs : s.size ≤ 1099511627776) :
    Calls Tryz.prog 7 #[.string s] w fun e w' => e = .returned (.int .i64 (verNo s.data.toList)) ∧ Below w.heap.size w w' := by
  go_enter Tryz.func7, Tryz.ntmps7
  go_wp2_with fail
  refine (refVersion_walk s w hs).mono ?_
  rintro e w1 ⟨he, hb1⟩
  have hz1 := hb1.size
  rcases he with ⟨x, vv, hx, rfl, hv⟩ | ⟨hx, n0, n1, n2, ao, n, cap, rfl⟩
  · have HX : Hid (verNo s.data.toList = 0) := by show _ = _; rw [verNo, if_neg (by rw [hx]; exact Option.some_ne_none _)]
    obtain ⟨q0, q1, q2, ao, n, cap, rfl⟩ := rverIs_form hv
    clear hx hv
    go_wp2
    go_ret
    exact ⟨by rw [HX.out]; rfl, hb1.alloc hz1 _⟩
  · have HX : Hid (verNo s.data.toList = 5) := by show _ = _; rw [verNo, if_pos hx]
    clear hx
    go_wp2
    go_ret
    exact ⟨by rw [HX.out]; rfl, hb1.alloc hz1 _⟩

set_option maxRecDepth 100000 in
set_option maxHeartbeats 2000000 in
theorem ref_compare (s t : ByteArray) (w : World) (hs : s.size ≤ 1099511627776) (ht : t.size ≤ 1099511627776) :
    Calls Tryz.prog 9 #[.string s, .string t] w fun e w' => e = .returned (.tuple #[.int .i64 (cmpNo s.data.toList t.data.toList).1, .int .i64 (cmpNo s.data.toList t.data.toList).2]) ∧ Below w.heap.size w w' := by
  go_enter Tryz.func9, Tryz.ntmps9
  go_wp2_with fail
  refine (refVersion_walk s w hs).mono ?_
  rintro e w1 ⟨he, hb1⟩
  have hz1 := hb1.size
  rcases he with ⟨x, vv, hx, rfl, hv⟩ | ⟨hx, n0, n1, n2, ao, n, cap, rfl⟩
  · obtain ⟨q0, q1, q2, ao, n, cap, rfl⟩ := rverIs_form hv
    have HX : Hid (parseV s.data.toList = some x) := hx
    clear hx
    have hb2 := below_one w1 (.cells #[.int .i64 q0, .int .i64 q1, .int .i64 q2, .slice ao n cap] 43)
    have hB2 : Below w.heap.size w _ := hb1.trans (hb2.mono hz1)
    have hv2 := hv.below hb2
    clear hb2 hv
    go_wp2_with fail
    refine (refVersion_walk t _ ht).mono ?_
    rintro e w3 ⟨he, hb3⟩
    have hz3 := hb3.size
    simp only [World.size_alloc] at hz3
    have hB3 : Below w.heap.size w w3 := hB2.trans (hb3.mono (by simp; omega))
    have k0 := cell_below (a := ⟨w1.heap.size, 0, none⟩) (v := .int .i64 q0) hb3 (by simp)
    have k1 := cell_below (a := ⟨w1.heap.size, 1, none⟩) (v := .int .i64 q1) hb3 (by simp)
    have k2 := cell_below (a := ⟨w1.heap.size, 2, none⟩) (v := .int .i64 q2) hb3 (by simp)
    have k3 := cell_below (a := ⟨w1.heap.size, 3, none⟩) (v := .slice ao n cap) hb3 (by simp)
    have hv3 := hv2.below hb3
    clear hv2 hb3 hB2
    rcases he with ⟨y, uu, hy, rfl, hu⟩ | ⟨hy, n0, n1, n2, ao', n', cap', rfl⟩
    · obtain ⟨s0, s1, s2, ao', n', cap', rfl⟩ := rverIs_form hu
      have HY : Hid (cmpNo s.data.toList t.data.toList = (cmpV x y, 0)) := cmpNo_some HX.out hy
      have HXM : Hid (∀ a ∈ x.2, markOk a = true ∧ a.length ≤ 30) := fun a ha => ⟨(parse_ok HX.out).2 a ha, parse_len HX.out a ha⟩
      have HYM : Hid (∀ a ∈ y.2, markOk a = true ∧ a.length ≤ 30) := fun a ha => ⟨(parse_ok hy).2 a ha, parse_len hy a ha⟩
      clear hy
      have hb4 := below_one w3 (.cells #[.int .i64 s0, .int .i64 s1, .int .i64 s2, .slice ao' n' cap'] 43)
      have hv4 := hv3.below hb4
      have hu4 := hu.below hb4
      have hB4 : Below w.heap.size w _ := hB3.trans (hb4.mono (by omega))
      have j0 := cell_below hb4 k0
      have j1 := cell_below hb4 k1
      have j2 := cell_below hb4 k2
      have j3 := cell_below hb4 k3
      clear hv3 hu hb4 k0 k1 k2 k3 hB3
      go_wp2_with fail
      refine (refVOrder_walk x y _ _ _ hv4 hu4 HXM.out HYM.out).mono ?_
      rintro e w5 ⟨rfl, hb5⟩
      go_wp2
      go_ret2
      exact ⟨by rw [HY.out]; rfl, hB4.trans (hb5.mono (by simp; omega))⟩
    · have HY : Hid (cmpNo s.data.toList t.data.toList = (0, 5)) := cmpNo_none2 hy
      clear hy k0 k1 k2 k3 hv3
      go_wp2
      go_ret2
      exact ⟨by rw [HY.out]; rfl, hB3.alloc (by omega) _⟩
  · have HY : Hid (cmpNo s.data.toList t.data.toList = (0, 5)) := cmpNo_none1 hx
    clear hx
    go_wp2_with fail
    refine (refVersion_walk t _ ht).mono ?_
    rintro e w3 ⟨he, hb3⟩
    have hB2 := hb1.trans ((below_one w1 (.cells #[.int .i64 n0, .int .i64 n1, .int .i64 n2, .slice ao n cap] 43)).mono hz1)
    have hz3 := hb3.size
    simp only [World.size_alloc] at hz3
    have hB3 : Below w.heap.size w w3 := hB2.trans (hb3.mono (by simp; omega))
    clear hb3 hB2
    rcases he with ⟨y, uu, hy, rfl, hu⟩ | ⟨hy, m0, m1, m2, ao', n', cap', rfl⟩
    · obtain ⟨s0, s1, s2, ao', n', cap', rfl⟩ := rverIs_form hu
      clear hy hu
      go_wp2
      go_ret2
      exact ⟨by rw [HY.out]; rfl, hB3.alloc (by omega) _⟩
    · clear hy
      go_wp2
      go_ret2
      exact ⟨by rw [HY.out]; rfl, hB3.alloc (by omega) _⟩
end Go.Proofs.YtoeolaienpopfaaGreatDoor
