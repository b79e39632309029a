/- names.parse, names.CheckVersion, satchel.CheckVersion: they answer what the plain parseV tells, of every text. -/
import Derived.Test.YtoeolaienpopfaaGreatDoorParts
namespace Go.Proofs.YtoeolaienpopfaaGreatDoor
open Go.RowKit

/-- How parse ends. -/
def ParseEnd (a1 : Addr) (l : List UInt8) (e : Ending) (w' : World) : Prop :=
  (∃ x vv, parseV l = some x ∧ e = .returned (.tuple #[vv, .nilIface]) ∧ VerIs w' vv x) ∨
  (parseV l = none ∧ ∃ b, e = .returned (.tuple #[.agg #[.int .i64 0, .int .i64 0, .int .i64 0, .slice none 0 0], .iface 54 (.pointer (some ⟨b, 0, none⟩))]) ∧ w'.cell? ⟨b, 0, none⟩ = some (.iface 142 (.pointer (some a1))))

theorem faultOf_any (x y : Value) (w : World) : Calls Tryz.prog 28 #[.iface 142 x, .iface 142 y] w fun e w' => e = .returned (.iface 54 (.pointer (some ⟨w.heap.size, 0, none⟩))) ∧ w' = w.alloc (.cells #[.iface 142 x, .iface 142 y] 58) := by
  go_enter Tryz.func28, Tryz.ntmps28
  go_wp2
  go_ret
  exact ⟨rfl, rfl⟩

set_option maxRecDepth 100000 in
set_option maxHeartbeats 2000000 in
theorem parse_walk (s : ByteArray) (w : World) (a0 a1 : Addr) (m : Int) (hs : s.size ≤ maxLen) (hW : VerW a0 a1 m w) :
    Calls Tryz.prog 31 #[.string s] w fun e w' => ParseEnd a1 s.data.toList e w' ∧ Below w.heap.size w w' := by
  have hW0 := hW.below (below_one w (.cells #[.int .i64 0, .int .i64 0, .int .i64 0, .slice none 0 0] 64))
  go_enter Tryz.func31, Tryz.ntmps31
  go_wp2_with fail
  refine (parseParts_walk s _ a0 a1 m hs hW0).mono ?_
  rintro e w1 ⟨he, hb1⟩
  have hR1 := (res4_new w (.int .i64 0) (.int .i64 0) (.int .i64 0) (.slice none 0 0)).below hb1
  have hB1 : Below w.heap.size w w1 := (below_one w _).trans (hb1.mono (by simp))
  have hz1 := hb1.size
  simp only [World.size_alloc] at hz1
  clear hW0 hb1
  rcases he with ⟨x, vv, hx, rfl, hv⟩ | ⟨hx, y, rfl⟩
  · have HX : Hid (parseV s.data.toList = some x) := hx
    obtain ⟨p0, p1, p2, mv, L, rfl, rfl, hM⟩ := hv
    obtain ⟨ao, cap, rfl⟩ := hM.slice
    clear hx
    obtain ⟨q0, hq0⟩ : ∃ q, q = val p0 := ⟨_, rfl⟩
    obtain ⟨q1, hq1⟩ : ∃ q, q = val p1 := ⟨_, rfl⟩
    obtain ⟨q2, hq2⟩ : ∃ q, q = val p2 := ⟨_, rfl⟩
    rw [← hq0, ← hq1, ← hq2]
    have HQ0 : Hid (q0 = val p0) := hq0
    have HQ1 : Hid (q1 = val p1) := hq1
    have HQ2 : Hid (q2 = val p2) := hq2
    clear hq0 hq1 hq2
    have hb2 := below_one w1 (.cells #[.int .i64 q0, .int .i64 q1, .int .i64 q2, .slice ao L.length cap] 64)
    have hR2 := hR1.below hb2
    have hB2 : Below w.heap.size w _ := hB1.trans (hb2.mono (by omega))
    have hM2 := hM.below hb2
    obtain ⟨v0, r0⟩ := hR2.c0
    obtain ⟨v1, r1⟩ := hR2.c1
    obtain ⟨v2, r2⟩ := hR2.c2
    obtain ⟨v3, r3⟩ := hR2.c3
    have rf := hR2.f
    have hblk := hR2.blk
    have HBlk : Hid (∃ c, (w1.alloc (.cells #[.int .i64 q0, .int .i64 q1, .int .i64 q2, .slice ao L.length cap] 64)).heap[w.heap.size]? = some (.cells c 64 (0, 0))) := hblk
    clear hR1 hR2 hb2 hM hblk
    go_wp2
    refine bodyPost_ret (v := .tuple #[.agg #[.int .i64 q0, .int .i64 q1, .int .i64 q2, .slice ao L.length cap], .nilIface]) (by simp [results, Tryz.results31, go_sem, r0, r1, r2, r3]) rfl ⟨Or.inl ⟨_, _, HX.out, rfl, p0, p1, p2, _, L, rfl, by rw [HQ0.out, HQ1.out, HQ2.out], ?_⟩, ?_⟩
    · exact hM2.set4 _ HBlk.out _ _ _ _
    · exact below_set4 hB2 _ (Nat.le_refl _) _ _ _ _
  · have HX : Hid (parseV s.data.toList = none) := hx
    have hb2 := below_one w1 (.cells #[.int .i64 0, .int .i64 0, .int .i64 0, .slice none 0 0] 64)
    have hR2 := hR1.below hb2
    have hB2 : Below w.heap.size w _ := hB1.trans (hb2.mono (by omega))
    have hver := (hW.below hB2).ver
    clear hx hR1 hb2
    go_wp2_with fail
    refine (faultOf_any _ _ _).mono ?_
    rintro e w3 ⟨rfl, rfl⟩
    have hb3 := below_one (w1.alloc (.cells #[.int .i64 0, .int .i64 0, .int .i64 0, .slice none 0 0] 64)) (.cells #[.iface 142 (.pointer (some a1)), .iface 142 y] 58)
    have hR3 := hR2.below hb3
    have hB3 : Below w.heap.size w _ := hB2.trans (hb3.mono (by simp; omega))
    obtain ⟨v0, r0⟩ := hR3.c0
    obtain ⟨v1, r1⟩ := hR3.c1
    obtain ⟨v2, r2⟩ := hR3.c2
    obtain ⟨v3, r3⟩ := hR3.c3
    have rf := hR3.f
    clear hR2 hR3 hb3 hver hB2
    go_wp2
    refine bodyPost_ret (v := .tuple #[.agg #[.int .i64 0, .int .i64 0, .int .i64 0, .slice none 0 0], .iface 54 (.pointer (some ⟨w1.heap.size + 1, 0, none⟩))]) (by simp [results, Tryz.results31, go_sem, r0, r1, r2, r3]) rfl ⟨Or.inr ⟨HX.out, _, rfl, ?_⟩, ?_⟩
    · rw [World.cell?_setCell_other _ _ _ _ (by simp), World.cell?_setCell_other _ _ _ _ (by simp), World.cell?_setCell_other _ _ _ _ (by simp), World.cell?_setCell_other _ _ _ _ (by simp)]
      simp
    · exact below_set4 hB3 _ (Nat.le_refl _) _ _ _ _

/-- How names.CheckVersion ends. -/
theorem checkVersion_walk (s : ByteArray) (w : World) (a0 a1 : Addr) (m : Int) (hs : s.size ≤ maxLen) (hW : VerW a0 a1 m w) :
    Calls Tryz.prog 17 #[.string s] w fun e w' => ((parseV s.data.toList ≠ none ∧ e = .returned .nilIface) ∨ (parseV s.data.toList = none ∧ ∃ b, e = .returned (.iface 54 (.pointer (some ⟨b, 0, none⟩))) ∧ w'.cell? ⟨b, 0, none⟩ = some (.iface 142 (.pointer (some a1))))) ∧ Below w.heap.size w w' := by
  go_enter Tryz.func17, Tryz.ntmps17
  go_wp2_with fail
  refine (parse_walk s w a0 a1 m hs hW).mono ?_
  rintro e w1 ⟨he, hb1⟩
  have hz1 := hb1.size
  rcases he with ⟨x, vv, hx, rfl, hv⟩ | ⟨hx, b, rfl, hc⟩
  · have HX : Hid (parseV s.data.toList ≠ none) := by show _ ≠ _; rw [hx]; exact Option.some_ne_none _
    obtain ⟨p0, p1, p2, mv, L, rfl, rfl, hM⟩ := hv
    obtain ⟨ao, cap, rfl⟩ := hM.slice
    clear hx hM
    go_wp2
    go_ret
    exact ⟨Or.inl ⟨HX.out, rfl⟩, hb1.alloc hz1 _⟩
  · have HX : Hid (parseV s.data.toList = none) := hx
    have hlt := lt_of_cell hc
    simp only at hlt
    have hc2 := cell_below (below_one w1 (.cells #[.int .i64 0, .int .i64 0, .int .i64 0, .slice none 0 0] 64)) hc
    clear hx
    go_wp2
    go_ret
    exact ⟨Or.inr ⟨HX.out, b, rfl, hc2⟩, hb1.alloc hz1 _⟩

/-- The number that CheckVersion tells. -/
def verNo (l : List UInt8) : Int := if parseV l = none then 5 else 0
end Go.Proofs.YtoeolaienpopfaaGreatDoor
