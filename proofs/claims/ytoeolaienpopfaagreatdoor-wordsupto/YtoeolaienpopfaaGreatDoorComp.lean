/- cmp.Compare at texts, names.compareMarks, slices.Compare at three numbers: each tells the plain order. -/
import Derived.Test.YtoeolaienpopfaaGreatDoorParse
namespace Go.Proofs.YtoeolaienpopfaaGreatDoor
open Go.RowKit
/-- New blocks only, and draws. -/
structure Grw (B : Nat) (a w : World) : Prop where
  below : Below B a w
  drawn : a.drawn ≤ w.drawn
theorem Grw.refl (B : Nat) (w : World) : Grw B w w := ⟨Below.refl _ _, Nat.le_refl _⟩
theorem Grw.trans {B : Nat} {a b c : World} (h : Grw B a b) (k : Grw B b c) : Grw B a c := ⟨h.below.trans k.below, Nat.le_trans h.drawn k.drawn⟩
theorem Grw.mono {B B' : Nat} {w w' : World} (h : Grw B w w') (hB : B' ≤ B) : Grw B' w w' := ⟨h.below.mono hB, h.drawn⟩
theorem Grw.alloc {B : Nat} {a w : World} (h : Grw B a w) (hB : B ≤ w.heap.size) (o : Obj) : Grw B a (w.alloc o) := ⟨h.below.alloc hB o, h.drawn⟩
theorem Grw.size {B : Nat} {a w : World} (h : Grw B a w) : a.heap.size ≤ w.heap.size := h.below.size
theorem grw_two (w : World) (o o' : Obj) : Grw w.heap.size w ((w.alloc o).alloc o') := ⟨below_two w o o', Nat.le_refl _⟩
theorem grw_drewN {w : World} (n : Nat) : Grw w.heap.size w (w.drewN n) := ⟨below_drewN n, Nat.le_add_right _ _⟩

theorem string_gtr (t : TypeId) (a b : ByteArray) : binOp .gtr t (.string a) (.string b) = pure (.bool !(Op.bytesLess a.toList b.toList || a.toList == b.toList)) := by simp [binOp, Op.stringOp]
theorem cmpString_walk (a b : ByteArray) (w : World) : Calls Tryz.prog 70 #[.string a, .string b] w fun e w' => e = .returned (.int .i64 (cmpB a.data.toList b.data.toList)) ∧ w' = w := by
  have ht := cmpB_tests a.data.toList b.data.toList
  rw [← ByteArray.toList_eq, ← ByteArray.toList_eq] at ht
  have HA : Hid (cmpB a.data.toList b.data.toList = cmpB a.toList b.toList) := by show _ = _; rw [ByteArray.toList_eq, ByteArray.toList_eq]
  have hg := string_gtr 9 a b
  by_cases h1 : Op.bytesLess a.toList b.toList = true
  · have HC : Hid (cmpB a.toList b.toList = -1) := ht.1 h1
    clear ht hg
    go_enter Tryz.func70, Tryz.ntmps70
    go_wp2
    go_ret
    exact ⟨by rw [HA.out, HC.out]; rfl, rfl⟩
  · have h1 : Op.bytesLess a.toList b.toList = false := by simpa using h1
    by_cases h2 : (a.toList == b.toList) = true
    · have HC : Hid (cmpB a.toList b.toList = 0) := ht.2.1 h1 h2
      clear ht
      go_enter Tryz.func70, Tryz.ntmps70
      go_wp2
      go_ret
      exact ⟨by rw [HA.out, HC.out]; rfl, rfl⟩
    · have h2 : (a.toList == b.toList) = false := by simpa using h2
      have HC : Hid (cmpB a.toList b.toList = 1) := ht.2.2 h1 h2
      clear ht
      go_enter Tryz.func70, Tryz.ntmps70
      go_wp2
      go_ret
      exact ⟨by rw [HA.out, HC.out]; rfl, rfl⟩

/-- A mark's value. -/
def mval (b : ByteArray) : Value := .agg #[.string b, .bool (isNum b.data.toList), .int .i64 (if isNum b.data.toList then val b.data.toList else 0)]
set_option maxHeartbeats 1000000 in
theorem compareMarks_walk (a b : ByteArray) (w : World) : Calls Tryz.prog 56 #[mval a, mval b] w fun e w' => e = .returned (.int .i64 (cmpM a.data.toList b.data.toList)) ∧ Grw w.heap.size w w' := by
  unfold mval cmpM
  cases isNum a.data.toList <;> cases isNum b.data.toList
  · simp only [Bool.false_eq_true, if_false]
    go_enter Tryz.func56, Tryz.ntmps56
    go_wp2_with fail
    refine (cmpString_walk a b _).mono ?_
    rintro e w' ⟨rfl, rfl⟩
    go_wp2
    go_ret
    exact ⟨rfl, grw_two _ _ _⟩
  · simp only [Bool.false_eq_true, if_false, if_true]
    generalize val b.data.toList = vb
    go_enter Tryz.func56, Tryz.ntmps56
    go_wp2
    go_ret
    exact ⟨rfl, grw_two _ _ _⟩
  · simp only [Bool.false_eq_true, if_false, if_true]
    generalize val a.data.toList = va
    go_enter Tryz.func56, Tryz.ntmps56
    go_wp2
    go_ret
    exact ⟨rfl, grw_two _ _ _⟩
  · simp only [if_true]
    generalize val a.data.toList = va
    generalize val b.data.toList = vb
    go_enter Tryz.func56, Tryz.ntmps56
    go_wp2_with fail
    refine (Tryz.cmp_Compare_int va vb _).mono ?_
    rintro e w' ⟨rfl, rfl⟩
    rw [compareInt_cmpI]
    go_wp2
    go_ret
    exact ⟨rfl, grw_two _ _ _⟩

theorem lex3_ne0 {x0 x1 x2 y0 y1 y2 : Int} (h : ¬ cmpI x0 y0 = 0) : lexC cmpI [x0, x1, x2] [y0, y1, y2] = cmpI x0 y0 := by simp [lexC, h]
theorem lex3_ne1 {x0 x1 x2 y0 y1 y2 : Int} (h0 : cmpI x0 y0 = 0) (h : ¬ cmpI x1 y1 = 0) : lexC cmpI [x0, x1, x2] [y0, y1, y2] = cmpI x1 y1 := by simp [lexC, h, h0]
theorem lex3_last {x0 x1 x2 y0 y1 y2 : Int} (h0 : cmpI x0 y0 = 0) (h1 : cmpI x1 y1 = 0) : lexC cmpI [x0, x1, x2] [y0, y1, y2] = cmpI x2 y2 := by
  simp only [lexC, h0, h1, if_true]
  split
  · rename_i h; exact h.symm
  · rfl

set_option maxHeartbeats 1000000 in
theorem compare3_walk (b c : Nat) (x0 x1 x2 y0 y1 y2 : Int) (w : World)
    (hx0 : w.cell? ⟨b, 0, none⟩ = some (.int .i64 x0)) (hx1 : w.cell? ⟨b, 1, none⟩ = some (.int .i64 x1)) (hx2 : w.cell? ⟨b, 2, none⟩ = some (.int .i64 x2))
    (hy0 : w.cell? ⟨c, 0, none⟩ = some (.int .i64 y0)) (hy1 : w.cell? ⟨c, 1, none⟩ = some (.int .i64 y1)) (hy2 : w.cell? ⟨c, 2, none⟩ = some (.int .i64 y2)) :
    Calls Tryz.prog 53 #[.slice (some ⟨b, 0, none⟩) 3 3, .slice (some ⟨c, 0, none⟩) 3 3] w fun e w' => e = .returned (.int .i64 (lexC cmpI [x0, x1, x2] [y0, y1, y2])) ∧ w' = w := by
  go_enter Tryz.func53, Tryz.ntmps53
  go_wp2
  go_loop [11] (fun i => ∃ k : Nat, k ≤ 3 ∧ i = .int .i64 k ∧ Hid (0 < k → cmpI x0 y0 = 0) ∧ Hid (1 < k → cmpI x1 y1 = 0) ∧ Hid (2 < k → cmpI x2 y2 = 0)) (fun i => 3 - (intOf i).toNat)
  case atStart => exact ⟨0, Nat.zero_le _, rfl, fun h => absurd h (by decide), fun h => absurd h (by decide), fun h => absurd h (by decide)⟩
  case round =>
    obtain ⟨k, hk, rfl, HA, HB, HC⟩ := hrel
    rcases (by omega : k = 0 ∨ k = 1 ∨ k = 2 ∨ k = 3) with rfl | rfl | rfl | rfl
    · go_wp2_with fail
      refine (Tryz.cmp_Compare_int x0 y0 _).mono ?_
      rintro e w' ⟨rfl, rfl⟩
      rw [compareInt_cmpI]
      by_cases h : cmpI x0 y0 = 0
      · have hb : (cmpI x0 y0 == 0) = true := by simpa using h
        have HH : Hid (cmpI x0 y0 = 0) := h
        clear h
        go_wp2
        go_round
        case rel => exact ⟨1, by decide, rfl, fun _ => HH.out, fun h => absurd h (by decide), fun h => absurd h (by decide)⟩
        case measure => simp [intOf]
      · have hb : (cmpI x0 y0 == 0) = false := by simpa using h
        have HH : Hid (¬ cmpI x0 y0 = 0) := h
        clear h
        go_wp2
        go_ret
        exact ⟨by rw [lex3_ne0 HH.out]; rfl, rfl⟩
    · go_wp2_with fail
      refine (Tryz.cmp_Compare_int x1 y1 _).mono ?_
      rintro e w' ⟨rfl, rfl⟩
      rw [compareInt_cmpI]
      by_cases h : cmpI x1 y1 = 0
      · have hb : (cmpI x1 y1 == 0) = true := by simpa using h
        have HH : Hid (cmpI x1 y1 = 0) := h
        clear h
        go_wp2
        go_round
        case rel => exact ⟨2, by decide, rfl, fun _ => HA.out (by decide), fun _ => HH.out, fun h => absurd h (by decide)⟩
        case measure => simp [intOf]
      · have hb : (cmpI x1 y1 == 0) = false := by simpa using h
        have HH : Hid (¬ cmpI x1 y1 = 0) := h
        clear h
        go_wp2
        go_ret
        exact ⟨by rw [lex3_ne1 (HA.out (by decide)) HH.out]; rfl, rfl⟩
    · go_wp2_with fail
      refine (Tryz.cmp_Compare_int x2 y2 _).mono ?_
      rintro e w' ⟨rfl, rfl⟩
      rw [compareInt_cmpI]
      by_cases h : cmpI x2 y2 = 0
      · have hb : (cmpI x2 y2 == 0) = true := by simpa using h
        have HH : Hid (cmpI x2 y2 = 0) := h
        clear h
        go_wp2
        go_round
        case rel => exact ⟨3, by decide, rfl, fun _ => HA.out (by decide), fun _ => HB.out (by decide), fun _ => HH.out⟩
        case measure => simp [intOf]
      · have hb : (cmpI x2 y2 == 0) = false := by simpa using h
        clear h
        go_wp2
        go_ret
        exact ⟨by rw [lex3_last (HA.out (by decide)) (HB.out (by decide))]; rfl, rfl⟩
    · have HH : Hid (lexC cmpI [x0, x1, x2] [y0, y1, y2] = 0) := by
        show _ = _
        rw [lex3_last (HA.out (by decide)) (HB.out (by decide)), HC.out (by decide)]
      go_wp2
      go_ret
      exact ⟨by rw [HH.out]; rfl, rfl⟩
end Go.Proofs.YtoeolaienpopfaaGreatDoor
