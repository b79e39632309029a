/- names.parseNumbers: what it answers of every text of at most 30 bytes. -/
import Derived.Test.YtoeolaienpopfaaGreatDoorMark
import Derived.Test.YtoeolaienpopfaaGreatDoorShelf2
namespace Go.Proofs.YtoeolaienpopfaaGreatDoor
open Go.RowKit

/-- How parseNumbers ends. -/
def NumsEnd (l : List UInt8) (e : Ending) : Prop :=
  (∃ p0 p1 p2, spl l = [p0, p1, p2] ∧ (numOk p0 = true ∧ numOk p1 = true ∧ numOk p2 = true) ∧ e = .returned (.tuple #[.agg #[.int .i64 (val p0), .int .i64 (val p1), .int .i64 (val p2)], .nilIface])) ∨
  (¬ ((spl l).length = 3 ∧ (spl l).all numOk = true) ∧ ∃ n0 n1 n2 x, e = .returned (.tuple #[.agg #[.int .i64 n0, .int .i64 n1, .int .i64 n2], .iface 142 x]))

theorem below_two (w : World) (o o' : Obj) : Below w.heap.size w ((w.alloc o).alloc o') := (below_one w o).alloc (by simp) _
theorem below_three (w : World) (o o' o'' : Obj) : Below w.heap.size w (((w.alloc o).alloc o').alloc o'') := (below_two w o o').alloc (by simp; omega) _

theorem spl_len (l : List UInt8) : (∀ p ∈ spl l, p.length ≤ l.length) ∧ (spl l).length ≤ l.length + 1 := by
  induction l with
  | nil => simp [spl]
  | cons c r ih =>
    unfold spl
    split
    · refine ⟨fun p hp => ?_, by simp; exact ih.2⟩
      rcases List.mem_cons.1 hp with rfl | hp
      · simp
      · have := ih.1 p hp; simp; omega
    · cases hs : spl r with
      | nil => exact absurd hs (spl_ne r)
      | cons a t =>
        rw [hs] at ih
        refine ⟨fun p hp => ?_, by have := ih.2; simp at this ⊢; omega⟩
        rcases List.mem_cons.1 hp with rfl | hp
        · have := ih.1 a (by simp); simp; exact this
        · have := ih.1 p (by simp [hp]); simp; omega
/-- strings.Split at a full stop. -/
theorem split_dot (s : ByteArray) (m : Int) (w : World) (hs : s.size ≤ 100) (hm : w.cell? ⟨22, 0, none⟩ = some (.int .i64 m)) :
    Calls Tryz.prog 29 #[.string s, .string ⟨#[46]⟩] w fun e w' => ∃ L : List ByteArray, L.map (·.data.toList) = spl s.data.toList ∧ (∀ p ∈ L, p.size ≤ 100) ∧ L.length ≤ 101 ∧ e = .returned (.slice (some ⟨w.heap.size, 0, none⟩) L.length L.length) ∧ w' = w.alloc (.cells (L.map Value.string).toArray 9) := by
  refine (Tryz.strings_Split s ⟨#[46]⟩ m w (by omega) hm (by decide)).mono ?_
  rintro e w' ⟨rfl, rfl⟩
  have h1 := splitB_spl s
  have h2 := countB_spl s
  have hl := spl_len s.data.toList
  rw [size_len] at hl
  refine ⟨_, h1, ?_, ?_, ?_, rfl⟩
  · intro p hp
    have := hl.1 p.data.toList (by rw [← h1]; exact List.mem_map_of_mem hp)
    rw [size_len] at this
    omega
  · have := congrArg List.length h1
    rw [List.length_map] at this
    omega
  · have := congrArg List.length h1
    rw [List.length_map] at this
    rw [this, ← h2]

/-- The worlds of parseNumbers' loop: the result's block, the numbers' block, the parts' block, each as it stands. -/
structure NumsW (B : Nat) (b0 b1 b2 : ByteArray) (n0 n1 n2 : Int) (wr : World) : Prop where
  res : ∀ o, wr.frozen? ⟨B, o, none⟩ = false
  r0 : ∃ v, wr.cell? ⟨B, 0, none⟩ = some v
  r1 : ∃ v, wr.cell? ⟨B, 1, none⟩ = some v
  r2 : ∃ v, wr.cell? ⟨B, 2, none⟩ = some v
  num : ∀ o, wr.frozen? ⟨B + 1, o, none⟩ = false
  c0 : wr.cell? ⟨B + 1, 0, none⟩ = some (.int .i64 n0)
  c1 : wr.cell? ⟨B + 1, 1, none⟩ = some (.int .i64 n1)
  c2 : wr.cell? ⟨B + 1, 2, none⟩ = some (.int .i64 n2)
  p0 : wr.cell? ⟨B + 1 + 1, 0, none⟩ = some (.string b0)
  p1 : wr.cell? ⟨B + 1 + 1, 1, none⟩ = some (.string b1)
  p2 : wr.cell? ⟨B + 1 + 1, 2, none⟩ = some (.string b2)
theorem NumsW.below {B : Nat} {b0 b1 b2 : ByteArray} {n0 n1 n2 : Int} {wr w' : World} (h : NumsW B b0 b1 b2 n0 n1 n2 wr) (hb : Below wr.heap.size wr w') : NumsW B b0 b1 b2 n0 n1 n2 w' := by
  obtain ⟨v0, e0⟩ := h.r0
  obtain ⟨v1, e1⟩ := h.r1
  obtain ⟨v2, e2⟩ := h.r2
  have l0 : B < wr.heap.size := lt_of_cell e0
  have l1 : B + 1 < wr.heap.size := lt_of_cell h.c0
  exact ⟨fun o => by rw [hb.frozen (p := ⟨B, o, none⟩) l0]; exact h.res o, ⟨v0, cell_below hb e0⟩, ⟨v1, cell_below hb e1⟩, ⟨v2, cell_below hb e2⟩, fun o => by rw [hb.frozen (p := ⟨B + 1, o, none⟩) l1]; exact h.num o,
    cell_below hb h.c0, cell_below hb h.c1, cell_below hb h.c2, cell_below hb h.p0, cell_below hb h.p1, cell_below hb h.p2⟩

theorem NumsW.put {B : Nat} {b0 b1 b2 : ByteArray} {n0 n1 n2 : Int} {wr : World} (h : NumsW B b0 b1 b2 n0 n1 n2 wr) (v : Int) :
    NumsW B b0 b1 b2 v n1 n2 (wr.setCell ⟨B + 1, 0, none⟩ (.int .i64 v)) ∧ NumsW B b0 b1 b2 n0 v n2 (wr.setCell ⟨B + 1, 1, none⟩ (.int .i64 v)) ∧ NumsW B b0 b1 b2 n0 n1 v (wr.setCell ⟨B + 1, 2, none⟩ (.int .i64 v)) := by
  obtain ⟨res, ⟨v0, r0⟩, ⟨v1, r1⟩, ⟨v2, r2⟩, num, c0, c1, c2, p0, p1, p2⟩ := h
  have oth : ∀ (j : Nat) (x : Addr) (u : Value), (⟨B + 1, j, none⟩ : Addr) ≠ x → wr.cell? x = some u → (wr.setCell ⟨B + 1, j, none⟩ (.int .i64 v)).cell? x = some u := fun j x u hne h => by
    rw [World.cell?_setCell_other _ _ _ _ hne]; exact h
  exact ⟨⟨fun o => by rw [World.frozen?_setCell]; exact res o, ⟨v0, oth 0 _ _ (by simp) r0⟩, ⟨v1, oth 0 _ _ (by simp) r1⟩, ⟨v2, oth 0 _ _ (by simp) r2⟩, fun o => by rw [World.frozen?_setCell]; exact num o, World.cell?_setCell_same _ _ _ c0, oth 0 _ _ (by simp) c1, oth 0 _ _ (by simp) c2, oth 0 _ _ (by simp) p0, oth 0 _ _ (by simp) p1, oth 0 _ _ (by simp) p2⟩,
    ⟨fun o => by rw [World.frozen?_setCell]; exact res o, ⟨v0, oth 1 _ _ (by simp) r0⟩, ⟨v1, oth 1 _ _ (by simp) r1⟩, ⟨v2, oth 1 _ _ (by simp) r2⟩, fun o => by rw [World.frozen?_setCell]; exact num o, oth 1 _ _ (by simp) c0, World.cell?_setCell_same _ _ _ c1, oth 1 _ _ (by simp) c2, oth 1 _ _ (by simp) p0, oth 1 _ _ (by simp) p1, oth 1 _ _ (by simp) p2⟩,
    ⟨fun o => by rw [World.frozen?_setCell]; exact res o, ⟨v0, oth 2 _ _ (by simp) r0⟩, ⟨v1, oth 2 _ _ (by simp) r1⟩, ⟨v2, oth 2 _ _ (by simp) r2⟩, fun o => by rw [World.frozen?_setCell]; exact num o, oth 2 _ _ (by simp) c0, oth 2 _ _ (by simp) c1, World.cell?_setCell_same _ _ _ c2, oth 2 _ _ (by simp) p0, oth 2 _ _ (by simp) p1, oth 2 _ _ (by simp) p2⟩⟩
theorem numsW_start (w : World) (b0 b1 b2 : ByteArray) (t t' t'' : TypeId) : NumsW w.heap.size b0 b1 b2 0 0 0 (((w.alloc (.cells #[.int .i64 0, .int .i64 0, .int .i64 0] t)).alloc (.cells #[.int .i64 0, .int .i64 0, .int .i64 0] t')).alloc (.cells #[.string b0, .string b1, .string b2] t'')) where
  res := fun o => by rw [World.frozen?_alloc_old _ _ _ (by simp; omega), World.frozen?_alloc_old _ _ _ (by simp)]; simp
  r0 := ⟨.int .i64 0, by rw [World.cell?_alloc_lt _ _ _ (by simp; omega), World.cell?_alloc_lt _ _ _ (by simp)]; simp⟩
  r1 := ⟨.int .i64 0, by rw [World.cell?_alloc_lt _ _ _ (by simp; omega), World.cell?_alloc_lt _ _ _ (by simp)]; simp⟩
  r2 := ⟨.int .i64 0, by rw [World.cell?_alloc_lt _ _ _ (by simp; omega), World.cell?_alloc_lt _ _ _ (by simp)]; simp⟩
  num := fun o => by rw [World.frozen?_alloc_old _ _ _ (by simp)]; exact World.frozen?_alloc2_new _ _ _ _
  c0 := by rw [World.cell?_alloc_lt _ _ _ (by simp), World.cell?_alloc_at _ _ _ _ (by simp)]; rfl
  c1 := by rw [World.cell?_alloc_lt _ _ _ (by simp), World.cell?_alloc_at _ _ _ _ (by simp)]; rfl
  c2 := by rw [World.cell?_alloc_lt _ _ _ (by simp), World.cell?_alloc_at _ _ _ _ (by simp)]; rfl
  p0 := by rw [World.cell?_alloc_at _ _ _ _ (by simp)]; rfl
  p1 := by rw [World.cell?_alloc_at _ _ _ _ (by simp)]; rfl
  p2 := by rw [World.cell?_alloc_at _ _ _ _ (by simp)]; rfl

set_option maxHeartbeats 2000000 in
theorem parseNumbers_walk (s : ByteArray) (w : World) (a0 a1 : Addr) (m : Int) (hs : s.size ≤ 100) (hW : VerW a0 a1 m w) :
    Calls Tryz.prog 67 #[.string s] w fun e w' => NumsEnd s.data.toList e ∧ Below w.heap.size w w' := by
  obtain ⟨x6, hx6⟩ := hW.shape
  have hl6 := lt_of_cell hx6
  have hWa := hW.below (below_two w (.cells #[.int .i64 0, .int .i64 0, .int .i64 0] 40) (.cells #[.int .i64 0, .int .i64 0, .int .i64 0] 40))
  have HMax := hWa.maxLen
  go_enter Tryz.func67, Tryz.ntmps67
  go_wp2_with fail
  refine (split_dot s m _ hs HMax).mono ?_
  rintro e w1 ⟨L, hL, hp, hl, rfl, rfl⟩
  have HL : Hid (L.map (·.data.toList) = spl s.data.toList) := hL
  clear hL HMax hWa
  by_cases h3 : L.length = 3
  · obtain ⟨b0, b1, b2, rfl⟩ : ∃ b0 b1 b2, L = [b0, b1, b2] := by
      match L, h3 with
      | [b0, b1, b2], _ => exact ⟨b0, b1, b2, rfl⟩
    have q0 := hp b0 (by simp)
    have q1 := hp b1 (by simp)
    have q2 := hp b2 (by simp)
    have HS : Hid (spl s.data.toList = [b0.data.toList, b1.data.toList, b2.data.toList]) := by show _ = _; rw [← HL.out]; rfl
    clear HL hp hl h3
    clear hx6 hl6
    go_wp2
    go_loopw [19] (fun i wr => ∃ (k : Nat) (n0 n1 n2 : Int), k ≤ 3 ∧ i = .int .i64 k ∧ NumsW w.heap.size b0 b1 b2 n0 n1 n2 wr ∧ Below w.heap.size w wr ∧ Hid (0 < k → n0 = val b0.data.toList ∧ numOk b0.data.toList = true) ∧ Hid (1 < k → n1 = val b1.data.toList ∧ numOk b1.data.toList = true) ∧ Hid (2 < k → n2 = val b2.data.toList ∧ numOk b2.data.toList = true)) (fun i _ => 3 - (intOf i).toNat)
    case atStart =>
      exact ⟨0, 0, 0, 0, Nat.zero_le _, rfl, numsW_start _ _ _ _ _ _ _, below_three _ _ _ _, fun h => absurd h (by decide), fun h => absurd h (by decide), fun h => absurd h (by decide)⟩
    case round =>
      obtain ⟨k, n0, n1, n2, hk, rfl, hN, hB, HA, HB, HC⟩ := hrel
      have hV := hW.below hB
      rcases (by omega : k = 0 ∨ k = 1 ∨ k = 2 ∨ k = 3) with rfl | rfl | rfl | rfl
      · have hp0 := hN.p0
        go_wp2_with fail
        refine (parseNumber_walk b0 wr a0 a1 m (by omega) hV).mono ?_
        rintro e w1 ⟨he, hb1⟩
        have hN1 := hN.below hb1
        have hB1 := hB.trans (hb1.mono hB.size)
        have c0 := hN1.c0
        have c1 := hN1.c1
        have c2 := hN1.c2
        have nf := hN1.num
        clear hN hb1 hV hp0
        rcases he with ⟨hn, rfl⟩ | ⟨hn, x, rfl⟩
        · go_wp2
          go_roundw
          case rel => exact ⟨1, val b0.data.toList, n1, n2, by decide, rfl, (hN1.put _).1, hB1.setCell (p := ⟨w.heap.size + 1, 0, none⟩) (by simp) _, fun _ => ⟨rfl, hn⟩, fun h => absurd h (by decide), fun h => absurd h (by decide)⟩
          case measure => simp [intOf]
        · have HN : Hid (¬ ((spl s.data.toList).length = 3 ∧ (spl s.data.toList).all numOk = true)) := by
            show ¬ _
            rw [HS.out]
            simp [hn]
          obtain ⟨v0, r0⟩ := hN1.r0
          obtain ⟨v1, r1⟩ := hN1.r1
          obtain ⟨v2, r2⟩ := hN1.r2
          have rf := hN1.res
          clear hn hN1
          go_wp2
          refine bodyPost_ret (v := .tuple #[.agg #[.int .i64 n0, .int .i64 n1, .int .i64 n2], .iface 142 x]) (by simp [results, Tryz.results67, go_sem, r0, r1, r2]) rfl ⟨Or.inr ⟨HN.out, _, _, _, _, rfl⟩, ?_⟩
          exact ((hB1.setCell (p := ⟨w.heap.size, 0, none⟩) (Nat.le_refl _) _).setCell (p := ⟨w.heap.size, 1, none⟩) (Nat.le_refl _) _).setCell (p := ⟨w.heap.size, 2, none⟩) (Nat.le_refl _) _
      · have hp1 := hN.p1
        go_wp2_with fail
        refine (parseNumber_walk b1 wr a0 a1 m (by omega) hV).mono ?_
        rintro e w1 ⟨he, hb1⟩
        have hN1 := hN.below hb1
        have hB1 := hB.trans (hb1.mono hB.size)
        have c0 := hN1.c0
        have c1 := hN1.c1
        have c2 := hN1.c2
        have nf := hN1.num
        clear hN hb1 hV hp1
        rcases he with ⟨hn, rfl⟩ | ⟨hn, x, rfl⟩
        · go_wp2
          go_roundw
          case rel => exact ⟨2, n0, val b1.data.toList, n2, by decide, rfl, (hN1.put _).2.1, hB1.setCell (p := ⟨w.heap.size + 1, 1, none⟩) (by simp) _, fun _ => HA.out (by decide), fun _ => ⟨rfl, hn⟩, fun h => absurd h (by decide)⟩
          case measure => simp [intOf]
        · have HN : Hid (¬ ((spl s.data.toList).length = 3 ∧ (spl s.data.toList).all numOk = true)) := by
            show ¬ _
            rw [HS.out]
            simp [hn]
          obtain ⟨v0, r0⟩ := hN1.r0
          obtain ⟨v1, r1⟩ := hN1.r1
          obtain ⟨v2, r2⟩ := hN1.r2
          have rf := hN1.res
          clear hn hN1
          go_wp2
          refine bodyPost_ret (v := .tuple #[.agg #[.int .i64 n0, .int .i64 n1, .int .i64 n2], .iface 142 x]) (by simp [results, Tryz.results67, go_sem, r0, r1, r2]) rfl ⟨Or.inr ⟨HN.out, _, _, _, _, rfl⟩, ?_⟩
          exact ((hB1.setCell (p := ⟨w.heap.size, 0, none⟩) (Nat.le_refl _) _).setCell (p := ⟨w.heap.size, 1, none⟩) (Nat.le_refl _) _).setCell (p := ⟨w.heap.size, 2, none⟩) (Nat.le_refl _) _
      · have hp2 := hN.p2
        go_wp2_with fail
        refine (parseNumber_walk b2 wr a0 a1 m (by omega) hV).mono ?_
        rintro e w1 ⟨he, hb1⟩
        have hN1 := hN.below hb1
        have hB1 := hB.trans (hb1.mono hB.size)
        have c0 := hN1.c0
        have c1 := hN1.c1
        have c2 := hN1.c2
        have nf := hN1.num
        clear hN hb1 hV hp2
        rcases he with ⟨hn, rfl⟩ | ⟨hn, x, rfl⟩
        · go_wp2
          go_roundw
          case rel => exact ⟨3, n0, n1, val b2.data.toList, by decide, rfl, (hN1.put _).2.2, hB1.setCell (p := ⟨w.heap.size + 1, 2, none⟩) (by simp) _, fun _ => HA.out (by decide), fun _ => HB.out (by decide), fun _ => ⟨rfl, hn⟩⟩
          case measure => simp [intOf]
        · have HN : Hid (¬ ((spl s.data.toList).length = 3 ∧ (spl s.data.toList).all numOk = true)) := by
            show ¬ _
            rw [HS.out]
            simp [hn]
          obtain ⟨v0, r0⟩ := hN1.r0
          obtain ⟨v1, r1⟩ := hN1.r1
          obtain ⟨v2, r2⟩ := hN1.r2
          have rf := hN1.res
          clear hn hN1
          go_wp2
          refine bodyPost_ret (v := .tuple #[.agg #[.int .i64 n0, .int .i64 n1, .int .i64 n2], .iface 142 x]) (by simp [results, Tryz.results67, go_sem, r0, r1, r2]) rfl ⟨Or.inr ⟨HN.out, _, _, _, _, rfl⟩, ?_⟩
          exact ((hB1.setCell (p := ⟨w.heap.size, 0, none⟩) (Nat.le_refl _) _).setCell (p := ⟨w.heap.size, 1, none⟩) (Nat.le_refl _) _).setCell (p := ⟨w.heap.size, 2, none⟩) (Nat.le_refl _) _
      · obtain ⟨rfl, k0⟩ := HA.out (by decide)
        obtain ⟨rfl, k1⟩ := HB.out (by decide)
        obtain ⟨rfl, k2⟩ := HC.out (by decide)
        have HO : Hid (numOk b0.data.toList = true ∧ numOk b1.data.toList = true ∧ numOk b2.data.toList = true) := ⟨k0, k1, k2⟩
        obtain ⟨v0, r0⟩ := hN.r0
        obtain ⟨v1, r1⟩ := hN.r1
        obtain ⟨v2, r2⟩ := hN.r2
        have rf := hN.res
        have c0 := hN.c0
        have c1 := hN.c1
        have c2 := hN.c2
        clear k0 k1 k2 HA HB HC hV
        go_wp2
        refine bodyPost_ret (v := .tuple #[.agg #[.int .i64 (val b0.data.toList), .int .i64 (val b1.data.toList), .int .i64 (val b2.data.toList)], .nilIface]) (by simp [results, Tryz.results67, go_sem, r0, r1, r2]) rfl ⟨Or.inl ⟨_, _, _, HS.out, HO.out, rfl⟩, ?_⟩
        exact ((hB.setCell (p := ⟨w.heap.size, 0, none⟩) (Nat.le_refl _) _).setCell (p := ⟨w.heap.size, 1, none⟩) (Nat.le_refl _) _).setCell (p := ⟨w.heap.size, 2, none⟩) (Nat.le_refl _) _
  · have h3' : ((L.length : Int) == 3) = false := by rw [beq_eq_false_iff_ne]; omega
    have HN : Hid (¬ ((spl s.data.toList).length = 3 ∧ (spl s.data.toList).all numOk = true)) := by
      show ¬ _
      rw [← HL.out, List.length_map]
      exact fun h => h3 h.1
    clear h3
    have hx6a := cell_below (below_three w (.cells #[.int .i64 0, .int .i64 0, .int .i64 0] 40) (.cells #[.int .i64 0, .int .i64 0, .int .i64 0] 40) (.cells (L.map Value.string).toArray 9)) hx6
    go_wp2
    go_region
    all_goals (try go_wp2)
    exact bodyPost_ret (v := .tuple #[.agg #[.int .i64 0, .int .i64 0, .int .i64 0], .iface 142 x6]) (by simp [results, Tryz.results67, go_sem]) rfl ⟨Or.inr ⟨HN.out, _, _, _, _, rfl⟩, by repeat (first | exact below_three _ _ _ _ | refine Below.drew ?_)⟩
end Go.Proofs.YtoeolaienpopfaaGreatDoor
