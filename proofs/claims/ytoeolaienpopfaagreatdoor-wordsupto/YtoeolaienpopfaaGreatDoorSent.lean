/- What satchel.number tells of nil, and of a fault that is each of the errors that it asks for. -/
import Derived.Test.YtoeolaienpopfaaGreatDoorErr
import Derived.Test.YtoeolaienpopfaaGreatDoorMem
namespace Go.Proofs.YtoeolaienpopfaaGreatDoor
open Go.RowKit Go.Extern.Stop Go.Stop Go.Extern

/-- The errors that number asks for, each in a row of its own; errors.errorType. -/
structure Sent (ad : Nat → Addr) (w : World) : Prop where
  c0 : w.cell? ⟨0, 0, none⟩ = some (.iface 142 (.pointer (some (ad 0))))
  c1 : w.cell? ⟨1, 0, none⟩ = some (.iface 142 (.pointer (some (ad 1))))
  c2 : w.cell? ⟨2, 0, none⟩ = some (.iface 142 (.pointer (some (ad 2))))
  c3 : w.cell? ⟨3, 0, none⟩ = some (.iface 142 (.pointer (some (ad 3))))
  c4 : w.cell? ⟨4, 0, none⟩ = some (.iface 142 (.pointer (some (ad 4))))
  c5 : w.cell? ⟨5, 0, none⟩ = some (.iface 142 (.pointer (some (ad 5))))
  c6 : w.cell? ⟨6, 0, none⟩ = some (.iface 142 (.pointer (some (ad 6))))
  c7 : w.cell? ⟨7, 0, none⟩ = some (.iface 142 (.pointer (some (ad 7))))
  c8 : w.cell? ⟨8, 0, none⟩ = some (.iface 142 (.pointer (some (ad 8))))
  c9 : w.cell? ⟨9, 0, none⟩ = some (.iface 142 (.pointer (some (ad 9))))
  c10 : w.cell? ⟨10, 0, none⟩ = some (.iface 142 (.pointer (some (ad 10))))
  c11 : w.cell? ⟨11, 0, none⟩ = some (.iface 142 (.pointer (some (ad 11))))
  c12 : w.cell? ⟨12, 0, none⟩ = some (.iface 142 (.pointer (some (ad 12))))
  c13 : w.cell? ⟨13, 0, none⟩ = some (.iface 142 (.pointer (some (ad 13))))
  c14 : w.cell? ⟨14, 0, none⟩ = some (.iface 142 (.pointer (some (ad 14))))
  typ : w.cell? ⟨18, 0, none⟩ = some (.iface 101 (.agg #[.pointer (some ⟨26, 37, none⟩)]))
  ne : ∀ i j, i < 15 → j < 15 → i ≠ j → ad i ≠ ad j
  row : ∀ i, i < 15 → ∃ c t, w.heap[(ad i).block]? = some (.cells c t (0, 0))
theorem Sent.below {ad : Nat → Addr} {w w' : World} (h : Sent ad w) (hb : Below w.heap.size w w') : Sent ad w' where
  c0 := cell_below hb h.c0
  c1 := cell_below hb h.c1
  c2 := cell_below hb h.c2
  c3 := cell_below hb h.c3
  c4 := cell_below hb h.c4
  c5 := cell_below hb h.c5
  c6 := cell_below hb h.c6
  c7 := cell_below hb h.c7
  c8 := cell_below hb h.c8
  c9 := cell_below hb h.c9
  c10 := cell_below hb h.c10
  c11 := cell_below hb h.c11
  c12 := cell_below hb h.c12
  c13 := cell_below hb h.c13
  c14 := cell_below hb h.c14
  typ := cell_below hb h.typ
  ne := h.ne
  row := fun i hi => by obtain ⟨c, t, e⟩ := h.row i hi; exact ⟨c, t, by rw [hb.block _ (lt_of_block e)]; exact e⟩

theorem number_nil (w : World) : Calls Tryz.prog 15 #[.nilIface] w fun e w' => e = .returned (.int .i64 0) ∧ w' = w := by
  go_enter Tryz.func15, Tryz.ntmps15
  go_wp2
  go_ret
  exact ⟨rfl, rfl⟩

/-- errors.As in number, where the target is the newest block: below it nothing turns; the target points to the fault. -/
theorem as_new (e : Addr) (w : World) (hg : w.cell? ⟨18, 0, none⟩ = some (.iface 101 (.agg #[.pointer (some ⟨26, 37, none⟩)]))) :
    Calls Tryz.prog 26 #[.iface 54 (.pointer (some e)), .iface 56 (.pointer (some ⟨w.heap.size, 0, none⟩))] (w.alloc (.cells #[.pointer none] 54)) fun ev w' => ev = .returned (.bool true) ∧ w'.cell? ⟨w.heap.size, 0, none⟩ = some (.pointer (some e)) ∧ Below w.heap.size w w' := by
  have hgA : (w.alloc (.cells #[.pointer none] 54)).cell? ⟨18, 0, none⟩ = some (.iface 101 (.agg #[.pointer (some ⟨26, 37, none⟩)])) := by
    rw [World.cell?_alloc_lt _ _ ⟨18, 0, none⟩ (lt_of_cell hg)]; exact hg
  have htA : (w.alloc (.cells #[.pointer none] 54)).cell? ⟨w.heap.size, 0, none⟩ = some (.pointer none) := by simp
  have hfA : (w.alloc (.cells #[.pointer none] 54)).frozen? ⟨w.heap.size, 0, none⟩ = false := by simp
  refine (as_hit e _ (.pointer none) _ hgA htA hfA).mono ?_
  rintro ev w' ⟨rfl, rfl⟩
  refine ⟨rfl, ?_, ?_⟩
  · refine World.cell?_setCell_same _ _ _ (u := .pointer none) ?_
    rw [World.cell?_alloc_lt _ _ ⟨w.heap.size, 0, none⟩ (by simp; omega), World.cell?_alloc_lt _ _ ⟨w.heap.size, 0, none⟩ (by simp; omega), World.cell?_alloc_lt _ _ ⟨w.heap.size, 0, none⟩ (by simp; omega), World.cell?_alloc_lt _ _ ⟨w.heap.size, 0, none⟩ (by simp), htA]
  · exact (((((((Below.refl _ w).alloc (Nat.le_refl _) _).alloc (by simp) _).alloc (by simp; omega) _).alloc (by simp; omega) _).alloc (by simp; omega) _).setCell (p := ⟨w.heap.size, 0, none⟩) (Nat.le_refl _) _)

theorem number_name (b : Nat) (ad : Nat → Addr) (w : World) (hs : Sent ad w) (hp : w.cell? ⟨b, 0, none⟩ = some (.iface 142 (.pointer (some (ad 3))))) :
    Calls Tryz.prog 15 #[.iface 54 (.pointer (some ⟨b, 0, none⟩))] w fun e w' => e = .returned (.int .i64 4) ∧ Below w.heap.size w w' := by
  have hg := hs.typ
  go_enter Tryz.func15, Tryz.ntmps15
  go_wp2_with (go_at_call 26; refine (as_new _ _ hg).mono ?_)
  rintro e w1 ⟨rfl, ht, hb⟩
  have hS := hs.below hb
  have hp1 := cell_below hb hp
  clear hg hs hp
  have k0 := hS.c0
  obtain ⟨x0, t0, r0⟩ := hS.row 0 (by decide)
  have k1 := hS.c1
  obtain ⟨x1, t1, r1⟩ := hS.row 1 (by decide)
  have k2 := hS.c2
  obtain ⟨x2, t2, r2⟩ := hS.row 2 (by decide)
  have k3 := hS.c3
  obtain ⟨x3, t3, r3⟩ := hS.row 3 (by decide)
  have n0 := hS.ne 3 0 (by decide) (by decide) (by decide)
  have n1 := hS.ne 3 1 (by decide) (by decide) (by decide)
  have n2 := hS.ne 3 2 (by decide) (by decide) (by decide)
  clear hS
  generalize ad 0 = a0 at *
  generalize ad 1 = a1 at *
  generalize ad 2 = a2 at *
  generalize ad 3 = a3 at *
  go_wp2_with fail
  refine (is_other a3 a0 x3 x0 t3 t0 _ n0 r3 r0).mono ?_
  rintro e w' ⟨rfl, rfl⟩
  go_wp2_with fail
  refine (is_other a3 a1 x3 x1 t3 t1 _ n1 r3 r1).mono ?_
  rintro e w' ⟨rfl, rfl⟩
  go_wp2_with fail
  refine (is_other a3 a2 x3 x2 t3 t2 _ n2 r3 r2).mono ?_
  rintro e w' ⟨rfl, rfl⟩
  go_wp2_with fail
  refine (is_same a3 _).mono ?_
  rintro e w' ⟨rfl, rfl⟩
  go_wp2
  go_ret
  exact ⟨rfl, hb⟩

theorem number_version (b : Nat) (ad : Nat → Addr) (w : World) (hs : Sent ad w) (hp : w.cell? ⟨b, 0, none⟩ = some (.iface 142 (.pointer (some (ad 4))))) :
    Calls Tryz.prog 15 #[.iface 54 (.pointer (some ⟨b, 0, none⟩))] w fun e w' => e = .returned (.int .i64 5) ∧ Below w.heap.size w w' := by
  have hg := hs.typ
  go_enter Tryz.func15, Tryz.ntmps15
  go_wp2_with (go_at_call 26; refine (as_new _ _ hg).mono ?_)
  rintro e w1 ⟨rfl, ht, hb⟩
  have hS := hs.below hb
  have hp1 := cell_below hb hp
  clear hg hs hp
  have k0 := hS.c0
  obtain ⟨x0, t0, r0⟩ := hS.row 0 (by decide)
  have k1 := hS.c1
  obtain ⟨x1, t1, r1⟩ := hS.row 1 (by decide)
  have k2 := hS.c2
  obtain ⟨x2, t2, r2⟩ := hS.row 2 (by decide)
  have k3 := hS.c3
  obtain ⟨x3, t3, r3⟩ := hS.row 3 (by decide)
  have k4 := hS.c4
  obtain ⟨x4, t4, r4⟩ := hS.row 4 (by decide)
  have n0 := hS.ne 4 0 (by decide) (by decide) (by decide)
  have n1 := hS.ne 4 1 (by decide) (by decide) (by decide)
  have n2 := hS.ne 4 2 (by decide) (by decide) (by decide)
  have n3 := hS.ne 4 3 (by decide) (by decide) (by decide)
  clear hS
  generalize ad 0 = a0 at *
  generalize ad 1 = a1 at *
  generalize ad 2 = a2 at *
  generalize ad 3 = a3 at *
  generalize ad 4 = a4 at *
  go_wp2_with fail
  refine (is_other a4 a0 x4 x0 t4 t0 _ n0 r4 r0).mono ?_
  rintro e w' ⟨rfl, rfl⟩
  go_wp2_with fail
  refine (is_other a4 a1 x4 x1 t4 t1 _ n1 r4 r1).mono ?_
  rintro e w' ⟨rfl, rfl⟩
  go_wp2_with fail
  refine (is_other a4 a2 x4 x2 t4 t2 _ n2 r4 r2).mono ?_
  rintro e w' ⟨rfl, rfl⟩
  go_wp2_with fail
  refine (is_other a4 a3 x4 x3 t4 t3 _ n3 r4 r3).mono ?_
  rintro e w' ⟨rfl, rfl⟩
  go_wp2_with fail
  refine (is_same a4 _).mono ?_
  rintro e w' ⟨rfl, rfl⟩
  go_wp2
  go_ret
  exact ⟨rfl, hb⟩
end Go.Proofs.YtoeolaienpopfaaGreatDoor
