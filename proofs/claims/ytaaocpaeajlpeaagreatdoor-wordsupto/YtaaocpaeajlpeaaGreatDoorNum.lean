/- What satchel.number tells of nil, of a fault that is ErrName, and of one that is ErrVersion. -/
import Derived.Test.YtaaocpaeajlpeaaGreatDoorErr
namespace Go.Proofs.YtaaocpaeajlpeaaGreatDoor
open Go.RowKit Go.Extern.Stop Go.Stop Go.Extern

/-- The sentinels that the walks ask for: ErrName at a0, ErrVersion at a1, each in a row of its own; errors.errorType. -/
structure Sents (a0 a1 : Addr) (w : World) : Prop where
  nam : w.cell? ⟨0, 0, none⟩ = some (.iface 142 (.pointer (some a0)))
  ver : w.cell? ⟨1, 0, none⟩ = some (.iface 142 (.pointer (some a1)))
  typ : w.cell? ⟨5, 0, none⟩ = some (.iface 101 (.agg #[.pointer (some ⟨13, 37, none⟩)]))
  ne : a0 ≠ a1
  row0 : ∃ c t, w.heap[a0.block]? = some (.cells c t (0, 0))
  row1 : ∃ c t, w.heap[a1.block]? = some (.cells c t (0, 0))

theorem lt_of_cell {w : World} {a : Addr} {v : Value} (h : w.cell? a = some v) : a.block < w.heap.size := by
  rcases Nat.lt_or_ge a.block w.heap.size with h' | h'
  · exact h'
  · simp [World.cell?, Array.getElem?_eq_none h'] at h
theorem lt_of_block {w : World} {n : Nat} {o : Obj} (h : w.heap[n]? = some o) : n < w.heap.size := by
  rcases Nat.lt_or_ge n w.heap.size with h' | h'
  · exact h'
  · simp [Array.getElem?_eq_none h'] at h
theorem cell_below {w w' : World} {a : Addr} {v : Value} (hb : Below w.heap.size w w') (h : w.cell? a = some v) : w'.cell? a = some v := by
  rw [hb.cell (p := a) (lt_of_cell h)]; exact h
theorem Sents.below {a0 a1 : Addr} {w w' : World} (h : Sents a0 a1 w) (hb : Below w.heap.size w w') : Sents a0 a1 w' where
  nam := cell_below hb h.nam
  ver := cell_below hb h.ver
  typ := cell_below hb h.typ
  ne := h.ne
  row0 := by obtain ⟨c, t, e⟩ := h.row0; exact ⟨c, t, by rw [hb.block _ (lt_of_block e)]; exact e⟩
  row1 := by obtain ⟨c, t, e⟩ := h.row1; exact ⟨c, t, by rw [hb.block _ (lt_of_block e)]; exact e⟩

theorem number_nil (w : World) : Calls Tryz.prog 15 #[.nilIface] w fun e w' => e = .returned (.int .i64 0) ∧ w' = w := by
  go_enter Tryz.func15, Tryz.ntmps15
  go_wp2
  go_ret
  exact ⟨rfl, rfl⟩

/-- errors.As in number, where the target is the newest block: below it nothing turns; the target points to the fault. -/
theorem as_new (e : Addr) (w : World) (hg : w.cell? ⟨5, 0, none⟩ = some (.iface 101 (.agg #[.pointer (some ⟨13, 37, none⟩)]))) :
    Calls Tryz.prog 26 #[.iface 54 (.pointer (some e)), .iface 56 (.pointer (some ⟨w.heap.size, 0, none⟩))] (w.alloc (.cells #[.pointer none] 54)) fun ev w' => ev = .returned (.bool true) ∧ w'.cell? ⟨w.heap.size, 0, none⟩ = some (.pointer (some e)) ∧ Below w.heap.size w w' := by
  have hgA : (w.alloc (.cells #[.pointer none] 54)).cell? ⟨5, 0, none⟩ = some (.iface 101 (.agg #[.pointer (some ⟨13, 37, none⟩)])) := by
    rw [World.cell?_alloc_lt _ _ ⟨5, 0, none⟩ (lt_of_cell hg)]; exact hg
  have htA : (w.alloc (.cells #[.pointer none] 54)).cell? ⟨w.heap.size, 0, none⟩ = some (.pointer none) := by simp
  have hfA : (w.alloc (.cells #[.pointer none] 54)).frozen? ⟨w.heap.size, 0, none⟩ = false := by simp
  refine (as_hit e _ (.pointer none) _ hgA htA hfA).mono ?_
  rintro ev w' ⟨rfl, rfl⟩
  refine ⟨rfl, ?_, ?_⟩
  · refine World.cell?_setCell_same _ _ _ (u := .pointer none) ?_
    rw [World.cell?_alloc_lt _ _ ⟨w.heap.size, 0, none⟩ (by simp; omega), World.cell?_alloc_lt _ _ ⟨w.heap.size, 0, none⟩ (by simp; omega), World.cell?_alloc_lt _ _ ⟨w.heap.size, 0, none⟩ (by simp; omega), World.cell?_alloc_lt _ _ ⟨w.heap.size, 0, none⟩ (by simp), htA]
  · exact (((((((Below.refl _ w).alloc (Nat.le_refl _) _).alloc (by simp) _).alloc (by simp; omega) _).alloc (by simp; omega) _).alloc (by simp; omega) _).setCell (p := ⟨w.heap.size, 0, none⟩) (Nat.le_refl _) _)

theorem bcell {W w1 : World} (hb : Below W.heap.size W w1) : (∀ b o, b < W.heap.size → w1.cell? ⟨b, o, none⟩ = W.cell? ⟨b, o, none⟩) ∧ (∀ b o, b < W.heap.size → w1.frozen? ⟨b, o, none⟩ = W.frozen? ⟨b, o, none⟩) :=
  ⟨fun b o h => hb.cell (p := ⟨b, o, none⟩) h, fun b o h => hb.frozen (p := ⟨b, o, none⟩) h⟩

theorem number_name (b : Nat) (a0 a1 : Addr) (w : World) (hs : Sents a0 a1 w) (hp : w.cell? ⟨b, 0, none⟩ = some (.iface 142 (.pointer (some a0)))) :
    Calls Tryz.prog 15 #[.iface 54 (.pointer (some ⟨b, 0, none⟩))] w fun e w' => e = .returned (.int .i64 4) ∧ Below w.heap.size w w' := by
  have hg := hs.typ
  go_enter Tryz.func15, Tryz.ntmps15
  go_wp2_with (go_at_call 26; refine (as_new _ _ hg).mono ?_)
  rintro e w1 ⟨rfl, ht, hb⟩
  have hn1 := (hs.below hb).nam
  have hp1 := cell_below hb hp
  clear hg hs hp
  go_wp2_with (go_at_call 27; refine (is_same _ _).mono ?_; rintro e w' ⟨rfl, rfl⟩)
  go_ret
  exact ⟨rfl, hb⟩

theorem number_version (b : Nat) (a0 a1 : Addr) (w : World) (hs : Sents a0 a1 w) (hp : w.cell? ⟨b, 0, none⟩ = some (.iface 142 (.pointer (some a1)))) :
    Calls Tryz.prog 15 #[.iface 54 (.pointer (some ⟨b, 0, none⟩))] w fun e w' => e = .returned (.int .i64 5) ∧ Below w.heap.size w w' := by
  have hg := hs.typ
  go_enter Tryz.func15, Tryz.ntmps15
  go_wp2_with (go_at_call 26; refine (as_new _ _ hg).mono ?_)
  rintro e w1 ⟨rfl, ht, hb⟩
  have hn1 := (hs.below hb).nam
  have hv1 := (hs.below hb).ver
  obtain ⟨c0, t0, hr0⟩ := (hs.below hb).row0
  obtain ⟨c1, t1, hr1⟩ := (hs.below hb).row1
  have hne := hs.ne
  have hp1 := cell_below hb hp
  clear hg hs hp
  go_wp2_with fail
  refine (is_other a1 a0 c1 c0 t1 t0 _ hne.symm hr1 hr0).mono ?_
  rintro e w' ⟨rfl, rfl⟩
  go_wp2_with fail
  refine (is_same a1 _).mono ?_
  rintro e w' ⟨rfl, rfl⟩
  go_wp2
  go_ret
  exact ⟨rfl, hb⟩
end Go.Proofs.YtaaocpaeajlpeaaGreatDoor
