/- What the walk of the document's own Version leans on: its two blocks, its cut at the first hyphen, the bytes of marks. -/
import Derived.Test.YtoeolaienpopfaaGreatDoorRefD
namespace Go.Proofs.YtoeolaienpopfaaGreatDoor
open Go.RowKit

theorem cutD_at' (a b : List UInt8) (h : (45 : UInt8) ∉ a) : cutD (a ++ 45 :: b) = (a, b, true) := by
  induction a with
  | nil => simp [cutD]
  | cons c r ih =>
    simp only [List.mem_cons, not_or] at h
    rw [List.cons_append, cutD, if_neg (fun e => h.1 e.symm), ih h.2]
theorem cutD_none' (a : List UInt8) (h : (45 : UInt8) ∉ a) : cutD a = (a, [], false) := by
  induction a with
  | nil => rfl
  | cons c r ih =>
    simp only [List.mem_cons, not_or] at h
    rw [cutD, if_neg (fun e => h.1 e.symm), ih h.2]
/-- The loop that looks for the first hyphen behind the first byte. -/
theorem cut_found (s : ByteArray) (k : Nat) (h1 : 1 ≤ k) (hk : k < s.size) (hx : s[k] = 45) (hn : (45 : UInt8) ∉ (s.data.toList.drop 1).take (k - 1)) :
    cutD (s.data.toList.drop 1) = ((s.extract 1 k).data.toList, (s.extract (k + 1) s.size).data.toList, true) := by
  have hd : s.data.toList.drop 1 = (s.data.toList.drop 1).take (k - 1) ++ 45 :: s.data.toList.drop (k + 1) := by
    have h1' := (List.take_append_drop (k - 1) (s.data.toList.drop 1)).symm
    rw [List.drop_drop, show 1 + (k - 1) = k by omega, drop_at s k hk, hx] at h1'
    exact h1'
  conv => lhs; rw [hd]
  rw [cutD_at' _ _ hn, extract_list, extract_list]
  have : (s.data.toList.drop (k + 1)).take (s.size - (k + 1)) = s.data.toList.drop (k + 1) := List.take_of_length_le (by simp)
  rw [this]
theorem cut_not (s : ByteArray) (hn : (45 : UInt8) ∉ s.data.toList.drop 1) : cutD (s.data.toList.drop 1) = ((s.extract 1 s.size).data.toList, (⟨#[]⟩ : ByteArray).data.toList, false) := by
  rw [cutD_none' _ hn, extract_list]
  have : (s.data.toList.drop 1).take (s.size - 1) = s.data.toList.drop 1 := List.take_of_length_le (by simp)
  rw [this]

/-- The alphabet of marks: digits, small letters, capitals, the hyphen. -/
def markBytes : List UInt8 := [48, 49, 50, 51, 52, 53, 54, 55, 56, 57, 97, 98, 99, 100, 101, 102, 103, 104, 105, 106, 107, 108, 109, 110, 111, 112, 113, 114, 115, 116, 117, 118, 119, 120, 121, 122, 65, 66, 67, 68, 69, 70, 71, 72, 73, 74, 75, 76, 77, 78, 79, 80, 81, 82, 83, 84, 85, 86, 87, 88, 89, 90, 45]
theorem u8_all (P : UInt8 → Bool) (h : ((List.range 256).all fun n => P n.toUInt8) = true) (c : UInt8) : P c = true := by
  have := List.all_eq_true.1 h c.toNat (List.mem_range.2 (by have := c.toNat_lt; omega))
  rwa [show c.toNat.toUInt8 = c by simp] at this
theorem mark_contains (c : UInt8) : hasB markBytes c = markB c := by
  have := u8_all (fun c => hasB markBytes c == markB c) (by decide +kernel) c
  simpa using this
theorem made_mark (l : List UInt8) : madeB l markBytes = (l.all markB && !l.isEmpty) := by
  unfold madeB
  rw [show hasB markBytes = markB from funext mark_contains]
/-- What the document asks of a mark, by made and number, is what markOk tells. -/
theorem mark_test (l : List UInt8) : markOk l = !(!madeB l markBytes || (madeB l [48, 49, 50, 51, 52, 53, 54, 55, 56, 57] && decide (numI l < 0))) := by
  rw [made_mark, made_ten, markOk, isNum]
  have hneg : decide (numI l < 0) = !numOk l := by
    by_cases h : numOk l = true
    · rw [h]; have := (numI_ge h).1; simp; omega
    · have h : numOk l = false := by simpa using h
      rw [h, numI_no h]; rfl
  rw [hneg]
  cases l.isEmpty <;> cases l.all markB <;> cases l.all digB <;> cases numOk l <;> rfl

/-- A version's value in memory, the document's own. -/
def RVerIs (w : World) (vv : Value) (x : List (List UInt8) × List (List UInt8)) : Prop :=
  ∃ p0 p1 p2 mv L, x = ([p0, p1, p2], L.map (fun b : ByteArray => b.data.toList)) ∧ vv = .agg #[.int .i64 (val p0), .int .i64 (val p1), .int .i64 (val p2), mv] ∧ StrsAt w mv L
theorem RVerIs.below {w w' : World} {vv : Value} {x : List (List UInt8) × List (List UInt8)} (h : RVerIs w vv x) (hb : Below w.heap.size w w') : RVerIs w' vv x := by
  obtain ⟨p0, p1, p2, mv, L, e1, e2, hm⟩ := h
  exact ⟨p0, p1, p2, mv, L, e1, e2, hm.below hb⟩
theorem StrsAt.slice {w : World} {v : Value} {L : List ByteArray} (h : StrsAt w v L) : ∃ ao cap, v = .slice ao L.length cap := by
  obtain ⟨base, _, h⟩ := h
  rcases h.2 with ⟨rfl, h0⟩ | ⟨g, cap, cur, rfl, _⟩
  · exact ⟨none, 0, by rw [h0]⟩
  · exact ⟨_, cap, rfl⟩
theorem strsAt_nil (w : World) : StrsAt w (.slice none 0 0) [] := ⟨0, by decide, World.ownsRow_nil _ _ _ _⟩
theorem StrsAt.at {w : World} {v : Value} {L : List ByteArray} (h : StrsAt w v L) (hl : 0 < L.length) : ∃ g cap, v = .slice (some ⟨g, 0, none⟩) L.length cap ∧ g < w.heap.size ∧ L.length ≤ cap ∧ ∀ k (hk : k < L.length), w.cell? ⟨g, k, none⟩ = some (.string L[k]) := by
  obtain ⟨base, _, h⟩ := h
  have h2 := h
  rcases h.2 with ⟨rfl, h0⟩ | ⟨g, cap, cur, rfl, _, hg, hc, _⟩
  · omega
  · refine ⟨g, cap, rfl, lt_of_block hg, hc, fun k hk => ?_⟩
    have := h2.cellAt k (by omega)
    rw [this]; simp [hk]
theorem StrsAt.set1 {w : World} {v : Value} {L : List ByteArray} (h : StrsAt w v L) (k o : Nat) (hk : ∃ c, w.heap[k]? = some (.cells c 43 (0, 0))) (a : Value) : StrsAt (w.setCell ⟨k, o, none⟩ a) v L := by
  obtain ⟨base, hl, h⟩ := h
  refine ⟨base, hl, h.kept (row := some k) ⟨rfl, rfl, rfl, by simp, fun j _ hj => Below.heap_setCell _ _ _ _ (fun e => hj (by rw [e]))⟩ ?_⟩
  rcases h.2 with ⟨rfl, _⟩ | ⟨g, cap, cur, rfl, _, hg, _⟩
  · left; rfl
  · right
    intro e
    simp only [Value.ownBlock, Option.some.injEq] at e
    subst e
    obtain ⟨c, hc⟩ := hk
    rw [hc] at hg
    cases hg
theorem StrsAt.set4 {w : World} {v : Value} {L : List ByteArray} (h : StrsAt w v L) (k : Nat) (hk : ∃ c, w.heap[k]? = some (.cells c 43 (0, 0))) (a b c d : Value) :
    StrsAt ((((w.setCell ⟨k, 0, none⟩ a).setCell ⟨k, 1, none⟩ b).setCell ⟨k, 2, none⟩ c).setCell ⟨k, 3, none⟩ d) v L := by
  obtain ⟨base, hl, h⟩ := h
  refine ⟨base, hl, h.kept (row := some k) ⟨rfl, rfl, rfl, by simp, fun j _ hj => ?_⟩ ?_⟩
  · have hjk : j ≠ k := fun e => hj (by rw [e])
    rw [Below.heap_setCell _ _ _ _ hjk, Below.heap_setCell _ _ _ _ hjk, Below.heap_setCell _ _ _ _ hjk, Below.heap_setCell _ _ _ _ hjk]
  · rcases h.2 with ⟨rfl, _⟩ | ⟨g, cap, cur, rfl, _, hg, _⟩
    · left; rfl
    · right
      intro e
      simp only [Value.ownBlock, Option.some.injEq] at e
      subst e
      obtain ⟨c, hc⟩ := hk
      rw [hc] at hg
      cases hg

/-- The two blocks of Version: the result's, and v's with what it holds. -/
structure RVW (B : Nat) (n0 n1 n2 : Int) (mv : Value) (w : World) : Prop where
  blk0 : ∃ c, w.heap[B]? = some (.cells c 43 (0, 0))
  blk1 : ∃ c, w.heap[B + 1]? = some (.cells c 43 (0, 0))
  r0 : ∃ v, w.cell? ⟨B, 0, none⟩ = some v
  r1 : ∃ v, w.cell? ⟨B, 1, none⟩ = some v
  r2 : ∃ v, w.cell? ⟨B, 2, none⟩ = some v
  r3 : ∃ v, w.cell? ⟨B, 3, none⟩ = some v
  c0 : w.cell? ⟨B + 1, 0, none⟩ = some (.int .i64 n0)
  c1 : w.cell? ⟨B + 1, 1, none⟩ = some (.int .i64 n1)
  c2 : w.cell? ⟨B + 1, 2, none⟩ = some (.int .i64 n2)
  c3 : w.cell? ⟨B + 1, 3, none⟩ = some mv
theorem frozen_blk {w : World} {b : Nat} {c : Array Value} {t : TypeId} (h : w.heap[b]? = some (.cells c t (0, 0))) (o : Nat) : w.frozen? ⟨b, o, none⟩ = false := by
  simp [World.frozen?, h]
theorem RVW.rf {B : Nat} {n0 n1 n2 : Int} {mv : Value} {w : World} (h : RVW B n0 n1 n2 mv w) (o : Nat) : w.frozen? ⟨B, o, none⟩ = false := by
  obtain ⟨c, hc⟩ := h.blk0; exact frozen_blk hc o
theorem RVW.vf {B : Nat} {n0 n1 n2 : Int} {mv : Value} {w : World} (h : RVW B n0 n1 n2 mv w) (o : Nat) : w.frozen? ⟨B + 1, o, none⟩ = false := by
  obtain ⟨c, hc⟩ := h.blk1; exact frozen_blk hc o
theorem RVW.below {B : Nat} {n0 n1 n2 : Int} {mv : Value} {w w' : World} (h : RVW B n0 n1 n2 mv w) (hb : Below w.heap.size w w') : RVW B n0 n1 n2 mv w' := by
  obtain ⟨⟨c, hc⟩, ⟨d, hd⟩, ⟨v0, e0⟩, ⟨v1, e1⟩, ⟨v2, e2⟩, ⟨v3, e3⟩, c0, c1, c2, c3⟩ := h
  exact ⟨⟨c, by rw [hb.block _ (lt_of_block hc)]; exact hc⟩, ⟨d, by rw [hb.block _ (lt_of_block hd)]; exact hd⟩, ⟨v0, cell_below hb e0⟩, ⟨v1, cell_below hb e1⟩, ⟨v2, cell_below hb e2⟩, ⟨v3, cell_below hb e3⟩,
    cell_below hb c0, cell_below hb c1, cell_below hb c2, cell_below hb c3⟩
theorem blk_set {w : World} {b : Nat} {t : TypeId} (h : ∃ c, w.heap[b]? = some (.cells c t (0, 0))) (x : Addr) (u : Value) : ∃ c, (w.setCell x u).heap[b]? = some (.cells c t (0, 0)) := by
  obtain ⟨c, hc⟩ := h
  by_cases e : b = x.block
  · subst e
    simp only [World.setCell, Array.getElem?_modify, if_true, hc, Option.map_some]
    exact ⟨_, rfl⟩
  · exact ⟨c, by rw [Below.heap_setCell _ _ _ _ e]; exact hc⟩
theorem RVW.put {B : Nat} {n0 n1 n2 : Int} {mv : Value} {w : World} (h : RVW B n0 n1 n2 mv w) :
    (∀ v : Int, RVW B v n1 n2 mv (w.setCell ⟨B + 1, 0, none⟩ (.int .i64 v))) ∧ (∀ v : Int, RVW B n0 v n2 mv (w.setCell ⟨B + 1, 1, none⟩ (.int .i64 v))) ∧ (∀ v : Int, RVW B n0 n1 v mv (w.setCell ⟨B + 1, 2, none⟩ (.int .i64 v))) ∧ (∀ v : Value, RVW B n0 n1 n2 v (w.setCell ⟨B + 1, 3, none⟩ v)) := by
  obtain ⟨k0, k1, ⟨v0, r0⟩, ⟨v1, r1⟩, ⟨v2, r2⟩, ⟨v3, r3⟩, c0, c1, c2, c3⟩ := h
  have oth : ∀ (j : Nat) (x : Addr) (u v : Value), (⟨B + 1, j, none⟩ : Addr) ≠ x → w.cell? x = some u → (w.setCell ⟨B + 1, j, none⟩ v).cell? x = some u := fun j x u v hne h => by
    rw [World.cell?_setCell_other _ _ _ _ hne]; exact h
  exact ⟨fun v => ⟨blk_set k0 _ _, blk_set k1 _ _, ⟨v0, oth 0 _ _ _ (by simp) r0⟩, ⟨v1, oth 0 _ _ _ (by simp) r1⟩, ⟨v2, oth 0 _ _ _ (by simp) r2⟩, ⟨v3, oth 0 _ _ _ (by simp) r3⟩, World.cell?_setCell_same _ _ _ c0, oth 0 _ _ _ (by simp) c1, oth 0 _ _ _ (by simp) c2, oth 0 _ _ _ (by simp) c3⟩,
    fun v => ⟨blk_set k0 _ _, blk_set k1 _ _, ⟨v0, oth 1 _ _ _ (by simp) r0⟩, ⟨v1, oth 1 _ _ _ (by simp) r1⟩, ⟨v2, oth 1 _ _ _ (by simp) r2⟩, ⟨v3, oth 1 _ _ _ (by simp) r3⟩, oth 1 _ _ _ (by simp) c0, World.cell?_setCell_same _ _ _ c1, oth 1 _ _ _ (by simp) c2, oth 1 _ _ _ (by simp) c3⟩,
    fun v => ⟨blk_set k0 _ _, blk_set k1 _ _, ⟨v0, oth 2 _ _ _ (by simp) r0⟩, ⟨v1, oth 2 _ _ _ (by simp) r1⟩, ⟨v2, oth 2 _ _ _ (by simp) r2⟩, ⟨v3, oth 2 _ _ _ (by simp) r3⟩, oth 2 _ _ _ (by simp) c0, oth 2 _ _ _ (by simp) c1, World.cell?_setCell_same _ _ _ c2, oth 2 _ _ _ (by simp) c3⟩,
    fun v => ⟨blk_set k0 _ _, blk_set k1 _ _, ⟨v0, oth 3 _ _ _ (by simp) r0⟩, ⟨v1, oth 3 _ _ _ (by simp) r1⟩, ⟨v2, oth 3 _ _ _ (by simp) r2⟩, ⟨v3, oth 3 _ _ _ (by simp) r3⟩, oth 3 _ _ _ (by simp) c0, oth 3 _ _ _ (by simp) c1, oth 3 _ _ _ (by simp) c2, World.cell?_setCell_same _ _ _ c3⟩⟩
theorem rvw_start (w : World) : RVW w.heap.size 0 0 0 (.slice none 0 0) ((w.alloc (.cells #[.int .i64 0, .int .i64 0, .int .i64 0, .slice none 0 0] 43)).alloc (.cells #[.int .i64 0, .int .i64 0, .int .i64 0, .slice none 0 0] 43)) where
  blk0 := ⟨_, by rw [Below.heap_alloc _ _ _ (by simp)]; exact heap_alloc_new w _⟩
  blk1 := ⟨_, by have := heap_alloc_new (w.alloc (.cells #[.int .i64 0, .int .i64 0, .int .i64 0, .slice none 0 0] 43)) (.cells #[.int .i64 0, .int .i64 0, .int .i64 0, .slice none 0 0] 43); simpa using this⟩
  r0 := ⟨_, by rw [World.cell?_alloc2_first]; rfl⟩
  r1 := ⟨_, by rw [World.cell?_alloc2_first]; rfl⟩
  r2 := ⟨_, by rw [World.cell?_alloc2_first]; rfl⟩
  r3 := ⟨_, by rw [World.cell?_alloc2_first]; rfl⟩
  c0 := by rw [World.cell?_alloc2_new]; rfl
  c1 := by rw [World.cell?_alloc2_new]; rfl
  c2 := by rw [World.cell?_alloc2_new]; rfl
  c3 := by rw [World.cell?_alloc2_new]; rfl
end Go.Proofs.YtoeolaienpopfaaGreatDoor
