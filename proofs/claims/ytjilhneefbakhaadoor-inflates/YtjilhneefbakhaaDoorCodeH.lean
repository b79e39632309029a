/- The codes that a block tells. -/
import Derived.Test.YtjilhneefbakhaaDoorCodeG
namespace Go.Proofs.YtjilhneefbakhaaDoor.Inf
open Go.RowKit Go.Proofs.YtjilhneefbakhaaDoor.Sha

/-- Where the symbols lie: at lo or above. -/
def Fresh (lo : Nat) (V : List Value) : Prop := ∀ l' v, V = codeV l' v → ∀ g n c, v = .slice (some ⟨g, 0, none⟩) n c → lo ≤ g
theorem Fresh.mono {lo lo' : Nat} {V : List Value} (h : Fresh lo V) (hl : lo' ≤ lo) : Fresh lo' V := fun l' v hv g n c hg => Nat.le_trans hl (h l' v hv g n c hg)
theorem ownP_inv {s : ByteArray} {pos : Nat} (h : ownP s pos ≠ none) : pos + 14 ≤ 8 * s.size ∧ pos + 14 + 3 * (4 + bitsVal s (pos + 10) 4) ≤ 8 * s.size ∧ bitsVal s pos 5 ≤ 29 ∧ bitsVal s (pos + 5) 5 ≤ 29 ∧ full (clens s (pos + 14) (4 + bitsVal s (pos + 10) 4)) ∧
    ∃ l p, lenG (clens s (pos + 14) (4 + bitsVal s (pos + 10) 4)) s (258 + bitsVal s pos 5 + bitsVal s (pos + 5) 5) (258 + bitsVal s pos 5 + bitsVal s (pos + 5) 5) [] (pos + 14 + 3 * (4 + bitsVal s (pos + 10) 4)) = some (l, p) ∧ l.getD 256 0 ≠ 0 ∧ full (l.take (257 + bitsVal s pos 5)) ∧ (full (l.drop (257 + bitsVal s pos 5)) ∨ loneP (l.drop (257 + bitsVal s pos 5))) := by
  unfold ownP at h
  split at h
  · rename_i hc
    refine ⟨hc.1, hc.2.1, hc.2.2.1, hc.2.2.2.1, hc.2.2.2.2, ?_⟩
    split at h
    · exact absurd rfl h
    · rename_i l p hl
      split at h
      · rename_i hd
        exact ⟨l, p, hl, hd⟩
      · exact absurd rfl h
  · exact absurd rfl h
theorem ownP_yes {s : ByteArray} {pos : Nat} {l : List Nat} {p : Nat} (h1 : pos + 14 ≤ 8 * s.size) (h2 : pos + 14 + 3 * (4 + bitsVal s (pos + 10) 4) ≤ 8 * s.size) (h3 : bitsVal s pos 5 ≤ 29) (h4 : bitsVal s (pos + 5) 5 ≤ 29) (h5 : full (clens s (pos + 14) (4 + bitsVal s (pos + 10) 4)))
    (h6 : lenG (clens s (pos + 14) (4 + bitsVal s (pos + 10) 4)) s (258 + bitsVal s pos 5 + bitsVal s (pos + 5) 5) (258 + bitsVal s pos 5 + bitsVal s (pos + 5) 5) [] (pos + 14 + 3 * (4 + bitsVal s (pos + 10) 4)) = some (l, p)) (h7 : l.getD 256 0 ≠ 0) (h8 : full (l.take (257 + bitsVal s pos 5))) (h9 : full (l.drop (257 + bitsVal s pos 5)) ∨ loneP (l.drop (257 + bitsVal s pos 5))) :
    ownP s pos = some (l.take (257 + bitsVal s pos 5), l.drop (257 + bitsVal s pos 5), p) := by
  unfold ownP
  rw [if_pos ⟨h1, h2, h3, h4, h5⟩, h6]
  simp only
  rw [if_pos ⟨h7, h8, h9⟩]
theorem lenG_len {cl : List Nat} {s : ByteArray} {many : Nat} : ∀ {f : Nat} {acc : List Nat} {pos : Nat} {l : List Nat} {p : Nat}, lenG cl s many f acc pos = some (l, p) → l.length = many
  | 0, acc, pos, l, p, h => by
    rw [lenG] at h
    split at h
    · injection h with h; injection h with h _; rw [← h]; assumption
    · cases h
  | f + 1, acc, pos, l, p, h => by
    rw [lenG] at h
    split at h
    · injection h with h; injection h with h _; rw [← h]; assumption
    · split at h
      · cases h
      · split at h
        · cases h
        · exact lenG_len h
theorem codesInfo : (Tryd.prog.info? 79).map (·.size) = some 34 := by kernel_rfl
/-- What lies in memory while the codes are read. -/
structure OwW (mb base : Nat) (w : World) (C1 C2 : List Value) (wr : World) : Prop where
  r1 : wr.rangeAt (w.heap.size + 1) 0 C1
  r2 : wr.rangeAt (w.heap.size + 1) 17 C2
  l1 : C1.length = 17
  l2 : C2.length = 17
  o1 : ∀ v ∈ C1, v.oneCell' = true
  o2 : ∀ v ∈ C2, v.oneCell' = true
  th : wr.there (w.heap.size + 1) 0 34
  res : wr.there w.heap.size 0 34
  a0 : Apart mb wr w.heap.size
  a1 : Apart mb wr (w.heap.size + 1)
  kept : Kept mb base w wr
theorem range_block {w w' : World} {b o : Nat} {cs : List Value} (h : w.rangeAt b o cs) (e : w'.heap[b]? = w.heap[b]?) : w'.rangeAt b o cs := fun j v hj => by
  rw [World.cell?_of_block (a := ⟨b, o + j, none⟩) (w := w) e]; exact h j v hj
theorem there_sets {b o n c : Nat} : ∀ (V : List Value) (k : Nat) (w : World), w.there b o n → (w.setCells c k V).there b o n
  | [], _, _, h => h
  | v :: V, k, _, h => there_sets V (k + 1) _ (there_set h ⟨c, k, none⟩ v)
theorem range_app {w : World} {b o n : Nat} {C1 C2 : List Value} (h1 : w.rangeAt b o C1) (h2 : w.rangeAt b (o + n) C2) (hn : C1.length = n) : w.rangeAt b o (C1 ++ C2) := by
  intro j v hj
  rcases Nat.lt_or_ge j n with h | h
  · rw [List.getElem?_append_left (by omega)] at hj
    exact h1 j v hj
  · rw [List.getElem?_append_right (by omega), hn] at hj
    have := h2 (j - n) v hj
    rw [show o + n + (j - n) = o + j by omega] at this
    exact this
theorem range_put (w : World) (b o : Nat) (L : List Value) (h : ∀ j, j < L.length → (w.cell? ⟨b, o + j, none⟩).isSome = true) : (w.setCells b o L).rangeAt b o L := by
  intro j v hj
  have hj' := (List.getElem?_eq_some_iff.1 hj)
  rw [World.cell?_setCells_in b L o w h j hj'.1, ← hj'.2]
theorem range_out {w : World} {b o k : Nat} {C V : List Value} (h : w.rangeAt b o C) (hk : o + C.length ≤ k ∨ k + V.length ≤ o) : (w.setCells b k V).rangeAt b o C := by
  intro j v hj
  have hj' := (List.getElem?_eq_some_iff.1 hj).1
  rw [World.cell?_setCells_out b V k w ⟨b, o + j, none⟩ (fun _ _ => by show o + j < k ∨ k + V.length ≤ o + j; omega)]
  exact h j v hj
section
variable {mb base : Nat} {s : ByteArray} {a b : Nat} {out : List UInt8} {most : Nat} {bad : Bool} {w wr w2 : World} {C1 C2 V : List Value}
theorem OwW.next (h : OwW mb base w C1 C2 wr) (k : Kept mb base wr w2) : OwW mb base w C1 C2 w2 :=
  ⟨range_block h.r1 (k.apart h.a1).2, range_block h.r2 (k.apart h.a1).2, h.l1, h.l2, h.o1, h.o2, there_block h.th (k.apart h.a1).2, there_block h.res (k.apart h.a0).2, (k.apart h.a0).1, (k.apart h.a1).1, h.kept.trans k⟩
theorem OwW.step (h : OwW mb base w C1 C2 wr) (hlb : mb < base) (hbl : base ≤ w.heap.size) (hb : Below wr.heap.size wr w2) : OwW mb base w C1 C2 w2 := by
  have hl := h.a1.1
  have hc : w2.cell? ⟨mb, 3, none⟩ = wr.cell? ⟨mb, 3, none⟩ := hb.cell (p := ⟨mb, 3, none⟩) (show mb < wr.heap.size by omega)
  exact ⟨range_block h.r1 (hb.block _ hl), range_block h.r2 (hb.block _ hl), h.l1, h.l2, h.o1, h.o2, there_block h.th (hb.block _ hl), there_block h.res (hb.block _ (by omega)), h.a0.same hb.size hc, h.a1.same hb.size hc, h.kept.below (hb.mono (by omega)) hlb hbl⟩
theorem cell3_sets (hne : mb ≠ b) (o : Nat) : (wr.setCells b o V).cell? ⟨mb, 3, none⟩ = wr.cell? ⟨mb, 3, none⟩ := World.cell?_of_block (a := ⟨mb, 3, none⟩) (w := wr) (heap_setCells b mb hne _ _ _)
theorem OwW.put1 (h : OwW mb base w C1 C2 wr) (hlb : mb < base) (hbl : base ≤ w.heap.size) (hV : V.length = 17) (hV1 : ∀ v ∈ V, v.oneCell' = true) : OwW mb base w V C2 (wr.setCells (w.heap.size + 1) 0 V) := by
  have hc : (wr.setCells (w.heap.size + 1) 0 V).cell? ⟨mb, 3, none⟩ = wr.cell? ⟨mb, 3, none⟩ := cell3_sets (by omega) 0
  have hz : wr.heap.size ≤ (wr.setCells (w.heap.size + 1) 0 V).heap.size := by rw [size_setCells]; exact Nat.le_refl _
  exact ⟨range_put _ _ _ _ (fun j hj => (h.th j (by omega)).1), range_out h.r2 (by omega), hV, h.l2, hV1, h.o2, there_sets _ _ _ h.th, there_sets _ _ _ h.res, h.a0.same hz hc, h.a1.same hz hc, h.kept.below (below_setCells _ (by omega) _ _ _ (Below.refl _ _)) hlb hbl⟩
theorem OwW.put2 (h : OwW mb base w C1 C2 wr) (hlb : mb < base) (hbl : base ≤ w.heap.size) (hV : V.length = 17) (hV1 : ∀ v ∈ V, v.oneCell' = true) : OwW mb base w C1 V (wr.setCells (w.heap.size + 1) 17 V) := by
  have hc : (wr.setCells (w.heap.size + 1) 17 V).cell? ⟨mb, 3, none⟩ = wr.cell? ⟨mb, 3, none⟩ := cell3_sets (by omega) 17
  have hz : wr.heap.size ≤ (wr.setCells (w.heap.size + 1) 17 V).heap.size := by rw [size_setCells]; exact Nat.le_refl _
  have hl1 := h.l1
  exact ⟨range_out h.r1 (by omega), range_put _ _ _ _ (fun j hj => by have := (h.th (17 + j) (by omega)).1; rw [Nat.zero_add] at this; exact this), h.l1, hV, h.o1, hV1, there_sets _ _ _ h.th, there_sets _ _ _ h.res, h.a0.same hz hc, h.a1.same hz hc, h.kept.below (below_setCells _ (by omega) _ _ _ (Below.refl _ _)) hlb hbl⟩
theorem own_start (h : MA mb base s a b out most bad w) (t t2 : TypeId) : MA mb base s a b out most bad ((w.alloc (.cells #[.int .i64 0, .int .i64 0, .int .i64 0, .int .i64 0, .int .i64 0, .int .i64 0, .int .i64 0, .int .i64 0, .int .i64 0, .int .i64 0, .int .i64 0, .int .i64 0, .int .i64 0, .int .i64 0, .int .i64 0, .int .i64 0, .slice none 0 0, .int .i64 0, .int .i64 0, .int .i64 0, .int .i64 0, .int .i64 0, .int .i64 0, .int .i64 0, .int .i64 0, .int .i64 0, .int .i64 0, .int .i64 0, .int .i64 0, .int .i64 0, .int .i64 0, .int .i64 0, .int .i64 0, .slice none 0 0] t)).alloc (.cells #[.int .i64 0, .int .i64 0, .int .i64 0, .int .i64 0, .int .i64 0, .int .i64 0, .int .i64 0, .int .i64 0, .int .i64 0, .int .i64 0, .int .i64 0, .int .i64 0, .int .i64 0, .int .i64 0, .int .i64 0, .int .i64 0, .slice none 0 0, .int .i64 0, .int .i64 0, .int .i64 0, .int .i64 0, .int .i64 0, .int .i64 0, .int .i64 0, .int .i64 0, .int .i64 0, .int .i64 0, .int .i64 0, .int .i64 0, .int .i64 0, .int .i64 0, .int .i64 0, .int .i64 0, .slice none 0 0] t2)) ∧ OwW mb base w [.int .i64 0, .int .i64 0, .int .i64 0, .int .i64 0, .int .i64 0, .int .i64 0, .int .i64 0, .int .i64 0, .int .i64 0, .int .i64 0, .int .i64 0, .int .i64 0, .int .i64 0, .int .i64 0, .int .i64 0, .int .i64 0, .slice none 0 0] [.int .i64 0, .int .i64 0, .int .i64 0, .int .i64 0, .int .i64 0, .int .i64 0, .int .i64 0, .int .i64 0, .int .i64 0, .int .i64 0, .int .i64 0, .int .i64 0, .int .i64 0, .int .i64 0, .int .i64 0, .int .i64 0, .slice none 0 0] ((w.alloc (.cells #[.int .i64 0, .int .i64 0, .int .i64 0, .int .i64 0, .int .i64 0, .int .i64 0, .int .i64 0, .int .i64 0, .int .i64 0, .int .i64 0, .int .i64 0, .int .i64 0, .int .i64 0, .int .i64 0, .int .i64 0, .int .i64 0, .slice none 0 0, .int .i64 0, .int .i64 0, .int .i64 0, .int .i64 0, .int .i64 0, .int .i64 0, .int .i64 0, .int .i64 0, .int .i64 0, .int .i64 0, .int .i64 0, .int .i64 0, .int .i64 0, .int .i64 0, .int .i64 0, .int .i64 0, .slice none 0 0] t)).alloc (.cells #[.int .i64 0, .int .i64 0, .int .i64 0, .int .i64 0, .int .i64 0, .int .i64 0, .int .i64 0, .int .i64 0, .int .i64 0, .int .i64 0, .int .i64 0, .int .i64 0, .int .i64 0, .int .i64 0, .int .i64 0, .int .i64 0, .slice none 0 0, .int .i64 0, .int .i64 0, .int .i64 0, .int .i64 0, .int .i64 0, .int .i64 0, .int .i64 0, .int .i64 0, .int .i64 0, .int .i64 0, .int .i64 0, .int .i64 0, .int .i64 0, .int .i64 0, .int .i64 0, .int .i64 0, .slice none 0 0] t2)) := by
  have hlb := h.lt
  have hbl := h.bl
  have hB : Below w.heap.size w ((w.alloc (.cells #[.int .i64 0, .int .i64 0, .int .i64 0, .int .i64 0, .int .i64 0, .int .i64 0, .int .i64 0, .int .i64 0, .int .i64 0, .int .i64 0, .int .i64 0, .int .i64 0, .int .i64 0, .int .i64 0, .int .i64 0, .int .i64 0, .slice none 0 0, .int .i64 0, .int .i64 0, .int .i64 0, .int .i64 0, .int .i64 0, .int .i64 0, .int .i64 0, .int .i64 0, .int .i64 0, .int .i64 0, .int .i64 0, .int .i64 0, .int .i64 0, .int .i64 0, .int .i64 0, .int .i64 0, .slice none 0 0] t)).alloc (.cells #[.int .i64 0, .int .i64 0, .int .i64 0, .int .i64 0, .int .i64 0, .int .i64 0, .int .i64 0, .int .i64 0, .int .i64 0, .int .i64 0, .int .i64 0, .int .i64 0, .int .i64 0, .int .i64 0, .int .i64 0, .int .i64 0, .slice none 0 0, .int .i64 0, .int .i64 0, .int .i64 0, .int .i64 0, .int .i64 0, .int .i64 0, .int .i64 0, .int .i64 0, .int .i64 0, .int .i64 0, .int .i64 0, .int .i64 0, .int .i64 0, .int .i64 0, .int .i64 0, .int .i64 0, .slice none 0 0] t2)) := (below_one w _).trans ((below_one _ _).mono (by simp))
  have hs : (w.alloc (.cells #[.int .i64 0, .int .i64 0, .int .i64 0, .int .i64 0, .int .i64 0, .int .i64 0, .int .i64 0, .int .i64 0, .int .i64 0, .int .i64 0, .int .i64 0, .int .i64 0, .int .i64 0, .int .i64 0, .int .i64 0, .int .i64 0, .slice none 0 0, .int .i64 0, .int .i64 0, .int .i64 0, .int .i64 0, .int .i64 0, .int .i64 0, .int .i64 0, .int .i64 0, .int .i64 0, .int .i64 0, .int .i64 0, .int .i64 0, .int .i64 0, .int .i64 0, .int .i64 0, .int .i64 0, .slice none 0 0] t)).heap.size = w.heap.size + 1 := by simp
  have hs2 : ((w.alloc (.cells #[.int .i64 0, .int .i64 0, .int .i64 0, .int .i64 0, .int .i64 0, .int .i64 0, .int .i64 0, .int .i64 0, .int .i64 0, .int .i64 0, .int .i64 0, .int .i64 0, .int .i64 0, .int .i64 0, .int .i64 0, .int .i64 0, .slice none 0 0, .int .i64 0, .int .i64 0, .int .i64 0, .int .i64 0, .int .i64 0, .int .i64 0, .int .i64 0, .int .i64 0, .int .i64 0, .int .i64 0, .int .i64 0, .int .i64 0, .int .i64 0, .int .i64 0, .int .i64 0, .int .i64 0, .slice none 0 0] t)).alloc (.cells #[.int .i64 0, .int .i64 0, .int .i64 0, .int .i64 0, .int .i64 0, .int .i64 0, .int .i64 0, .int .i64 0, .int .i64 0, .int .i64 0, .int .i64 0, .int .i64 0, .int .i64 0, .int .i64 0, .int .i64 0, .int .i64 0, .slice none 0 0, .int .i64 0, .int .i64 0, .int .i64 0, .int .i64 0, .int .i64 0, .int .i64 0, .int .i64 0, .int .i64 0, .int .i64 0, .int .i64 0, .int .i64 0, .int .i64 0, .int .i64 0, .int .i64 0, .int .i64 0, .int .i64 0, .slice none 0 0] t2)).heap.size = w.heap.size + 2 := by simp
  have hone : ∀ v ∈ ([.int .i64 0, .int .i64 0, .int .i64 0, .int .i64 0, .int .i64 0, .int .i64 0, .int .i64 0, .int .i64 0, .int .i64 0, .int .i64 0, .int .i64 0, .int .i64 0, .int .i64 0, .int .i64 0, .int .i64 0, .int .i64 0, .slice none 0 0] : List Value), v.oneCell' = true := by intro v hv; simp at hv; rcases hv with rfl | rfl <;> rfl
  have hr : ((w.alloc (.cells #[.int .i64 0, .int .i64 0, .int .i64 0, .int .i64 0, .int .i64 0, .int .i64 0, .int .i64 0, .int .i64 0, .int .i64 0, .int .i64 0, .int .i64 0, .int .i64 0, .int .i64 0, .int .i64 0, .int .i64 0, .int .i64 0, .slice none 0 0, .int .i64 0, .int .i64 0, .int .i64 0, .int .i64 0, .int .i64 0, .int .i64 0, .int .i64 0, .int .i64 0, .int .i64 0, .int .i64 0, .int .i64 0, .int .i64 0, .int .i64 0, .int .i64 0, .int .i64 0, .int .i64 0, .slice none 0 0] t)).alloc (.cells #[.int .i64 0, .int .i64 0, .int .i64 0, .int .i64 0, .int .i64 0, .int .i64 0, .int .i64 0, .int .i64 0, .int .i64 0, .int .i64 0, .int .i64 0, .int .i64 0, .int .i64 0, .int .i64 0, .int .i64 0, .int .i64 0, .slice none 0 0, .int .i64 0, .int .i64 0, .int .i64 0, .int .i64 0, .int .i64 0, .int .i64 0, .int .i64 0, .int .i64 0, .int .i64 0, .int .i64 0, .int .i64 0, .int .i64 0, .int .i64 0, .int .i64 0, .int .i64 0, .int .i64 0, .slice none 0 0] t2)).rangeAt (w.heap.size + 1) 0 ([.int .i64 0, .int .i64 0, .int .i64 0, .int .i64 0, .int .i64 0, .int .i64 0, .int .i64 0, .int .i64 0, .int .i64 0, .int .i64 0, .int .i64 0, .int .i64 0, .int .i64 0, .int .i64 0, .int .i64 0, .int .i64 0, .slice none 0 0] ++ [.int .i64 0, .int .i64 0, .int .i64 0, .int .i64 0, .int .i64 0, .int .i64 0, .int .i64 0, .int .i64 0, .int .i64 0, .int .i64 0, .int .i64 0, .int .i64 0, .int .i64 0, .int .i64 0, .int .i64 0, .int .i64 0, .slice none 0 0]) := by
    intro j v hj
    rw [World.cell?_alloc_at _ _ _ _ hs.symm, Nat.zero_add]
    show (#[.int .i64 0, .int .i64 0, .int .i64 0, .int .i64 0, .int .i64 0, .int .i64 0, .int .i64 0, .int .i64 0, .int .i64 0, .int .i64 0, .int .i64 0, .int .i64 0, .int .i64 0, .int .i64 0, .int .i64 0, .int .i64 0, .slice none 0 0, .int .i64 0, .int .i64 0, .int .i64 0, .int .i64 0, .int .i64 0, .int .i64 0, .int .i64 0, .int .i64 0, .int .i64 0, .int .i64 0, .int .i64 0, .int .i64 0, .int .i64 0, .int .i64 0, .int .i64 0, .int .i64 0, .slice none 0 0] : Array Value)[j]? = some v
    rw [show (#[.int .i64 0, .int .i64 0, .int .i64 0, .int .i64 0, .int .i64 0, .int .i64 0, .int .i64 0, .int .i64 0, .int .i64 0, .int .i64 0, .int .i64 0, .int .i64 0, .int .i64 0, .int .i64 0, .int .i64 0, .int .i64 0, .slice none 0 0, .int .i64 0, .int .i64 0, .int .i64 0, .int .i64 0, .int .i64 0, .int .i64 0, .int .i64 0, .int .i64 0, .int .i64 0, .int .i64 0, .int .i64 0, .int .i64 0, .int .i64 0, .int .i64 0, .int .i64 0, .int .i64 0, .slice none 0 0] : Array Value) = (([.int .i64 0, .int .i64 0, .int .i64 0, .int .i64 0, .int .i64 0, .int .i64 0, .int .i64 0, .int .i64 0, .int .i64 0, .int .i64 0, .int .i64 0, .int .i64 0, .int .i64 0, .int .i64 0, .int .i64 0, .int .i64 0, .slice none 0 0] : List Value) ++ ([.int .i64 0, .int .i64 0, .int .i64 0, .int .i64 0, .int .i64 0, .int .i64 0, .int .i64 0, .int .i64 0, .int .i64 0, .int .i64 0, .int .i64 0, .int .i64 0, .int .i64 0, .int .i64 0, .int .i64 0, .int .i64 0, .slice none 0 0] : List Value)).toArray from rfl, List.getElem?_toArray]; exact hj
  refine ⟨h.grow hB, fun j v hj => hr j v (by rw [List.getElem?_append_left (by have := (List.getElem?_eq_some_iff.1 hj).1; simpa using this)]; exact hj), fun j v hj => ?_, rfl, rfl, hone, hone, ?_, ?_, Apart.fresh h hB (Nat.le_refl _) (by omega), Apart.fresh h hB (by omega) (by omega), (Kept.refl _ _ _).below hB hlb hbl⟩
  · have := hr (17 + j) v (by rw [List.getElem?_append_right (by simp)]; simpa using hj)
    rw [Nat.zero_add] at this; exact this
  · have := there_alloc (w.alloc (.cells #[.int .i64 0, .int .i64 0, .int .i64 0, .int .i64 0, .int .i64 0, .int .i64 0, .int .i64 0, .int .i64 0, .int .i64 0, .int .i64 0, .int .i64 0, .int .i64 0, .int .i64 0, .int .i64 0, .int .i64 0, .int .i64 0, .slice none 0 0, .int .i64 0, .int .i64 0, .int .i64 0, .int .i64 0, .int .i64 0, .int .i64 0, .int .i64 0, .int .i64 0, .int .i64 0, .int .i64 0, .int .i64 0, .int .i64 0, .int .i64 0, .int .i64 0, .int .i64 0, .int .i64 0, .slice none 0 0] t)) #[.int .i64 0, .int .i64 0, .int .i64 0, .int .i64 0, .int .i64 0, .int .i64 0, .int .i64 0, .int .i64 0, .int .i64 0, .int .i64 0, .int .i64 0, .int .i64 0, .int .i64 0, .int .i64 0, .int .i64 0, .int .i64 0, .slice none 0 0, .int .i64 0, .int .i64 0, .int .i64 0, .int .i64 0, .int .i64 0, .int .i64 0, .int .i64 0, .int .i64 0, .int .i64 0, .int .i64 0, .int .i64 0, .int .i64 0, .int .i64 0, .int .i64 0, .int .i64 0, .int .i64 0, .slice none 0 0] t2 34 rfl
    rw [hs] at this; exact this
  · exact there_block (there_alloc w #[.int .i64 0, .int .i64 0, .int .i64 0, .int .i64 0, .int .i64 0, .int .i64 0, .int .i64 0, .int .i64 0, .int .i64 0, .int .i64 0, .int .i64 0, .int .i64 0, .int .i64 0, .int .i64 0, .int .i64 0, .int .i64 0, .slice none 0 0, .int .i64 0, .int .i64 0, .int .i64 0, .int .i64 0, .int .i64 0, .int .i64 0, .int .i64 0, .int .i64 0, .int .i64 0, .int .i64 0, .int .i64 0, .int .i64 0, .int .i64 0, .int .i64 0, .int .i64 0, .int .i64 0, .slice none 0 0] t 34 rfl) ((below_one _ _).block _ (by omega))
theorem LenW.cells {v : Value} {l : List Nat} (h : LenW mb base w v l wr) (hl : l ≠ []) : ∃ g cap, v = .slice (some ⟨g, 0, none⟩) l.length cap ∧ l.length ≤ cap ∧ LensAt wr g 0 l ∧ Apart mb wr g ∧ w.heap.size ≤ g := by
  rcases h.own with ⟨_, h2⟩ | ⟨g, cap, h1, h2, _, h4, h5, _⟩
  · exact absurd (List.map_eq_nil_iff.1 h2) hl
  · refine ⟨g, cap, by rw [h1, List.length_map], by rw [List.length_map] at h4; exact h4, fun j x hj => ?_, h.ap g _ _ h1, h2⟩
    rw [Nat.zero_add]
    exact h5 j (nv x) (by rw [List.getElem?_map, hj]; rfl)
theorem LensAt.kept {lb lo : Nat} {lens : List Nat} (h : LensAt wr lb lo lens) (e : w2.heap[lb]? = wr.heap[lb]?) : LensAt w2 lb lo lens := fun j x hj => by
  rw [World.cell?_of_block (a := ⟨lb, lo + j, none⟩) (w := wr) e]; exact h j x hj
theorem LensAt.take {lb : Nat} {lens : List Nat} (h : LensAt wr lb 0 lens) (k : Nat) : LensAt wr lb 0 (lens.take k) := fun j x hj => by
  refine h j x ?_
  have hj' := (List.getElem?_eq_some_iff.1 hj).1
  rw [List.getElem?_take_of_lt (by simp at hj'; omega)] at hj
  exact hj
theorem LensAt.drop {lb : Nat} {lens : List Nat} (h : LensAt wr lb 0 lens) (k : Nat) : LensAt wr lb k (lens.drop k) := fun j x hj => by
  rw [List.getElem?_drop] at hj
  have := h (k + j) x hj
  rw [Nat.zero_add] at this; exact this
/-- What ownCodes leaves. -/
def OwnPost (mb base : Nat) (s : ByteArray) (pos : Nat) (out : List UInt8) (most : Nat) (bad : Bool) (V : List Value) (w w' : World) : Prop :=
  ∃ (p : Nat) (bd : Bool), V.length = 34 ∧ (∀ v ∈ V, v.oneCell' = true) ∧ p ≤ 8 * s.size ∧ MW mb base s p out most bd w' ∧ Kept mb base w w' ∧
    (bd = false → bad = false ∧ ∃ near far C1 C2, ownP s pos = some (near, far, p) ∧ V = C1 ++ C2 ∧ near.length ≤ 1000 ∧ far.length ≤ 1000 ∧ CodeVal mb w' near C1 ∧ CodeVal mb w' far C2 ∧ Fresh w.heap.size C1 ∧ Fresh w.heap.size C2) ∧
    (bad = false → ownP s pos ≠ none → bd = false)
theorem CodeVal.sets {lens : List Nat} {k : Nat} (h : CodeVal mb w lens C1) (hF : Fresh k C1) {b : Nat} (hb : b < k) (hm : mb ≠ b) (hml : mb < w.heap.size) (o : Nat) (V : List Value) : CodeVal mb (w.setCells b o V) lens C1 :=
  h.other (by rw [size_setCells]; exact Nat.le_refl _) b (fun i _ hi => heap_setCells b i hi _ _ _) hm hml (fun l' v hv g n c hg => by have := hF l' v hv g n c hg; omega)
theorem own_post {pos p : Nat} {bd : Bool} (h : OwW mb base w C1 C2 wr) (hM : MW mb base s p out most bd wr) (hlb : mb < base) (hbl : base ≤ w.heap.size) (hp : p ≤ 8 * s.size)
    (hJ : (bd = false → bad = false ∧ ∃ near far, ownP s pos = some (near, far, p) ∧ near.length ≤ 1000 ∧ far.length ≤ 1000 ∧ CodeVal mb wr near C1 ∧ CodeVal mb wr far C2 ∧ Fresh (w.heap.size + 1) C1 ∧ Fresh (w.heap.size + 1) C2) ∧ (bad = false → ownP s pos ≠ none → bd = false)) :
    OwnPost mb base s pos out most bad (C1 ++ C2) w (wr.setCells w.heap.size 0 (C1 ++ C2)) := by
  refine ⟨p, bd, by rw [List.length_append, h.l1, h.l2], fun v hv => ?_, hp, MA.sets hM h.a0 0 _, h.kept.below (below_setCells _ (Nat.le_refl _) _ _ _ (Below.refl _ _)) hlb hbl, fun hb => ?_, hJ.2⟩
  · rcases List.mem_append.1 hv with hv | hv
    · exact h.o1 v hv
    · exact h.o2 v hv
  · obtain ⟨j1, near, far, j2, j3, j4, j5, j6, j7, j8⟩ := hJ.1 hb
    have hml : mb < wr.heap.size := by have := h.a0.1; omega
    exact ⟨j1, near, far, C1, C2, j2, rfl, j3, j4, j5.sets j7 (by omega) (by omega) hml _ _, j6.sets j8 (by omega) (by omega) hml _ _, j7.mono (by omega), j8.mono (by omega)⟩
end
section
variable {mb base : Nat} {s : ByteArray} {pos : Nat} {out : List UInt8} {most : Nat} {bad : Bool} {w : World}
set_option maxRecDepth 100000 in
set_option maxHeartbeats 4000000 in
theorem ownCodes_walk (h : MW mb base s pos out most bad w) (hs : s.size ≤ 140737488355328) (hp : pos ≤ 8 * s.size) (hD : DefW w) (hT : Tabs w) (hg : 33 ≤ mb) :
    Calls Tryd.prog 33 #[.pointer (some ⟨mb, 0, none⟩)] w fun e w' => ∃ V, e = .returned (.agg V.toArray) ∧ OwnPost mb base s pos out most bad V w w' := by
  have hlb : mb < base := MA.lt h
  have hbl : base ≤ w.heap.size := MA.bl h
  go_enter Tryd.func33, Tryd.ntmps33
  go_wp2_with fail
  refine (take_any 5 (own_start h _ _).1 hs hp (by decide) (hD.kept (own_start h 79 79).2.kept hg hlb) hg).mono ?_
  rintro e w1 ⟨v1, p1, bd1, rfl, hv1, hp1, hM1, k1, f1, g1⟩
  have hO1 := (own_start h _ _).2.next k1
  clear h k1
  obtain ⟨Z, HZ⟩ : ∃ Z : List Value, Hid ([.int .i64 0, .int .i64 0, .int .i64 0, .int .i64 0, .int .i64 0, .int .i64 0, .int .i64 0, .int .i64 0, .int .i64 0, .int .i64 0, .int .i64 0, .int .i64 0, .int .i64 0, .int .i64 0, .int .i64 0, .int .i64 0, .slice none 0 0] = Z) := ⟨_, rfl⟩
  rw [HZ.out] at hO1
  have hD1 := hD.kept hO1.kept hg hlb
  have hv1' : v1 < 32 := hv1
  obtain ⟨n1, HN1⟩ : ∃ n1 : Nat, Hid (257 + v1 = n1) := ⟨_, rfl⟩
  have hn1 : (257 : Int) + (v1 : Int) = (n1 : Int) := by have := HN1.out; omega
  go_wp2_with fail
  refine (take_any 5 hM1 hs hp1 (by decide) hD1 hg).mono ?_
  rintro e w2 ⟨v2, p2, bd2, rfl, hv2, hp2, hM2, k2, f2, g2⟩
  have hO2 := hO1.next k2
  have hD2 := hD.kept hO2.kept hg hlb
  have hv2' : v2 < 32 := hv2
  obtain ⟨n2, HN2⟩ : ∃ n2 : Nat, Hid (1 + v2 = n2) := ⟨_, rfl⟩
  have hn2 : (1 : Int) + (v2 : Int) = (n2 : Int) := by have := HN2.out; omega
  have HV2 : Hid (bad = false → pos + 10 ≤ 8 * s.size → v1 = bitsVal s pos 5 ∧ v2 = bitsVal s (pos + 5) 5) := fun hb hl => by
    have b1 := g1 hb (by omega)
    obtain ⟨_, _, e1, e2⟩ := f1 b1
    have b2 := g2 b1 (by omega)
    obtain ⟨_, _, e3, e4⟩ := f2 b2
    rw [e1] at e4
    exact ⟨e2, e4⟩
  have HP2 : Hid ((bd2 = false → bad = false ∧ pos + 10 ≤ 8 * s.size ∧ p2 = pos + 10) ∧ (bad = false → pos + 10 ≤ 8 * s.size → bd2 = false)) := ⟨fun hb => by
    obtain ⟨b1, q1, e1, _⟩ := f2 hb
    obtain ⟨b0, q0, e0, _⟩ := f1 b1
    exact ⟨b0, by omega, by omega⟩, fun hb hl => by
    have b1 := g1 hb (by omega)
    have e1 := (f1 b1).2.2.1
    exact g2 b1 (by omega)⟩
  clear hM1 hO1 k2 f1 g1 f2 g2 hD1
  have HN1' : Hid (257 + v1 = n1) := HN1
  by_cases hA : 29 < v1
  · have hA' : (286 : Int) < (n1 : Int) := by omega
    clear hn1 hn2
    obtain ⟨xe, hxe⟩ := hD2.many
    go_wp2_with fail
    refine (fail_walk xe hM2).mono ?_
    rintro e w3 ⟨rfl, hM3, k3⟩
    have hO3 := hO2.next k3
    have HJ : Hid ((true = false → bad = false ∧ ∃ near far, ownP s pos = some (near, far, p2) ∧ near.length ≤ 1000 ∧ far.length ≤ 1000 ∧ CodeVal mb w3 near Z ∧ CodeVal mb w3 far Z ∧ Fresh (w.heap.size + 1) Z ∧ Fresh (w.heap.size + 1) Z) ∧ (bad = false → ownP s pos ≠ none → true = false)) := ⟨(by intro hc; cases hc), fun hb hn => by
      obtain ⟨i1, i2, i3, i4, _⟩ := ownP_inv hn
      obtain ⟨j1, j2⟩ := HV2.out hb (by omega)
      omega⟩
    obtain ⟨V, HV⟩ : ∃ V, Hid (Z ++ Z = V) := ⟨_, rfl⟩
    have hVl : V.length = 34 := by rw [← HV.out, List.length_append]; have q1 := (hO3).l1; have q2 := (hO3).l2; omega
    have HR5 : Hid ((w3).rangeAt (w.heap.size + 1) 0 V) := by rw [← HV.out]; exact range_app (hO3).r1 (hO3).r2 (hO3).l1
    have HTh5 : Hid ((w3).there w.heap.size 0 V.toArray.size) := by show World.there _ _ _ V.length; rw [hVl]; exact (hO3).res
    have HIA : Hid ((Tryd.prog.info? 79).map (·.size) = some V.length) := by show _ = _; rw [hVl]; exact codesInfo
    have HIB : Hid ((Tryd.prog.info? 79).map (·.size) = some V.toArray.size) := HIA.out
    have HLA : Hid (V.toArray.all (·.oneCell') = true) := all_oneCell_toArray (fun v hv => by
      rw [← HV.out] at hv
      rcases List.mem_append.1 hv with hv | hv
      · exact (hO3).o1 v hv
      · exact (hO3).o2 v hv)
    have HP : Hid (OwnPost mb base s pos out most bad V w ((w3).setCells w.heap.size 0 V)) := by
      rw [← HV.out]
      exact own_post (hO3) hM3 hlb hbl hp2 HJ.out
    clear hM3 hO3 hM2 hO2 k3 hxe HJ hD2
    go_wp2_with (first | refine wpList_load_mid rfl 79 (.tmp 3) rfl (w.heap.size + 1) 0 rfl V _ HR5.out Tryd.underlying79 rfl HIA.out ?_ | refine wpList_store_mid rfl 79 (.tmp 2) _ rfl w.heap.size 0 V.toArray rfl rfl HTh5.out HIB.out HLA.out ?_)
    exact bodyPost_ret (v := .agg V.toArray) (results_cell_mid rfl _ _ w.heap.size V _ rfl (rangeAt_put _ _ _ HTh5.out) Tryd.underlying79 rfl HIA.out) rfl ⟨V, rfl, HP.out⟩
  · have hA' : ¬ (286 : Int) < (n1 : Int) := by omega
    by_cases hB : 29 < v2
    · have hB' : (30 : Int) < (n2 : Int) := by omega
      clear hn1 hn2
      obtain ⟨xe, hxe⟩ := hD2.many
      go_wp2_with fail
      refine (fail_walk xe hM2).mono ?_
      rintro e w3 ⟨rfl, hM3, k3⟩
      have hO3 := hO2.next k3
      have HJ : Hid ((true = false → bad = false ∧ ∃ near far, ownP s pos = some (near, far, p2) ∧ near.length ≤ 1000 ∧ far.length ≤ 1000 ∧ CodeVal mb w3 near Z ∧ CodeVal mb w3 far Z ∧ Fresh (w.heap.size + 1) Z ∧ Fresh (w.heap.size + 1) Z) ∧ (bad = false → ownP s pos ≠ none → true = false)) := ⟨(by intro hc; cases hc), fun hb hn => by
        obtain ⟨i1, i2, i3, i4, _⟩ := ownP_inv hn
        obtain ⟨j1, j2⟩ := HV2.out hb (by omega)
        omega⟩
      obtain ⟨V, HV⟩ : ∃ V, Hid (Z ++ Z = V) := ⟨_, rfl⟩
      have hVl : V.length = 34 := by rw [← HV.out, List.length_append]; have q1 := (hO3).l1; have q2 := (hO3).l2; omega
      have HR5 : Hid ((w3).rangeAt (w.heap.size + 1) 0 V) := by rw [← HV.out]; exact range_app (hO3).r1 (hO3).r2 (hO3).l1
      have HTh5 : Hid ((w3).there w.heap.size 0 V.toArray.size) := by show World.there _ _ _ V.length; rw [hVl]; exact (hO3).res
      have HIA : Hid ((Tryd.prog.info? 79).map (·.size) = some V.length) := by show _ = _; rw [hVl]; exact codesInfo
      have HIB : Hid ((Tryd.prog.info? 79).map (·.size) = some V.toArray.size) := HIA.out
      have HLA : Hid (V.toArray.all (·.oneCell') = true) := all_oneCell_toArray (fun v hv => by
        rw [← HV.out] at hv
        rcases List.mem_append.1 hv with hv | hv
        · exact (hO3).o1 v hv
        · exact (hO3).o2 v hv)
      have HP : Hid (OwnPost mb base s pos out most bad V w ((w3).setCells w.heap.size 0 V)) := by
        rw [← HV.out]
        exact own_post (hO3) hM3 hlb hbl hp2 HJ.out
      clear hM3 hO3 hM2 hO2 k3 hxe HJ hD2
      go_wp2_with (first | refine wpList_load_mid rfl 79 (.tmp 3) rfl (w.heap.size + 1) 0 rfl V _ HR5.out Tryd.underlying79 rfl HIA.out ?_ | refine wpList_store_mid rfl 79 (.tmp 2) _ rfl w.heap.size 0 V.toArray rfl rfl HTh5.out HIB.out HLA.out ?_)
      exact bodyPost_ret (v := .agg V.toArray) (results_cell_mid rfl _ _ w.heap.size V _ rfl (rangeAt_put _ _ _ HTh5.out) Tryd.underlying79 rfl HIA.out) rfl ⟨V, rfl, HP.out⟩
    · have hB' : ¬ (30 : Int) < (n2 : Int) := by omega
      have hT2 := hT.kept hO2.kept hg hlb
      obtain ⟨n, HN⟩ : ∃ n : Nat, Hid (n1 + n2 = n) := ⟨_, rfl⟩
      have hn3 : (n1 : Int) + (n2 : Int) = (n : Int) := by have := HN.out; omega
      go_wp2_with fail
      refine (codeForLengths_walk hM2 hs hp2 hD2 hT2 hg).mono ?_
      rintro e w3 ⟨V0, rfl, ls, p3, bd3, hls, hls15, hV0, hG0, hp3, hM3, k3, f3, g3⟩
      have hO3 := hO2.next k3
      have hVl := hV0.len
      have HIA : Hid ((Tryd.prog.info? 77).map (·.size) = some V0.length) := by show _ = _; rw [hVl]; exact codeInfo
      have HIB : Hid ((Tryd.prog.info? 77).map (·.size) = some V0.toArray.size) := HIA.out
      have HLA : Hid (V0.toArray.all (·.oneCell') = true) := all_oneCell_toArray hV0.one
      have HTh : Hid (∀ t, (w3.alloc (.cells #[.int .i64 0, .int .i64 0, .int .i64 0, .int .i64 0, .int .i64 0, .int .i64 0, .int .i64 0, .int .i64 0, .int .i64 0, .int .i64 0, .int .i64 0, .int .i64 0, .int .i64 0, .int .i64 0, .int .i64 0, .int .i64 0, .slice none 0 0] t)).there w3.heap.size 0 V0.toArray.size) := fun t => there_alloc w3 _ t _ (by show V0.length = _; rw [hVl]; rfl)
      obtain ⟨hM4, hC4, hB4, _, _⟩ := code_laid hM3 hV0 #[.int .i64 0, .int .i64 0, .int .i64 0, .int .i64 0, .int .i64 0, .int .i64 0, .int .i64 0, .int .i64 0, .int .i64 0, .int .i64 0, .int .i64 0, .int .i64 0, .int .i64 0, .int .i64 0, .int .i64 0, .int .i64 0, .slice none 0 0] rfl 77
      have hO4 := hO3.step hlb hbl hB4
      clear hM2 hO2 hT2 hD2 hO3 hM3 hV0 hG0 k3
      go_wp2_with (refine wpList_store_mid rfl 77 (.tmp 6) (.tmp 25) rfl w3.heap.size 0 V0.toArray rfl rfl (HTh.out _) HIB.out HLA.out ?_)
      generalize (w3.alloc (.cells #[.int .i64 0, .int .i64 0, .int .i64 0, .int .i64 0, .int .i64 0, .int .i64 0, .int .i64 0, .int .i64 0, .int .i64 0, .int .i64 0, .int .i64 0, .int .i64 0, .int .i64 0, .int .i64 0, .int .i64 0, .int .i64 0, .slice none 0 0] 77)).setCells w3.heap.size 0 V0 = W4 at *
      have HE : Hid (bd3 = false → bad = false ∧ pos + 14 ≤ 8 * s.size ∧ pos + 14 + 3 * (4 + bitsVal s (pos + 10) 4) ≤ 8 * s.size ∧ v1 = bitsVal s pos 5 ∧ v2 = bitsVal s (pos + 5) 5 ∧ full (clens s (pos + 14) (4 + bitsVal s (pos + 10) 4)) ∧ ls = clens s (pos + 14) (4 + bitsVal s (pos + 10) 4) ∧ p3 = pos + 14 + 3 * (4 + bitsVal s (pos + 10) 4)) := fun hb => by
        obtain ⟨i1, i2, i3, i4, i5⟩ := f3 hb
        obtain ⟨j1, j2, j3⟩ := HP2.out.1 i1
        obtain ⟨q1, q2⟩ := HV2.out j1 j2
        subst j3
        unfold FL at i2 i3 i4
        rw [show pos + 10 + 4 = pos + 14 by omega] at i2 i3 i4
        exact ⟨j1, by omega, i2, q1, q2, by rw [← i4]; exact i5, i4, i3⟩
      have HE2 : Hid (bad = false → ownP s pos ≠ none → bd3 = false ∧ ∃ l p, lenG ls s n n [] p3 = some (l, p) ∧ l.getD 256 0 ≠ 0 ∧ full (l.take n1) ∧ (full (l.drop n1) ∨ loneP (l.drop n1))) := fun hb hn => by
        obtain ⟨i1, i2, i3, i4, i5, l, p, i6, i7, i8, i9⟩ := ownP_inv hn
        have b2 := HP2.out.2 hb (by omega)
        have e2 := (HP2.out.1 b2).2.2
        have b3 : bd3 = false := by
          refine g3 b2 ?_ ?_
          · rw [e2]; unfold FL; omega
          · rw [e2]; unfold FL; exact i5
        obtain ⟨_, _, _, q1, q2, _, q3, q4⟩ := HE.out b3
        refine ⟨b3, l, p, ?_, i7, ?_, ?_⟩
        · rw [q3, q4, ← HN.out, ← HN1.out, ← HN2.out, q1, q2, show 257 + bitsVal s pos 5 + (1 + bitsVal s (pos + 5) 5) = 258 + bitsVal s pos 5 + bitsVal s (pos + 5) 5 by omega]; exact i6
        · rw [← HN1.out, q1]; exact i8
        · rw [← HN1.out, q1]; exact i9
      have hn320 : n ≤ 320 ∧ n1 ≤ n ∧ 257 ≤ n1 ∧ n1 ≤ 290 ∧ 1 ≤ n2 := by have := HN1.out; have := HN2.out; have := HN.out; omega
      refine (lengths_walk n hM4 hs hp3 (hD.kept hO4.kept hg hlb) hg hC4 hls (by omega)).mono ?_
      rintro e w5 ⟨v, rfl, l, p5, bd5, hL5, hp5, hM5, hl15, f5, g5⟩
      have hO5 := hO4.next hL5.kept
      have hD5 := hD.kept hO5.kept hg hlb
      obtain ⟨ev, c5, he⟩ := MA.c5 hM5
      have hW4 := hO4.a1.1
      clear hM4 hC4 hB4 hO4 f3 g3
      cases bd5 with
      | true =>
        obtain ⟨y, rfl⟩ := he
        have HJ : Hid ((true = false → bad = false ∧ ∃ near far, ownP s pos = some (near, far, p5) ∧ near.length ≤ 1000 ∧ far.length ≤ 1000 ∧ CodeVal mb w5 near Z ∧ CodeVal mb w5 far Z ∧ Fresh (w.heap.size + 1) Z ∧ Fresh (w.heap.size + 1) Z) ∧ (bad = false → ownP s pos ≠ none → true = false)) := ⟨(by intro hc; cases hc), fun hb hn => by
          obtain ⟨b3, l', p', i6, _⟩ := HE2.out hb hn
          exact g5 b3 (by rw [i6]; simp)⟩
        obtain ⟨V, HV⟩ : ∃ V, Hid (Z ++ Z = V) := ⟨_, rfl⟩
        have hVl : V.length = 34 := by rw [← HV.out, List.length_append]; have q1 := (hO5).l1; have q2 := (hO5).l2; omega
        have HR5 : Hid ((w5).rangeAt (w.heap.size + 1) 0 V) := by rw [← HV.out]; exact range_app (hO5).r1 (hO5).r2 (hO5).l1
        have HTh5 : Hid ((w5).there w.heap.size 0 V.toArray.size) := by show World.there _ _ _ V.length; rw [hVl]; exact (hO5).res
        have HIA : Hid ((Tryd.prog.info? 79).map (·.size) = some V.length) := by show _ = _; rw [hVl]; exact codesInfo
        have HIB : Hid ((Tryd.prog.info? 79).map (·.size) = some V.toArray.size) := HIA.out
        have HLA : Hid (V.toArray.all (·.oneCell') = true) := all_oneCell_toArray (fun v hv => by
          rw [← HV.out] at hv
          rcases List.mem_append.1 hv with hv | hv
          · exact (hO5).o1 v hv
          · exact (hO5).o2 v hv)
        have HP : Hid (OwnPost mb base s pos out most bad V w ((w5).setCells w.heap.size 0 V)) := by
          rw [← HV.out]
          exact own_post (hO5) hM5 hlb hbl hp5 HJ.out
        clear hM5 hO5 HJ hD5 hL5 hn1 hn2 hn3
        go_wp2_with (first | refine wpList_load_mid rfl 79 (.tmp 3) rfl (w.heap.size + 1) 0 rfl V _ HR5.out Tryd.underlying79 rfl HIA.out ?_ | refine wpList_store_mid rfl 79 (.tmp 2) _ rfl w.heap.size 0 V.toArray rfl rfl HTh5.out HIB.out HLA.out ?_)
        exact bodyPost_ret (v := .agg V.toArray) (results_cell_mid rfl _ _ w.heap.size V _ rfl (rangeAt_put _ _ _ HTh5.out) Tryd.underlying79 rfl HIA.out) rfl ⟨V, rfl, HP.out⟩
      | false =>
        cases he
        obtain ⟨b3, hR⟩ := f5 rfl
        have hln := lenG_len hR
        have HRl : Hid (bd3 = false ∧ lenG ls s n n [] p3 = some (l, p5)) := ⟨b3, hR⟩
        have hne : l ≠ [] := by intro hc; rw [hc] at hln; simp at hln; omega
        obtain ⟨g, cap, hv, hcap, hLA, hag, hgf⟩ := hL5.cells hne
        subst hv
        rw [hln]
        rw [hln] at hcap
        have HLn : Hid (l.length = n) := hln
        obtain ⟨x, HX⟩ : ∃ x, Hid (l[256]? = some x ∧ l.getD 256 0 = x) := ⟨l[256]'(by omega), List.getElem?_eq_getElem (by omega), by rw [List.getD_eq_getElem?_getD, List.getElem?_eq_getElem (by omega)]; rfl⟩
        have hcx : w5.cell? ⟨g, 256, none⟩ = some (.int .i64 (x : Int)) := by have := hLA 256 x HX.out.1; rw [Nat.zero_add] at this; exact this
        have h256 : (256 : Int) < (n : Int) := by omega
        have HE3 : Hid (bad = false → ownP s pos ≠ none → x ≠ 0 ∧ full (l.take n1) ∧ (full (l.drop n1) ∨ loneP (l.drop n1))) := fun hb hn => by
          obtain ⟨_, l', p', i6, i7, i8, i9⟩ := HE2.out hb hn
          rw [HRl.out.2] at i6
          injection i6 with i6
          injection i6 with i6 _
          subst i6
          rw [HX.out.2] at i7
          exact ⟨i7, i8, i9⟩
        have HE4 : Hid (x ≠ 0 → full (l.take n1) → (full (l.drop n1) ∨ loneP (l.drop n1)) → bad = false ∧ ownP s pos = some (l.take n1, l.drop n1, p5)) := fun q1 q2 q3 => by
          obtain ⟨j1, j2, j3, j4, j5, j6, j7, j8⟩ := HE.out HRl.out.1
          have e1 : n1 = 257 + bitsVal s pos 5 := by rw [← HN1.out, j4]
          have h6 := HRl.out.2
          have en : n = 258 + bitsVal s pos 5 + bitsVal s (pos + 5) 5 := by have := HN.out; have := HN1.out; have := HN2.out; omega
          rw [j7, j8, en] at h6
          rw [e1] at q2 q3 ⊢
          exact ⟨j1, ownP_yes j2 j3 (by omega) (by omega) j6 h6 (by rw [HX.out.2]; exact q1) q2 q3⟩
        clear hR b3 f5 g5 hne hln
        by_cases hx0 : x = 0
        · have hx0' : ((x : Int) == 0) = true := by simp; omega
          obtain ⟨xe, hxe⟩ := hD5.noEnd
          go_wp2_with fail
          refine (fail_walk xe hM5).mono ?_
          rintro e w6 ⟨rfl, hM6, k6⟩
          obtain ⟨bd6, hbd6⟩ : ∃ bd6, bd6 = true := ⟨_, rfl⟩
          rw [← hbd6] at hM6
          have HX6 : Hid ((bd6 = false → x ≠ 0) ∧ (x ≠ 0 → bd6 = false)) := ⟨fun hb => (by rw [hb] at hbd6; cases hbd6), fun hq => absurd hx0 hq⟩
          clear hbd6 hxe hx0 hx0'
          have hO6 := hO5.next k6
          have hLA6 := hLA.kept (k6.apart hag).2
          have hag6 := (k6.apart hag).1
          have hb1 : (n1 : Int) ≤ (cap : Int) := by omega
          have hb2 : (n1 : Int) ≤ (n : Int) := by omega
          clear hM5 hO5 hD5 hL5 hLA hag k6
          go_wp2_with fail
          refine (makeCode_val hM6 (lb := g) (lo := 0) (lens := l.take n1) (hLA6.take n1) (by rw [List.length_take]; have := HLn.out; omega) (by rw [List.length_take]; have := HLn.out; omega) (fun x hx => hl15 x (List.mem_of_mem_take hx)) n1 (by rw [List.length_take]; have := HLn.out; omega)).mono ?_
          rintro e w7 ⟨Va, rfl, hB7, hVa, HGa⟩
          have hM7 : MA mb base s (p5 / 8) (p5 % 8) out most bd6 w7 := MA.grow hM6 hB7
          have hO7 := hO6.step hlb hbl hB7
          have hLA7 := hLA6.kept (hB7.block g hag6.1)
          have hag7 : g < w7.heap.size := Nat.lt_of_lt_of_le hag6.1 hB7.size
          have hs6 := hO6.a1.1
          have hs7 := hO7.a1.1
          have hVal := hVa.len
          have HIAa : Hid ((Tryd.prog.info? 77).map (·.size) = some Va.toArray.size) := by show _ = some Va.length; rw [hVal]; exact codeInfo
          have HLAa : Hid (Va.toArray.all (·.oneCell') = true) := all_oneCell_toArray hVa.one
          have HTha : Hid (w7.there (w.heap.size + 1) 0 Va.toArray.size) := fun j hj => hO7.th j (by have : j < Va.length := hj; omega)
          have hO8 := hO7.put1 hlb hbl hVal hVa.one
          have hM8 := MA.sets hM7 hO7.a1 0 Va
          have hFa : Fresh w6.heap.size Va := HGa.out
          have hml7 : mb < w7.heap.size := by omega
          have hVa8 := hVa.sets hFa hs6 (by omega) hml7 0 Va
          have hLA8 := hLA7.kept (w2 := w7.setCells (w.heap.size + 1) 0 Va) (heap_setCells _ g (by omega) _ _ _)
          have hag8 : g < (w7.setCells (w.heap.size + 1) 0 Va).heap.size := by rw [size_setCells]; exact hag7
          have hs8 : w6.heap.size ≤ (w7.setCells (w.heap.size + 1) 0 Va).heap.size := by rw [size_setCells]; exact hB7.size
          clear hM6 hO6 hB7 hVa hM7 hO7 hLA7 hag7 hLA6 hag6 hml7
          go_wp2_with (refine wpList_store_mid rfl 77 _ _ rfl (w.heap.size + 1) 0 Va.toArray rfl rfl HTha.out HIAa.out HLAa.out ?_)
          generalize w7.setCells (w.heap.size + 1) 0 Va = w8 at *
          clear HTha HIAa HLAa
          refine (makeCode_val hM8 (lb := g) (lo := n1) (lens := l.drop n1) (hLA8.drop n1) (by rw [List.length_drop]; have := HLn.out; have := HN.out; omega) (by rw [List.length_drop]; have := HLn.out; omega) (fun x hx => hl15 x (List.mem_of_mem_drop hx)) (n - n1) (by rw [List.length_drop]; have := HLn.out; omega)).mono ?_
          rintro e w9 ⟨Vb, rfl, hB9, hVb, HGb⟩
          have hM9 : MA mb base s (p5 / 8) (p5 % 8) out most bd6 w9 := MA.grow hM8 hB9
          have hO9 := hO8.step hlb hbl hB9
          have hml8 : mb < w8.heap.size := by omega
          have hml9 : mb < w9.heap.size := Nat.lt_of_lt_of_le hml8 hB9.size
          have hVa9 := hVa8.step hB9 hml8
          have hVbl := hVb.len
          have hFb : Fresh w6.heap.size Vb := Fresh.mono HGb.out hs8
          have HIAb : Hid ((Tryd.prog.info? 77).map (·.size) = some Vb.toArray.size) := by show _ = some Vb.length; rw [hVbl]; exact codeInfo
          have HLAb : Hid (Vb.toArray.all (·.oneCell') = true) := all_oneCell_toArray hVb.one
          have HThb : Hid (w9.there (w.heap.size + 1) 17 Vb.toArray.size) := fun j hj => by have := hO9.th (17 + j) (by have : j < Vb.length := hj; omega); rw [Nat.zero_add] at this; exact this
          have hO10 := hO9.put2 hlb hbl hVbl hVb.one
          have hM10 := MA.sets hM9 hO9.a1 17 Vb
          have hVb10 := hVb.sets hFb hs6 (by omega) hml9 17 Vb
          have hVa10 := hVa9.sets hFa hs6 (by omega) hml9 17 Vb
          have hCa := CodeK.of_val hVa10 hO10.a1 hO10.r1
          have hCb := CodeK.of_val hVb10 hO10.a1 hO10.r2
          have hFa1 : Fresh (w.heap.size + 1) Va := hFa.mono (by omega)
          have hFb1 : Fresh (w.heap.size + 1) Vb := hFb.mono (by omega)
          have hla : (l.take n1).length ≤ 1000 := by rw [List.length_take]; have := HLn.out; omega
          have hlb2 : (l.drop n1).length ≤ 1000 := by rw [List.length_drop]; have := HLn.out; omega
          clear hM8 hO8 hB9 hVb hM9 hO9 hVa9 hVa8 hml8 hml9 hLA8
          go_wp2_with (refine wpList_store_mid rfl 77 _ _ rfl (w.heap.size + 1) 17 Vb.toArray rfl rfl HThb.out HIAb.out HLAb.out ?_)
          generalize w9.setCells (w.heap.size + 1) 17 Vb = w10 at *
          clear HThb HIAb HLAb
          refine (complete_walk hCa hla).mono ?_
          rintro e w11 ⟨rfl, hw⟩
          rw [hw]
          clear hw w11
          by_cases hfa : full (l.take n1)
          · simp only [decide_eq_true hfa]
            go_wp2_with fail
            refine (complete_walk hCb hlb2).mono ?_
            rintro e w11 ⟨rfl, hw⟩
            rw [hw]
            clear hw w11
            by_cases hfb : full (l.drop n1)
            · simp only [decide_eq_true hfb]
              have HJ : Hid ((bd6 = false → bad = false ∧ ∃ near far, ownP s pos = some (near, far, p5) ∧ near.length ≤ 1000 ∧ far.length ≤ 1000 ∧ CodeVal mb w10 near Va ∧ CodeVal mb w10 far Vb ∧ Fresh (w.heap.size + 1) Va ∧ Fresh (w.heap.size + 1) Vb) ∧ (bad = false → ownP s pos ≠ none → bd6 = false)) := ⟨fun hb => by
                obtain ⟨q1, q2⟩ := HE4.out (HX6.out.1 hb) hfa (.inl hfb)
                exact ⟨q1, _, _, q2, hla, hlb2, hVa10, hVb10, hFa1, hFb1⟩, fun hb hn => HX6.out.2 (HE3.out hb hn).1⟩
              obtain ⟨V, HV⟩ : ∃ V, Hid (Va ++ Vb = V) := ⟨_, rfl⟩
              have hVl : V.length = 34 := by rw [← HV.out, List.length_append]; have q1 := (hO10).l1; have q2 := (hO10).l2; omega
              have HR5 : Hid ((w10).rangeAt (w.heap.size + 1) 0 V) := by rw [← HV.out]; exact range_app (hO10).r1 (hO10).r2 (hO10).l1
              have HTh5 : Hid ((w10).there w.heap.size 0 V.toArray.size) := by show World.there _ _ _ V.length; rw [hVl]; exact (hO10).res
              have HIA : Hid ((Tryd.prog.info? 79).map (·.size) = some V.length) := by show _ = _; rw [hVl]; exact codesInfo
              have HIB : Hid ((Tryd.prog.info? 79).map (·.size) = some V.toArray.size) := HIA.out
              have HLA : Hid (V.toArray.all (·.oneCell') = true) := all_oneCell_toArray (fun v hv => by
                rw [← HV.out] at hv
                rcases List.mem_append.1 hv with hv | hv
                · exact (hO10).o1 v hv
                · exact (hO10).o2 v hv)
              have HP : Hid (OwnPost mb base s pos out most bad V w ((w10).setCells w.heap.size 0 V)) := by
                rw [← HV.out]
                exact own_post (hO10) hM10 hlb hbl hp5 HJ.out
              clear hM10 hO10 HJ hVa10 hVb10 hCa hCb hFa1 hFb1 hFa hFb hn1 hn2 hn3
              go_wp2_with (first | refine wpList_load_mid rfl 79 (.tmp 3) rfl (w.heap.size + 1) 0 rfl V _ HR5.out Tryd.underlying79 rfl HIA.out ?_ | refine wpList_store_mid rfl 79 (.tmp 2) _ rfl w.heap.size 0 V.toArray rfl rfl HTh5.out HIB.out HLA.out ?_)
              exact bodyPost_ret (v := .agg V.toArray) (results_cell_mid rfl _ _ w.heap.size V _ rfl (rangeAt_put _ _ _ HTh5.out) Tryd.underlying79 rfl HIA.out) rfl ⟨V, rfl, HP.out⟩
            · simp only [decide_eq_false hfb]
              go_wp2_with fail
              refine (lone_walk hCb hlb2).mono ?_
              rintro e w11 ⟨rfl, hw⟩
              rw [hw]
              clear hw w11
              by_cases hlo : loneP (l.drop n1)
              · simp only [decide_eq_true hlo]
                have HJ : Hid ((bd6 = false → bad = false ∧ ∃ near far, ownP s pos = some (near, far, p5) ∧ near.length ≤ 1000 ∧ far.length ≤ 1000 ∧ CodeVal mb w10 near Va ∧ CodeVal mb w10 far Vb ∧ Fresh (w.heap.size + 1) Va ∧ Fresh (w.heap.size + 1) Vb) ∧ (bad = false → ownP s pos ≠ none → bd6 = false)) := ⟨fun hb => by
                  obtain ⟨q1, q2⟩ := HE4.out (HX6.out.1 hb) hfa (.inr hlo)
                  exact ⟨q1, _, _, q2, hla, hlb2, hVa10, hVb10, hFa1, hFb1⟩, fun hb hn => HX6.out.2 (HE3.out hb hn).1⟩
                obtain ⟨V, HV⟩ : ∃ V, Hid (Va ++ Vb = V) := ⟨_, rfl⟩
                have hVl : V.length = 34 := by rw [← HV.out, List.length_append]; have q1 := (hO10).l1; have q2 := (hO10).l2; omega
                have HR5 : Hid ((w10).rangeAt (w.heap.size + 1) 0 V) := by rw [← HV.out]; exact range_app (hO10).r1 (hO10).r2 (hO10).l1
                have HTh5 : Hid ((w10).there w.heap.size 0 V.toArray.size) := by show World.there _ _ _ V.length; rw [hVl]; exact (hO10).res
                have HIA : Hid ((Tryd.prog.info? 79).map (·.size) = some V.length) := by show _ = _; rw [hVl]; exact codesInfo
                have HIB : Hid ((Tryd.prog.info? 79).map (·.size) = some V.toArray.size) := HIA.out
                have HLA : Hid (V.toArray.all (·.oneCell') = true) := all_oneCell_toArray (fun v hv => by
                  rw [← HV.out] at hv
                  rcases List.mem_append.1 hv with hv | hv
                  · exact (hO10).o1 v hv
                  · exact (hO10).o2 v hv)
                have HP : Hid (OwnPost mb base s pos out most bad V w ((w10).setCells w.heap.size 0 V)) := by
                  rw [← HV.out]
                  exact own_post (hO10) hM10 hlb hbl hp5 HJ.out
                clear hM10 hO10 HJ hVa10 hVb10 hCa hCb hFa1 hFb1 hFa hFb hn1 hn2 hn3
                go_wp2_with (first | refine wpList_load_mid rfl 79 (.tmp 3) rfl (w.heap.size + 1) 0 rfl V _ HR5.out Tryd.underlying79 rfl HIA.out ?_ | refine wpList_store_mid rfl 79 (.tmp 2) _ rfl w.heap.size 0 V.toArray rfl rfl HTh5.out HIB.out HLA.out ?_)
                exact bodyPost_ret (v := .agg V.toArray) (results_cell_mid rfl _ _ w.heap.size V _ rfl (rangeAt_put _ _ _ HTh5.out) Tryd.underlying79 rfl HIA.out) rfl ⟨V, rfl, HP.out⟩
              · simp only [decide_eq_false hlo]
                obtain ⟨xe2, hxe2⟩ := (hD.kept hO10.kept hg hlb).lengths
                go_wp2_with fail
                refine (fail_walk xe2 hM10).mono ?_
                rintro e w11 ⟨rfl, hM11, k11⟩
                have hO11 := hO10.next k11
                have HJ : Hid ((true = false → bad = false ∧ ∃ near far, ownP s pos = some (near, far, p5) ∧ near.length ≤ 1000 ∧ far.length ≤ 1000 ∧ CodeVal mb w11 near Va ∧ CodeVal mb w11 far Vb ∧ Fresh (w.heap.size + 1) Va ∧ Fresh (w.heap.size + 1) Vb) ∧ (bad = false → ownP s pos ≠ none → true = false)) := ⟨(by intro hc; cases hc), fun hb hn => by
                  obtain ⟨_, q2, q3⟩ := HE3.out hb hn
                  exact absurd q3 (fun q => by rcases q with q | q; exact hfb q; exact hlo q)⟩
                obtain ⟨V, HV⟩ : ∃ V, Hid (Va ++ Vb = V) := ⟨_, rfl⟩
                have hVl : V.length = 34 := by rw [← HV.out, List.length_append]; have q1 := (hO11).l1; have q2 := (hO11).l2; omega
                have HR5 : Hid ((w11).rangeAt (w.heap.size + 1) 0 V) := by rw [← HV.out]; exact range_app (hO11).r1 (hO11).r2 (hO11).l1
                have HTh5 : Hid ((w11).there w.heap.size 0 V.toArray.size) := by show World.there _ _ _ V.length; rw [hVl]; exact (hO11).res
                have HIA : Hid ((Tryd.prog.info? 79).map (·.size) = some V.length) := by show _ = _; rw [hVl]; exact codesInfo
                have HIB : Hid ((Tryd.prog.info? 79).map (·.size) = some V.toArray.size) := HIA.out
                have HLA : Hid (V.toArray.all (·.oneCell') = true) := all_oneCell_toArray (fun v hv => by
                  rw [← HV.out] at hv
                  rcases List.mem_append.1 hv with hv | hv
                  · exact (hO11).o1 v hv
                  · exact (hO11).o2 v hv)
                have HP : Hid (OwnPost mb base s pos out most bad V w ((w11).setCells w.heap.size 0 V)) := by
                  rw [← HV.out]
                  exact own_post (hO11) hM11 hlb hbl hp5 HJ.out
                clear hM10 hO10 hM11 hO11 k11 hxe2 HJ hVa10 hVb10 hCa hCb hFa1 hFb1 hFa hFb hn1 hn2 hn3
                go_wp2_with (first | refine wpList_load_mid rfl 79 (.tmp 3) rfl (w.heap.size + 1) 0 rfl V _ HR5.out Tryd.underlying79 rfl HIA.out ?_ | refine wpList_store_mid rfl 79 (.tmp 2) _ rfl w.heap.size 0 V.toArray rfl rfl HTh5.out HIB.out HLA.out ?_)
                exact bodyPost_ret (v := .agg V.toArray) (results_cell_mid rfl _ _ w.heap.size V _ rfl (rangeAt_put _ _ _ HTh5.out) Tryd.underlying79 rfl HIA.out) rfl ⟨V, rfl, HP.out⟩
          · simp only [decide_eq_false hfa]
            obtain ⟨xe2, hxe2⟩ := (hD.kept hO10.kept hg hlb).lengths
            go_wp2_with fail
            refine (fail_walk xe2 hM10).mono ?_
            rintro e w11 ⟨rfl, hM11, k11⟩
            have hO11 := hO10.next k11
            have HJ : Hid ((true = false → bad = false ∧ ∃ near far, ownP s pos = some (near, far, p5) ∧ near.length ≤ 1000 ∧ far.length ≤ 1000 ∧ CodeVal mb w11 near Va ∧ CodeVal mb w11 far Vb ∧ Fresh (w.heap.size + 1) Va ∧ Fresh (w.heap.size + 1) Vb) ∧ (bad = false → ownP s pos ≠ none → true = false)) := ⟨(by intro hc; cases hc), fun hb hn => by
              obtain ⟨_, q2, q3⟩ := HE3.out hb hn
              exact absurd q2 hfa⟩
            obtain ⟨V, HV⟩ : ∃ V, Hid (Va ++ Vb = V) := ⟨_, rfl⟩
            have hVl : V.length = 34 := by rw [← HV.out, List.length_append]; have q1 := (hO11).l1; have q2 := (hO11).l2; omega
            have HR5 : Hid ((w11).rangeAt (w.heap.size + 1) 0 V) := by rw [← HV.out]; exact range_app (hO11).r1 (hO11).r2 (hO11).l1
            have HTh5 : Hid ((w11).there w.heap.size 0 V.toArray.size) := by show World.there _ _ _ V.length; rw [hVl]; exact (hO11).res
            have HIA : Hid ((Tryd.prog.info? 79).map (·.size) = some V.length) := by show _ = _; rw [hVl]; exact codesInfo
            have HIB : Hid ((Tryd.prog.info? 79).map (·.size) = some V.toArray.size) := HIA.out
            have HLA : Hid (V.toArray.all (·.oneCell') = true) := all_oneCell_toArray (fun v hv => by
              rw [← HV.out] at hv
              rcases List.mem_append.1 hv with hv | hv
              · exact (hO11).o1 v hv
              · exact (hO11).o2 v hv)
            have HP : Hid (OwnPost mb base s pos out most bad V w ((w11).setCells w.heap.size 0 V)) := by
              rw [← HV.out]
              exact own_post (hO11) hM11 hlb hbl hp5 HJ.out
            clear hM10 hO10 hM11 hO11 k11 hxe2 HJ hVa10 hVb10 hCa hCb hFa1 hFb1 hFa hFb hn1 hn2 hn3
            go_wp2_with (first | refine wpList_load_mid rfl 79 (.tmp 3) rfl (w.heap.size + 1) 0 rfl V _ HR5.out Tryd.underlying79 rfl HIA.out ?_ | refine wpList_store_mid rfl 79 (.tmp 2) _ rfl w.heap.size 0 V.toArray rfl rfl HTh5.out HIB.out HLA.out ?_)
            exact bodyPost_ret (v := .agg V.toArray) (results_cell_mid rfl _ _ w.heap.size V _ rfl (rangeAt_put _ _ _ HTh5.out) Tryd.underlying79 rfl HIA.out) rfl ⟨V, rfl, HP.out⟩
        · have hx0' : ((x : Int) == 0) = false := by rw [beq_eq_false_iff_ne]; omega
          obtain ⟨w6, hw6⟩ : ∃ w6, w6 = w5 := ⟨_, rfl⟩
          have k6 : Kept mb base w5 w6 := by rw [hw6]; exact Kept.refl _ _ _
          obtain ⟨bd6, hbd6⟩ : ∃ bd6, bd6 = false := ⟨_, rfl⟩
          have hM6 : MW mb base s p5 out most bd6 w6 := by rw [hw6, hbd6]; exact hM5
          have HX6 : Hid ((bd6 = false → x ≠ 0) ∧ (x ≠ 0 → bd6 = false)) := ⟨fun _ => hx0, fun _ => hbd6⟩
          have hcx6 : w6.cell? ⟨g, 256, none⟩ = some (.int .i64 (x : Int)) := by rw [hw6]; exact hcx
          have hc56 : w6.cell? ⟨mb, 5, none⟩ = some .nilIface := by rw [hw6]; exact c5
          rw [← hw6]
          clear hw6 hbd6 hx0
          have hO6 := hO5.next k6
          have hLA6 := hLA.kept (k6.apart hag).2
          have hag6 := (k6.apart hag).1
          have hb1 : (n1 : Int) ≤ (cap : Int) := by omega
          have hb2 : (n1 : Int) ≤ (n : Int) := by omega
          clear hM5 hO5 hD5 hL5 hLA hag k6
          go_wp2_with fail
          refine (makeCode_val hM6 (lb := g) (lo := 0) (lens := l.take n1) (hLA6.take n1) (by rw [List.length_take]; have := HLn.out; omega) (by rw [List.length_take]; have := HLn.out; omega) (fun x hx => hl15 x (List.mem_of_mem_take hx)) n1 (by rw [List.length_take]; have := HLn.out; omega)).mono ?_
          rintro e w7 ⟨Va, rfl, hB7, hVa, HGa⟩
          have hM7 : MA mb base s (p5 / 8) (p5 % 8) out most bd6 w7 := MA.grow hM6 hB7
          have hO7 := hO6.step hlb hbl hB7
          have hLA7 := hLA6.kept (hB7.block g hag6.1)
          have hag7 : g < w7.heap.size := Nat.lt_of_lt_of_le hag6.1 hB7.size
          have hs6 := hO6.a1.1
          have hs7 := hO7.a1.1
          have hVal := hVa.len
          have HIAa : Hid ((Tryd.prog.info? 77).map (·.size) = some Va.toArray.size) := by show _ = some Va.length; rw [hVal]; exact codeInfo
          have HLAa : Hid (Va.toArray.all (·.oneCell') = true) := all_oneCell_toArray hVa.one
          have HTha : Hid (w7.there (w.heap.size + 1) 0 Va.toArray.size) := fun j hj => hO7.th j (by have : j < Va.length := hj; omega)
          have hO8 := hO7.put1 hlb hbl hVal hVa.one
          have hM8 := MA.sets hM7 hO7.a1 0 Va
          have hFa : Fresh w6.heap.size Va := HGa.out
          have hml7 : mb < w7.heap.size := by omega
          have hVa8 := hVa.sets hFa hs6 (by omega) hml7 0 Va
          have hLA8 := hLA7.kept (w2 := w7.setCells (w.heap.size + 1) 0 Va) (heap_setCells _ g (by omega) _ _ _)
          have hag8 : g < (w7.setCells (w.heap.size + 1) 0 Va).heap.size := by rw [size_setCells]; exact hag7
          have hs8 : w6.heap.size ≤ (w7.setCells (w.heap.size + 1) 0 Va).heap.size := by rw [size_setCells]; exact hB7.size
          clear hM6 hO6 hB7 hVa hM7 hO7 hLA7 hag7 hLA6 hag6 hml7
          go_wp2_with (refine wpList_store_mid rfl 77 _ _ rfl (w.heap.size + 1) 0 Va.toArray rfl rfl HTha.out HIAa.out HLAa.out ?_)
          generalize w7.setCells (w.heap.size + 1) 0 Va = w8 at *
          clear HTha HIAa HLAa
          refine (makeCode_val hM8 (lb := g) (lo := n1) (lens := l.drop n1) (hLA8.drop n1) (by rw [List.length_drop]; have := HLn.out; have := HN.out; omega) (by rw [List.length_drop]; have := HLn.out; omega) (fun x hx => hl15 x (List.mem_of_mem_drop hx)) (n - n1) (by rw [List.length_drop]; have := HLn.out; omega)).mono ?_
          rintro e w9 ⟨Vb, rfl, hB9, hVb, HGb⟩
          have hM9 : MA mb base s (p5 / 8) (p5 % 8) out most bd6 w9 := MA.grow hM8 hB9
          have hO9 := hO8.step hlb hbl hB9
          have hml8 : mb < w8.heap.size := by omega
          have hml9 : mb < w9.heap.size := Nat.lt_of_lt_of_le hml8 hB9.size
          have hVa9 := hVa8.step hB9 hml8
          have hVbl := hVb.len
          have hFb : Fresh w6.heap.size Vb := Fresh.mono HGb.out hs8
          have HIAb : Hid ((Tryd.prog.info? 77).map (·.size) = some Vb.toArray.size) := by show _ = some Vb.length; rw [hVbl]; exact codeInfo
          have HLAb : Hid (Vb.toArray.all (·.oneCell') = true) := all_oneCell_toArray hVb.one
          have HThb : Hid (w9.there (w.heap.size + 1) 17 Vb.toArray.size) := fun j hj => by have := hO9.th (17 + j) (by have : j < Vb.length := hj; omega); rw [Nat.zero_add] at this; exact this
          have hO10 := hO9.put2 hlb hbl hVbl hVb.one
          have hM10 := MA.sets hM9 hO9.a1 17 Vb
          have hVb10 := hVb.sets hFb hs6 (by omega) hml9 17 Vb
          have hVa10 := hVa9.sets hFa hs6 (by omega) hml9 17 Vb
          have hCa := CodeK.of_val hVa10 hO10.a1 hO10.r1
          have hCb := CodeK.of_val hVb10 hO10.a1 hO10.r2
          have hFa1 : Fresh (w.heap.size + 1) Va := hFa.mono (by omega)
          have hFb1 : Fresh (w.heap.size + 1) Vb := hFb.mono (by omega)
          have hla : (l.take n1).length ≤ 1000 := by rw [List.length_take]; have := HLn.out; omega
          have hlb2 : (l.drop n1).length ≤ 1000 := by rw [List.length_drop]; have := HLn.out; omega
          clear hM8 hO8 hB9 hVb hM9 hO9 hVa9 hVa8 hml8 hml9 hLA8
          go_wp2_with (refine wpList_store_mid rfl 77 _ _ rfl (w.heap.size + 1) 17 Vb.toArray rfl rfl HThb.out HIAb.out HLAb.out ?_)
          generalize w9.setCells (w.heap.size + 1) 17 Vb = w10 at *
          clear HThb HIAb HLAb
          refine (complete_walk hCa hla).mono ?_
          rintro e w11 ⟨rfl, hw⟩
          rw [hw]
          clear hw w11
          by_cases hfa : full (l.take n1)
          · simp only [decide_eq_true hfa]
            go_wp2_with fail
            refine (complete_walk hCb hlb2).mono ?_
            rintro e w11 ⟨rfl, hw⟩
            rw [hw]
            clear hw w11
            by_cases hfb : full (l.drop n1)
            · simp only [decide_eq_true hfb]
              have HJ : Hid ((bd6 = false → bad = false ∧ ∃ near far, ownP s pos = some (near, far, p5) ∧ near.length ≤ 1000 ∧ far.length ≤ 1000 ∧ CodeVal mb w10 near Va ∧ CodeVal mb w10 far Vb ∧ Fresh (w.heap.size + 1) Va ∧ Fresh (w.heap.size + 1) Vb) ∧ (bad = false → ownP s pos ≠ none → bd6 = false)) := ⟨fun hb => by
                obtain ⟨q1, q2⟩ := HE4.out (HX6.out.1 hb) hfa (.inl hfb)
                exact ⟨q1, _, _, q2, hla, hlb2, hVa10, hVb10, hFa1, hFb1⟩, fun hb hn => HX6.out.2 (HE3.out hb hn).1⟩
              obtain ⟨V, HV⟩ : ∃ V, Hid (Va ++ Vb = V) := ⟨_, rfl⟩
              have hVl : V.length = 34 := by rw [← HV.out, List.length_append]; have q1 := (hO10).l1; have q2 := (hO10).l2; omega
              have HR5 : Hid ((w10).rangeAt (w.heap.size + 1) 0 V) := by rw [← HV.out]; exact range_app (hO10).r1 (hO10).r2 (hO10).l1
              have HTh5 : Hid ((w10).there w.heap.size 0 V.toArray.size) := by show World.there _ _ _ V.length; rw [hVl]; exact (hO10).res
              have HIA : Hid ((Tryd.prog.info? 79).map (·.size) = some V.length) := by show _ = _; rw [hVl]; exact codesInfo
              have HIB : Hid ((Tryd.prog.info? 79).map (·.size) = some V.toArray.size) := HIA.out
              have HLA : Hid (V.toArray.all (·.oneCell') = true) := all_oneCell_toArray (fun v hv => by
                rw [← HV.out] at hv
                rcases List.mem_append.1 hv with hv | hv
                · exact (hO10).o1 v hv
                · exact (hO10).o2 v hv)
              have HP : Hid (OwnPost mb base s pos out most bad V w ((w10).setCells w.heap.size 0 V)) := by
                rw [← HV.out]
                exact own_post (hO10) hM10 hlb hbl hp5 HJ.out
              clear hM10 hO10 HJ hVa10 hVb10 hCa hCb hFa1 hFb1 hFa hFb hn1 hn2 hn3
              go_wp2_with (first | refine wpList_load_mid rfl 79 (.tmp 3) rfl (w.heap.size + 1) 0 rfl V _ HR5.out Tryd.underlying79 rfl HIA.out ?_ | refine wpList_store_mid rfl 79 (.tmp 2) _ rfl w.heap.size 0 V.toArray rfl rfl HTh5.out HIB.out HLA.out ?_)
              exact bodyPost_ret (v := .agg V.toArray) (results_cell_mid rfl _ _ w.heap.size V _ rfl (rangeAt_put _ _ _ HTh5.out) Tryd.underlying79 rfl HIA.out) rfl ⟨V, rfl, HP.out⟩
            · simp only [decide_eq_false hfb]
              go_wp2_with fail
              refine (lone_walk hCb hlb2).mono ?_
              rintro e w11 ⟨rfl, hw⟩
              rw [hw]
              clear hw w11
              by_cases hlo : loneP (l.drop n1)
              · simp only [decide_eq_true hlo]
                have HJ : Hid ((bd6 = false → bad = false ∧ ∃ near far, ownP s pos = some (near, far, p5) ∧ near.length ≤ 1000 ∧ far.length ≤ 1000 ∧ CodeVal mb w10 near Va ∧ CodeVal mb w10 far Vb ∧ Fresh (w.heap.size + 1) Va ∧ Fresh (w.heap.size + 1) Vb) ∧ (bad = false → ownP s pos ≠ none → bd6 = false)) := ⟨fun hb => by
                  obtain ⟨q1, q2⟩ := HE4.out (HX6.out.1 hb) hfa (.inr hlo)
                  exact ⟨q1, _, _, q2, hla, hlb2, hVa10, hVb10, hFa1, hFb1⟩, fun hb hn => HX6.out.2 (HE3.out hb hn).1⟩
                obtain ⟨V, HV⟩ : ∃ V, Hid (Va ++ Vb = V) := ⟨_, rfl⟩
                have hVl : V.length = 34 := by rw [← HV.out, List.length_append]; have q1 := (hO10).l1; have q2 := (hO10).l2; omega
                have HR5 : Hid ((w10).rangeAt (w.heap.size + 1) 0 V) := by rw [← HV.out]; exact range_app (hO10).r1 (hO10).r2 (hO10).l1
                have HTh5 : Hid ((w10).there w.heap.size 0 V.toArray.size) := by show World.there _ _ _ V.length; rw [hVl]; exact (hO10).res
                have HIA : Hid ((Tryd.prog.info? 79).map (·.size) = some V.length) := by show _ = _; rw [hVl]; exact codesInfo
                have HIB : Hid ((Tryd.prog.info? 79).map (·.size) = some V.toArray.size) := HIA.out
                have HLA : Hid (V.toArray.all (·.oneCell') = true) := all_oneCell_toArray (fun v hv => by
                  rw [← HV.out] at hv
                  rcases List.mem_append.1 hv with hv | hv
                  · exact (hO10).o1 v hv
                  · exact (hO10).o2 v hv)
                have HP : Hid (OwnPost mb base s pos out most bad V w ((w10).setCells w.heap.size 0 V)) := by
                  rw [← HV.out]
                  exact own_post (hO10) hM10 hlb hbl hp5 HJ.out
                clear hM10 hO10 HJ hVa10 hVb10 hCa hCb hFa1 hFb1 hFa hFb hn1 hn2 hn3
                go_wp2_with (first | refine wpList_load_mid rfl 79 (.tmp 3) rfl (w.heap.size + 1) 0 rfl V _ HR5.out Tryd.underlying79 rfl HIA.out ?_ | refine wpList_store_mid rfl 79 (.tmp 2) _ rfl w.heap.size 0 V.toArray rfl rfl HTh5.out HIB.out HLA.out ?_)
                exact bodyPost_ret (v := .agg V.toArray) (results_cell_mid rfl _ _ w.heap.size V _ rfl (rangeAt_put _ _ _ HTh5.out) Tryd.underlying79 rfl HIA.out) rfl ⟨V, rfl, HP.out⟩
              · simp only [decide_eq_false hlo]
                obtain ⟨xe2, hxe2⟩ := (hD.kept hO10.kept hg hlb).lengths
                go_wp2_with fail
                refine (fail_walk xe2 hM10).mono ?_
                rintro e w11 ⟨rfl, hM11, k11⟩
                have hO11 := hO10.next k11
                have HJ : Hid ((true = false → bad = false ∧ ∃ near far, ownP s pos = some (near, far, p5) ∧ near.length ≤ 1000 ∧ far.length ≤ 1000 ∧ CodeVal mb w11 near Va ∧ CodeVal mb w11 far Vb ∧ Fresh (w.heap.size + 1) Va ∧ Fresh (w.heap.size + 1) Vb) ∧ (bad = false → ownP s pos ≠ none → true = false)) := ⟨(by intro hc; cases hc), fun hb hn => by
                  obtain ⟨_, q2, q3⟩ := HE3.out hb hn
                  exact absurd q3 (fun q => by rcases q with q | q; exact hfb q; exact hlo q)⟩
                obtain ⟨V, HV⟩ : ∃ V, Hid (Va ++ Vb = V) := ⟨_, rfl⟩
                have hVl : V.length = 34 := by rw [← HV.out, List.length_append]; have q1 := (hO11).l1; have q2 := (hO11).l2; omega
                have HR5 : Hid ((w11).rangeAt (w.heap.size + 1) 0 V) := by rw [← HV.out]; exact range_app (hO11).r1 (hO11).r2 (hO11).l1
                have HTh5 : Hid ((w11).there w.heap.size 0 V.toArray.size) := by show World.there _ _ _ V.length; rw [hVl]; exact (hO11).res
                have HIA : Hid ((Tryd.prog.info? 79).map (·.size) = some V.length) := by show _ = _; rw [hVl]; exact codesInfo
                have HIB : Hid ((Tryd.prog.info? 79).map (·.size) = some V.toArray.size) := HIA.out
                have HLA : Hid (V.toArray.all (·.oneCell') = true) := all_oneCell_toArray (fun v hv => by
                  rw [← HV.out] at hv
                  rcases List.mem_append.1 hv with hv | hv
                  · exact (hO11).o1 v hv
                  · exact (hO11).o2 v hv)
                have HP : Hid (OwnPost mb base s pos out most bad V w ((w11).setCells w.heap.size 0 V)) := by
                  rw [← HV.out]
                  exact own_post (hO11) hM11 hlb hbl hp5 HJ.out
                clear hM10 hO10 hM11 hO11 k11 hxe2 HJ hVa10 hVb10 hCa hCb hFa1 hFb1 hFa hFb hn1 hn2 hn3
                go_wp2_with (first | refine wpList_load_mid rfl 79 (.tmp 3) rfl (w.heap.size + 1) 0 rfl V _ HR5.out Tryd.underlying79 rfl HIA.out ?_ | refine wpList_store_mid rfl 79 (.tmp 2) _ rfl w.heap.size 0 V.toArray rfl rfl HTh5.out HIB.out HLA.out ?_)
                exact bodyPost_ret (v := .agg V.toArray) (results_cell_mid rfl _ _ w.heap.size V _ rfl (rangeAt_put _ _ _ HTh5.out) Tryd.underlying79 rfl HIA.out) rfl ⟨V, rfl, HP.out⟩
          · simp only [decide_eq_false hfa]
            obtain ⟨xe2, hxe2⟩ := (hD.kept hO10.kept hg hlb).lengths
            go_wp2_with fail
            refine (fail_walk xe2 hM10).mono ?_
            rintro e w11 ⟨rfl, hM11, k11⟩
            have hO11 := hO10.next k11
            have HJ : Hid ((true = false → bad = false ∧ ∃ near far, ownP s pos = some (near, far, p5) ∧ near.length ≤ 1000 ∧ far.length ≤ 1000 ∧ CodeVal mb w11 near Va ∧ CodeVal mb w11 far Vb ∧ Fresh (w.heap.size + 1) Va ∧ Fresh (w.heap.size + 1) Vb) ∧ (bad = false → ownP s pos ≠ none → true = false)) := ⟨(by intro hc; cases hc), fun hb hn => by
              obtain ⟨_, q2, q3⟩ := HE3.out hb hn
              exact absurd q2 hfa⟩
            obtain ⟨V, HV⟩ : ∃ V, Hid (Va ++ Vb = V) := ⟨_, rfl⟩
            have hVl : V.length = 34 := by rw [← HV.out, List.length_append]; have q1 := (hO11).l1; have q2 := (hO11).l2; omega
            have HR5 : Hid ((w11).rangeAt (w.heap.size + 1) 0 V) := by rw [← HV.out]; exact range_app (hO11).r1 (hO11).r2 (hO11).l1
            have HTh5 : Hid ((w11).there w.heap.size 0 V.toArray.size) := by show World.there _ _ _ V.length; rw [hVl]; exact (hO11).res
            have HIA : Hid ((Tryd.prog.info? 79).map (·.size) = some V.length) := by show _ = _; rw [hVl]; exact codesInfo
            have HIB : Hid ((Tryd.prog.info? 79).map (·.size) = some V.toArray.size) := HIA.out
            have HLA : Hid (V.toArray.all (·.oneCell') = true) := all_oneCell_toArray (fun v hv => by
              rw [← HV.out] at hv
              rcases List.mem_append.1 hv with hv | hv
              · exact (hO11).o1 v hv
              · exact (hO11).o2 v hv)
            have HP : Hid (OwnPost mb base s pos out most bad V w ((w11).setCells w.heap.size 0 V)) := by
              rw [← HV.out]
              exact own_post (hO11) hM11 hlb hbl hp5 HJ.out
            clear hM10 hO10 hM11 hO11 k11 hxe2 HJ hVa10 hVb10 hCa hCb hFa1 hFb1 hFa hFb hn1 hn2 hn3
            go_wp2_with (first | refine wpList_load_mid rfl 79 (.tmp 3) rfl (w.heap.size + 1) 0 rfl V _ HR5.out Tryd.underlying79 rfl HIA.out ?_ | refine wpList_store_mid rfl 79 (.tmp 2) _ rfl w.heap.size 0 V.toArray rfl rfl HTh5.out HIB.out HLA.out ?_)
            exact bodyPost_ret (v := .agg V.toArray) (results_cell_mid rfl _ _ w.heap.size V _ rfl (rangeAt_put _ _ _ HTh5.out) Tryd.underlying79 rfl HIA.out) rfl ⟨V, rfl, HP.out⟩
end
end Go.Proofs.YtjilhneefbakhaaDoor.Inf
