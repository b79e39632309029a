/- The machine goes through the blocks of any text. -/
import Derived.Test.YtjilhneefbakhaaDoorCodeJ
namespace Go.Proofs.YtjilhneefbakhaaDoor.Inf
open Go.RowKit Go.Proofs.YtjilhneefbakhaaDoor.Sha

theorem bytesP_le {s : ByteArray} {most : Nat} : ∀ {n pos : Nat} {o : List UInt8} {p : Nat} {o' : List UInt8}, bytesP s most n pos o = some (p, o') → pos ≤ p
  | 0, pos, o, p, o', h => by injection h with h; injection h with h _; omega
  | n + 1, pos, o, p, o', h => by
    rw [bytesP] at h
    split at h
    · have := bytesP_le h; omega
    · cases h
theorem storedP_le {s : ByteArray} {most pos : Nat} {o : List UInt8} {p : Nat} {o' : List UInt8} (h : storedP s most pos o = some (p, o')) : pos ≤ p := by
  unfold storedP at h
  split at h
  · have := bytesP_le h; omega
  · cases h
theorem packG_le {near far : List Nat} {s : ByteArray} {most : Nat} : ∀ {f pos : Nat} {o : List UInt8} {p : Nat} {o' : List UInt8}, packG near far s most f pos o = some (p, o') → pos ≤ p
  | 0, pos, o, p, o', h => by cases h
  | f + 1, pos, o, p, o', h => by
    cases hs : symP near s pos with
    | none => rw [packG_none hs] at h; cases h
    | some r =>
      obtain ⟨x, q⟩ := r
      have hq := (symP_lt hs).2.1
      rw [packG_more hs] at h
      split at h
      · split at h
        · cases h
        · have := packG_le h; omega
      · split at h
        · injection h with h; injection h with h _; omega
        · split at h
          · cases h
          · split at h
            · cases h
            · rename_i q2 o2 hc
              have := (copyP_lt hc).1
              have := packG_le h
              omega
theorem packP_le {near far : List Nat} {s : ByteArray} {most pos : Nat} {o : List UInt8} {p : Nat} {o' : List UInt8} (h : packP near far s most pos o = some (p, o')) : pos ≤ p := packG_le h
theorem lenStep_le {cl : List Nat} {s : ByteArray} {acc : List Nat} {pos x t q : Nat} (h : lenStep cl s acc pos = some (x, t, q)) : pos ≤ q := by
  unfold lenStep at h
  split at h
  · cases h
  · rename_i y p hs
    have hq := (symP_lt hs).2.1
    split at h
    · split at h
      · cases h
      · cases ht : takeP s p 2 with
        | none => rw [ht] at h; cases h
        | some r => rw [ht] at h; obtain ⟨_, _, e⟩ := takeP_some (v := r.1) (p := r.2) ht; injection h with h; injection h with _ h; injection h with _ h; omega
    · split at h
      · cases ht : takeP s p 3 with
        | none => rw [ht] at h; cases h
        | some r => rw [ht] at h; obtain ⟨_, _, e⟩ := takeP_some (v := r.1) (p := r.2) ht; injection h with h; injection h with _ h; injection h with _ h; omega
      · split at h
        · cases ht : takeP s p 7 with
          | none => rw [ht] at h; cases h
          | some r => rw [ht] at h; obtain ⟨_, _, e⟩ := takeP_some (v := r.1) (p := r.2) ht; injection h with h; injection h with _ h; injection h with _ h; omega
        · injection h with h; injection h with _ h; injection h with _ h; omega
theorem lenG_le {cl : List Nat} {s : ByteArray} {many : Nat} : ∀ {f : Nat} {acc : List Nat} {pos : Nat} {l : List Nat} {p : Nat}, lenG cl s many f acc pos = some (l, p) → pos ≤ p
  | 0, acc, pos, l, p, h => by
    rw [lenG] at h
    split at h
    · injection h with h; injection h with _ h; omega
    · cases h
  | f + 1, acc, pos, l, p, h => by
    rw [lenG] at h
    split at h
    · injection h with h; injection h with _ h; omega
    · split at h
      · cases h
      · rename_i x t q hs
        have := lenStep_le hs
        split at h
        · cases h
        · have := lenG_le h; omega
theorem ownP_le {s : ByteArray} {pos : Nat} {near far : List Nat} {p : Nat} (h : ownP s pos = some (near, far, p)) : pos ≤ p := by
  obtain ⟨i1, i2, i3, i4, i5, l, q, i6, i7, i8, i9⟩ := ownP_inv (s := s) (pos := pos) (by rw [h]; simp)
  rw [ownP_yes i1 i2 i3 i4 i5 i6 i7 i8 i9] at h
  injection h with h
  injection h with _ h
  injection h with _ h
  have := lenG_le i6
  omega
theorem blockP_le {s : ByteArray} {most kind pos : Nat} {o : List UInt8} {p : Nat} {o' : List UInt8} (h : blockP s most kind pos o = some (p, o')) : pos ≤ p := by
  unfold blockP at h
  split at h
  · exact storedP_le h
  · split at h
    · exact packP_le h
    · split at h
      · split at h
        · cases h
        · rename_i near far q hq
          have := ownP_le hq
          have := packP_le h
          omega
      · cases h
/-- What is behind a block. -/
def aft (s : ByteArray) (most f last : Nat) : Option (Nat × List UInt8) → Option (Nat × List UInt8)
  | none => none
  | some (p, o) => if last = 0 then runG s most f p o else some (p, o)
theorem runG_eq (s : ByteArray) (most f pos : Nat) (o : List UInt8) : runG s most (f + 1) pos o = if 8 * s.size < pos + 3 then none else aft s most f (bitsVal s pos 1) (blockP s most (bitsVal s (pos + 1) 2) (pos + 3) o) := by
  rw [runG]
  split
  · rfl
  · cases blockP s most (bitsVal s (pos + 1) 2) (pos + 3) o <;> rfl
theorem blockP_0 (s : ByteArray) (most pos : Nat) (o : List UInt8) : blockP s most 0 pos o = storedP s most pos o := rfl
theorem blockP_1 (s : ByteArray) (most pos : Nat) (o : List UInt8) : blockP s most 1 pos o = packP fixN fixD s most pos o := by unfold blockP; rw [if_neg (by decide), if_pos rfl]
theorem blockP_2 (s : ByteArray) (most pos : Nat) (o : List UInt8) : blockP s most 2 pos o = (match ownP s pos with
    | none => none
    | some (near, far, p) => packP near far s most p o) := by
  unfold blockP
  rw [if_neg (by decide), if_neg (by decide), if_pos rfl]
  cases ownP s pos <;> rfl
theorem blockP_3 (s : ByteArray) (most kind pos : Nat) (o : List UInt8) (h : 3 ≤ kind) : blockP s most kind pos o = none := by unfold blockP; rw [if_neg (by omega), if_neg (by omega), if_neg (by omega)]
section
variable {mb base cb : Nat} {s : ByteArray} {pos : Nat} {out : List UInt8} {most : Nat} {bad : Bool} {near far : List Nat} {w : World}
set_option maxRecDepth 100000 in
set_option maxHeartbeats 4000000 in
theorem packed_bad (h : MW mb base s pos out most true w) :
    Calls Tryd.prog 32 #[.pointer (some ⟨mb, 0, none⟩), .pointer (some ⟨cb, 0, none⟩)] w fun e w' => e = .returned (.tuple #[]) ∧ w' = w := by
  obtain ⟨ev, c5, y, rfl⟩ := MA.c5 h
  clear h
  go_enter Tryd.func32, Tryd.ntmps32
  refine scope_fall (fun _ _ _ _ => False) (fun _ _ _ _ _ h => h.elim) ?_
  intro all
  clear all
  go_wp2_with fail
  go_step3
  go_wp2
  simp only [jumps]
  exact bodyPost_ret (results_none rfl _ _ _) rfl ⟨rfl, rfl⟩
theorem packed_any (h : MW mb base s pos out most bad w) (hs : s.size ≤ 140737488355328) (hp : pos ≤ 8 * s.size) (hm : out.length ≤ most) (hm2 : most ≤ 8000) (hD : DefW w) (hT : Tabs w) (hg : 33 ≤ mb) (hC : bad = false → CodeK mb w cb 0 near ∧ CodeK mb w cb 17 far ∧ near.length ≤ 1000 ∧ far.length ≤ 1000) :
    Calls Tryd.prog 32 #[.pointer (some ⟨mb, 0, none⟩), .pointer (some ⟨cb, 0, none⟩)] w fun e w' => e = .returned (.tuple #[]) ∧ ∃ (p : Nat) (o : List UInt8) (bd : Bool), p ≤ 8 * s.size ∧ o.length ≤ most ∧ MW mb base s p o most bd w' ∧ Kept mb base w w' ∧ (bd = false → bad = false ∧ packP near far s most pos out = some (p, o)) ∧ (bad = false → bd = true → packP near far s most pos out = none) := by
  cases bad with
  | true =>
    refine (packed_bad h).mono ?_
    rintro e w' ⟨rfl, rfl⟩
    exact ⟨rfl, pos, out, true, hp, hm, h, Kept.refl _ _ _, (by intro hc; cases hc), (by intro hc; cases hc)⟩
  | false =>
    obtain ⟨c1, c2, c3, c4⟩ := hC rfl
    refine (packed_good h hs hp hm hm2 hD hT hg c1 c2 c3 c4).mono ?_
    rintro e w' ⟨rfl, p, o, bd, h1, h2, h3, h4, h5, h6⟩
    refine ⟨rfl, p, o, bd, h1, h2, h3, h4, fun hb => ⟨rfl, h5 hb⟩, fun _ hb => ?_⟩
    exact Classical.byContradiction fun hn => by rw [h6 hn] at hb; cases hb
end
/-- What lies in memory while the blocks are gone through. -/
structure RunW (mb base : Nat) (FN FD : List Nat) (w wr : World) : Prop where
  fx : wr.cell? ⟨w.heap.size, 16, none⟩ = some (.slice none 0 0) ∨ ∃ C1 C2, wr.rangeAt w.heap.size 0 (C1 ++ C2) ∧ CodeVal mb wr FN C1 ∧ CodeVal mb wr FD C2 ∧ Fresh (w.heap.size + 2) C1 ∧ Fresh (w.heap.size + 2) C2
  tf : wr.there w.heap.size 0 34
  to : wr.there (w.heap.size + 1) 0 34
  a0 : Apart mb wr w.heap.size
  a1 : Apart mb wr (w.heap.size + 1)
  kept : Kept mb base w wr
theorem range_left {w : World} {b o : Nat} {C1 C2 : List Value} (h : w.rangeAt b o (C1 ++ C2)) : w.rangeAt b o C1 := fun j v hj => h j v (by rw [List.getElem?_append_left (List.getElem?_eq_some_iff.1 hj).1]; exact hj)
theorem range_right {w : World} {b : Nat} {C1 C2 : List Value} (h : w.rangeAt b 0 (C1 ++ C2)) (hl : C1.length = 17) : w.rangeAt b 17 C2 := fun j v hj => by
  have := h (17 + j) v (by rw [List.getElem?_append_right (by omega), hl, show 17 + j - 17 = j by omega]; exact hj)
  rw [Nat.zero_add] at this; exact this
section
variable {mb base : Nat} {s : ByteArray} {a b : Nat} {out : List UInt8} {most : Nat} {bad : Bool} {FN FD near far : List Nat} {w wr w2 : World} {C1 C2 : List Value}
theorem RunW.next (h : RunW mb base FN FD w wr) (k : Kept mb base wr w2) : RunW mb base FN FD w w2 := by
  refine ⟨?_, there_block h.tf (k.apart h.a0).2, there_block h.to (k.apart h.a1).2, (k.apart h.a0).1, (k.apart h.a1).1, h.kept.trans k⟩
  rcases h.fx with h1 | ⟨C1, C2, h1, h2, h3, h4, h5⟩
  · exact .inl (by rw [World.cell?_of_block (a := ⟨w.heap.size, 16, none⟩) (w := wr) (k.apart h.a0).2]; exact h1)
  · exact .inr ⟨C1, C2, range_block h1 (k.apart h.a0).2, h2.kept k, h3.kept k, h4, h5⟩
theorem RunW.codes (h : RunW mb base FN FD w wr) (h16 : wr.cell? ⟨w.heap.size, 16, none⟩ ≠ some (.slice none 0 0)) : CodeK mb wr w.heap.size 0 FN ∧ CodeK mb wr w.heap.size 17 FD := by
  rcases h.fx with h1 | ⟨C1, C2, h1, h2, h3, h4, h5⟩
  · exact absurd h1 h16
  · exact ⟨CodeK.of_val h2 h.a0 (range_left h1), CodeK.of_val h3 h.a0 (range_right h1 h2.len)⟩
/-- The fixed codes are laid. -/
theorem RunW.putF (h : RunW mb base FN FD w wr) (hlb : mb < base) (hbl : base ≤ w.heap.size) (hb : Below wr.heap.size wr w2) (h1 : CodeVal mb w2 FN C1) (h2 : CodeVal mb w2 FD C2) (f1 : Fresh wr.heap.size C1) (f2 : Fresh wr.heap.size C2) :
    RunW mb base FN FD w (w2.setCells w.heap.size 0 (C1 ++ C2)) ∧ CodeK mb (w2.setCells w.heap.size 0 (C1 ++ C2)) w.heap.size 0 FN ∧ CodeK mb (w2.setCells w.heap.size 0 (C1 ++ C2)) w.heap.size 17 FD ∧ w2.there w.heap.size 0 34 ∧ (∀ k, k = mb ∨ outB mb w2 k → (w2.setCells w.heap.size 0 (C1 ++ C2)).heap[k]? = w2.heap[k]?) := by
  have hs0 := h.a0.1
  have hs1 := h.a1.1
  have hml : mb < w2.heap.size := by have := hb.size; omega
  have hc : w2.cell? ⟨mb, 3, none⟩ = wr.cell? ⟨mb, 3, none⟩ := hb.cell (p := ⟨mb, 3, none⟩) (show mb < wr.heap.size by omega)
  have hc2 : (w2.setCells w.heap.size 0 (C1 ++ C2)).cell? ⟨mb, 3, none⟩ = w2.cell? ⟨mb, 3, none⟩ := cell3_sets (by omega) 0
  have a0 : Apart mb w2 w.heap.size := h.a0.same hb.size hc
  have a1 : Apart mb w2 (w.heap.size + 1) := h.a1.same hb.size hc
  have tf : w2.there w.heap.size 0 34 := there_block h.tf (hb.block _ hs0)
  have to : w2.there (w.heap.size + 1) 0 34 := there_block h.to (hb.block _ hs1)
  have hz : w2.heap.size ≤ (w2.setCells w.heap.size 0 (C1 ++ C2)).heap.size := by rw [size_setCells]; exact Nat.le_refl _
  have v1 := h1.sets f1 hs0 (by omega) hml 0 (C1 ++ C2)
  have v2 := h2.sets f2 hs0 (by omega) hml 0 (C1 ++ C2)
  have hr : (w2.setCells w.heap.size 0 (C1 ++ C2)).rangeAt w.heap.size 0 (C1 ++ C2) := range_put _ _ _ _ (fun j hj => (tf j (by rw [List.length_append, h1.len, h2.len] at hj; exact hj)).1)
  have a0' := a0.same hz hc2
  have a1' := a1.same hz hc2
  refine ⟨⟨.inr ⟨C1, C2, hr, v1, v2, f1.mono (by omega), f2.mono (by omega)⟩, there_sets _ _ _ tf, there_sets _ _ _ to, a0', a1', h.kept.below (below_setCells _ (Nat.le_refl _) _ _ _ (hb.mono (by omega))) hlb hbl⟩, CodeK.of_val v1 a0' (range_left hr), CodeK.of_val v2 a0' (range_right hr h1.len), tf, fun k hk => heap_setCells _ k (by rintro rfl; rcases hk with hk | hk; omega; exact a0.2.2 hk) _ _ _⟩
/-- A block's own codes are laid. -/
theorem RunW.putO (h : RunW mb base FN FD w wr) (hlb : mb < base) (hbl : base ≤ w.heap.size) (V : List Value) : RunW mb base FN FD w (wr.setCells (w.heap.size + 1) 0 V) ∧ (∀ k, k = mb ∨ outB mb wr k → (wr.setCells (w.heap.size + 1) 0 V).heap[k]? = wr.heap[k]?) := by
  have hs1 := h.a1.1
  have hml : mb < wr.heap.size := by omega
  have hc2 : (wr.setCells (w.heap.size + 1) 0 V).cell? ⟨mb, 3, none⟩ = wr.cell? ⟨mb, 3, none⟩ := cell3_sets (by omega) 0
  have hz : wr.heap.size ≤ (wr.setCells (w.heap.size + 1) 0 V).heap.size := by rw [size_setCells]; exact Nat.le_refl _
  have hb0 : (wr.setCells (w.heap.size + 1) 0 V).heap[w.heap.size]? = wr.heap[w.heap.size]? := heap_setCells _ _ (by omega) _ _ _
  refine ⟨⟨?_, there_sets _ _ _ h.tf, there_sets _ _ _ h.to, h.a0.same hz hc2, h.a1.same hz hc2, h.kept.below (below_setCells _ (by omega) _ _ _ (Below.refl _ _)) hlb hbl⟩, fun k hk => heap_setCells _ k (by rintro rfl; rcases hk with hk | hk; omega; exact h.a1.2.2 hk) _ _ _⟩
  rcases h.fx with h1 | ⟨C1, C2, h1, h2, h3, h4, h5⟩
  · exact .inl (by rw [World.cell?_of_block (a := ⟨w.heap.size, 16, none⟩) (w := wr) hb0]; exact h1)
  · exact .inr ⟨C1, C2, range_block h1 hb0, h2.sets h4 (by omega) (by omega) hml _ _, h3.sets h5 (by omega) (by omega) hml _ _, h4, h5⟩
theorem run_start (h : MA mb base s a b out most bad w) (t t2 : TypeId) : MA mb base s a b out most bad ((w.alloc (.cells #[.int .i64 0, .int .i64 0, .int .i64 0, .int .i64 0, .int .i64 0, .int .i64 0, .int .i64 0, .int .i64 0, .int .i64 0, .int .i64 0, .int .i64 0, .int .i64 0, .int .i64 0, .int .i64 0, .int .i64 0, .int .i64 0, .slice none 0 0, .int .i64 0, .int .i64 0, .int .i64 0, .int .i64 0, .int .i64 0, .int .i64 0, .int .i64 0, .int .i64 0, .int .i64 0, .int .i64 0, .int .i64 0, .int .i64 0, .int .i64 0, .int .i64 0, .int .i64 0, .int .i64 0, .slice none 0 0] t)).alloc (.cells #[.int .i64 0, .int .i64 0, .int .i64 0, .int .i64 0, .int .i64 0, .int .i64 0, .int .i64 0, .int .i64 0, .int .i64 0, .int .i64 0, .int .i64 0, .int .i64 0, .int .i64 0, .int .i64 0, .int .i64 0, .int .i64 0, .slice none 0 0, .int .i64 0, .int .i64 0, .int .i64 0, .int .i64 0, .int .i64 0, .int .i64 0, .int .i64 0, .int .i64 0, .int .i64 0, .int .i64 0, .int .i64 0, .int .i64 0, .int .i64 0, .int .i64 0, .int .i64 0, .int .i64 0, .slice none 0 0] t2)) ∧ RunW mb base FN FD w ((w.alloc (.cells #[.int .i64 0, .int .i64 0, .int .i64 0, .int .i64 0, .int .i64 0, .int .i64 0, .int .i64 0, .int .i64 0, .int .i64 0, .int .i64 0, .int .i64 0, .int .i64 0, .int .i64 0, .int .i64 0, .int .i64 0, .int .i64 0, .slice none 0 0, .int .i64 0, .int .i64 0, .int .i64 0, .int .i64 0, .int .i64 0, .int .i64 0, .int .i64 0, .int .i64 0, .int .i64 0, .int .i64 0, .int .i64 0, .int .i64 0, .int .i64 0, .int .i64 0, .int .i64 0, .int .i64 0, .slice none 0 0] t)).alloc (.cells #[.int .i64 0, .int .i64 0, .int .i64 0, .int .i64 0, .int .i64 0, .int .i64 0, .int .i64 0, .int .i64 0, .int .i64 0, .int .i64 0, .int .i64 0, .int .i64 0, .int .i64 0, .int .i64 0, .int .i64 0, .int .i64 0, .slice none 0 0, .int .i64 0, .int .i64 0, .int .i64 0, .int .i64 0, .int .i64 0, .int .i64 0, .int .i64 0, .int .i64 0, .int .i64 0, .int .i64 0, .int .i64 0, .int .i64 0, .int .i64 0, .int .i64 0, .int .i64 0, .int .i64 0, .slice none 0 0] t2)) := by
  obtain ⟨hM, hO⟩ := own_start h t t2
  have hs : (w.alloc (.cells #[.int .i64 0, .int .i64 0, .int .i64 0, .int .i64 0, .int .i64 0, .int .i64 0, .int .i64 0, .int .i64 0, .int .i64 0, .int .i64 0, .int .i64 0, .int .i64 0, .int .i64 0, .int .i64 0, .int .i64 0, .int .i64 0, .slice none 0 0, .int .i64 0, .int .i64 0, .int .i64 0, .int .i64 0, .int .i64 0, .int .i64 0, .int .i64 0, .int .i64 0, .int .i64 0, .int .i64 0, .int .i64 0, .int .i64 0, .int .i64 0, .int .i64 0, .int .i64 0, .int .i64 0, .slice none 0 0] t)).heap.size = w.heap.size + 1 := by simp
  refine ⟨hM, .inl ?_, hO.res, hO.th, hO.a0, hO.a1, hO.kept⟩
  have hb := below_one (w.alloc (.cells #[.int .i64 0, .int .i64 0, .int .i64 0, .int .i64 0, .int .i64 0, .int .i64 0, .int .i64 0, .int .i64 0, .int .i64 0, .int .i64 0, .int .i64 0, .int .i64 0, .int .i64 0, .int .i64 0, .int .i64 0, .int .i64 0, .slice none 0 0, .int .i64 0, .int .i64 0, .int .i64 0, .int .i64 0, .int .i64 0, .int .i64 0, .int .i64 0, .int .i64 0, .int .i64 0, .int .i64 0, .int .i64 0, .int .i64 0, .int .i64 0, .int .i64 0, .int .i64 0, .int .i64 0, .slice none 0 0] t)) (.cells #[.int .i64 0, .int .i64 0, .int .i64 0, .int .i64 0, .int .i64 0, .int .i64 0, .int .i64 0, .int .i64 0, .int .i64 0, .int .i64 0, .int .i64 0, .int .i64 0, .int .i64 0, .int .i64 0, .int .i64 0, .int .i64 0, .slice none 0 0, .int .i64 0, .int .i64 0, .int .i64 0, .int .i64 0, .int .i64 0, .int .i64 0, .int .i64 0, .int .i64 0, .int .i64 0, .int .i64 0, .int .i64 0, .int .i64 0, .int .i64 0, .int .i64 0, .int .i64 0, .int .i64 0, .slice none 0 0] t2)
  rw [hb.cell (p := ⟨w.heap.size, 16, none⟩) (by rw [hs]; exact Nat.lt_succ_self _), World.cell?_alloc_at _ _ _ _ rfl]
  rfl
end
theorem nil_is (w : World) : (binOp .eql 29 (.slice none 0 0) (.slice none 0 0)).run Tryd.prog w = .ok (.bool true) w := by kernel_rfl
theorem nil_not (g n c : Nat) (w : World) : (binOp .eql 29 (.slice (some ⟨g, 0, none⟩) n c) (.slice none 0 0)).run Tryd.prog w = .ok (.bool false) w := by kernel_rfl
section
variable {mb base : Nat} {s : ByteArray} {pos : Nat} {out : List UInt8} {most : Nat} {w : World}
/-- What run leaves. -/
def RunPost (mb base : Nat) (s : ByteArray) (most : Nat) (R : Option (Nat × List UInt8)) (w w' : World) : Prop :=
  ∃ a b o bd, MA mb base s a b o most bd w' ∧ Kept mb base w w' ∧ (R = none → bd = true) ∧ ∀ p o', R = some (p, o') → o = o' ∧ (bd = false ↔ endP s p)
set_option maxRecDepth 100000 in
set_option maxHeartbeats 4000000 in
theorem runAll_walk (FN FD : List Nat) (HFN : Hid (FN = fixN)) (HFD : Hid (FD = fixD)) (h : MW mb base s pos out most false w) (hs : s.size ≤ 140737488355328) (hp : pos ≤ 8 * s.size) (hm : out.length ≤ most) (hm2 : most ≤ 8000) (hD : DefW w) (hT : Tabs w) (hg : 33 ≤ mb) :
    Calls Tryd.prog 20 #[.pointer (some ⟨mb, 0, none⟩)] w fun e w' => e = .returned (.tuple #[]) ∧ RunPost mb base s most (runP s most pos out) w w' := by
  have hlb : mb < base := MA.lt h
  have hbl : base ≤ w.heap.size := MA.bl h
  obtain ⟨R, HR⟩ : ∃ R, Hid (runP s most pos out = R) := ⟨_, rfl⟩
  rw [HR.out]
  have HR0 : Hid (runG s most (8 * s.size + 1 - pos) pos out = R) := HR.out
  clear HR
  go_enter Tryd.func20, Tryd.ntmps20
  go_wp2
  refine scope_fall (fun n l a' w' => ∃ (last p : Nat) (o : List UInt8) (bd : Bool) (zl : Int), (∃ f : Nat → Value, a' = { tmps := #[.pointer (some ⟨mb, 0, none⟩), undef, .int .i64 zl, .pointer (some ⟨w.heap.size, 0, none⟩), .pointer (some ⟨w.heap.size + 1, 0, none⟩), f 5, f 6, f 7, f 8, f 9, f 10, f 11, f 12, f 13, f 14, f 15, f 16, f 17, f 18, f 19, f 20, f 21, f 22, f 23, f 24, f 25, f 26, f 27, f 28, f 29, f 30, f 31, f 32, f 33, f 34, f 35, f 36, f 37, f 38, f 39], defers := [] }) ∧ (zl = (last : Int) ∧ last < 2) ∧ MW mb base s p o most bd w' ∧ RunW mb base FN FD w w' ∧ p ≤ 8 * s.size ∧ o.length ≤ most ∧ Hid ((bd = true → R = none) ∧ ((l = 0 ∧ n = 4 * (8 * s.size + 1 - p) ∧ bd = false ∧ ∃ f, 8 * s.size + 1 - p ≤ f ∧ runG s most f p o = R) ∨ (l = 1 ∧ n = (if bd = true then 3 else 4 * (8 * s.size + 1 - p) + 2) ∧ (bd = false → ∃ f, 8 * s.size + 1 - p ≤ f ∧ aft s most f last (blockP s most 0 p o) = R)) ∨ (l = 2 ∧ n = (if bd = true then 3 else 4 * (8 * s.size + 1 - p) + 2) ∧ (bd = false → ∃ f, 8 * s.size + 1 - p ≤ f ∧ aft s most f last (blockP s most 1 p o) = R)) ∨ (l = 3 ∧ n = (if bd = true then 3 else 4 * (8 * s.size + 1 - p) + 2) ∧ (bd = false → ∃ f, 8 * s.size + 1 - p ≤ f ∧ aft s most f last (blockP s most 2 p o) = R)) ∨ (l = 4 ∧ n = (if bd = true then 2 else 4 * (8 * s.size + 1 - p) + 1) ∧ (bd = false → ∃ f, 8 * s.size + 1 - p ≤ f ∧ (if last = 0 then runG s most f p o else some (p, o)) = R))))) ?_ ?_
  · rintro n ih l a' wr ⟨last, p, o, bd, zl, ⟨f, rfl⟩, ⟨rfl, hlast⟩, hM, hW, hp, hm, HI⟩
    clear h HR0
    have hDr := hD.kept hW.kept hg hlb
    have HBad : Hid (bd = true → R = none) := HI.out.1
    rcases HI.out.2 with ⟨rfl, hn, rfl, hI⟩ | ⟨rfl, hn, hI⟩ | ⟨rfl, hn, hI⟩ | ⟨rfl, hn, hI⟩ | ⟨rfl, hn, hI⟩
    · clear HI ih
      have HNn : Hid (n = 4 * (8 * s.size + 1 - p)) := hn
      have HI : Hid (∃ f, 8 * s.size + 1 - p ≤ f ∧ runG s most f p o = R) := hI
      clear hn hI
      refine ⟨_, rfl, ?_⟩
      go_wp2_with fail
      refine (take_any 1 hM hs hp (by decide) hDr hg).mono ?_
      rintro e w1 ⟨v1, p1, bd1, rfl, l1, q1, hM1, k1, f1, g1⟩
      have hW1 := hW.next k1
      have hD1 := hD.kept hW1.kept hg hlb
      clear hM hW k1 hDr
      go_wp2_with fail
      refine (take_any 2 hM1 hs q1 (by decide) hD1 hg).mono ?_
      rintro e w2 ⟨v2, p2, bd2, rfl, l2, q2, hM2, k2, f2, g2⟩
      have hW2 := hW1.next k2
      have hD2 := hD.kept hW2.kept hg hlb
      have hv2 : v2 < 4 := l2
      have HM2 : Hid (MW mb base s p2 o most bd2 w2) := hM2
      have HF : Hid ((bd2 = true → 8 * s.size < p + 3) ∧ (bd2 = false → p2 = p + 3 ∧ p + 3 ≤ 8 * s.size ∧ v1 = bitsVal s p 1 ∧ v2 = bitsVal s (p + 1) 2)) := by
        refine ⟨fun hb => ?_, fun hb => ?_⟩
        · rcases Nat.lt_or_ge (8 * s.size) (p + 3) with h | h
          · exact h
          · exfalso
            have b1 := g1 (by first | rfl | trivial) (by omega)
            have e1 := (f1 b1).2.2.1
            rw [g2 b1 (by omega)] at hb; cases hb
        · obtain ⟨b1, i2, i3, i4⟩ := f2 hb
          obtain ⟨_, j2, j3, j4⟩ := f1 b1
          subst j3
          exact ⟨by omega, by omega, j4, i4⟩
      have HQ : Hid (∃ f, 8 * s.size + 1 - p ≤ f + 1 ∧ (if 8 * s.size < p + 3 then none else aft s most f (bitsVal s p 1) (blockP s most (bitsVal s (p + 1) 2) (p + 3) o)) = R) := by
        obtain ⟨f3, i2, i3⟩ := HI.out
        obtain ⟨f4, rfl⟩ : ∃ f4, f3 = f4 + 1 := ⟨f3 - 1, by omega⟩
        rw [runG_eq] at i3
        exact ⟨f4, i2, i3⟩
      have HB2 : Hid (bd2 = true → R = none) := fun hb => by
        obtain ⟨f3, _, i3⟩ := HQ.out
        rw [if_pos (HF.out.1 hb)] at i3
        exact i3.symm
      have HP2 : Hid (bd2 = false → p2 = p + 3 ∧ p + 3 ≤ 8 * s.size ∧ ∃ f, 8 * s.size + 1 - p2 ≤ f ∧ aft s most f v1 (blockP s most v2 p2 o) = R) := fun hb => by
        obtain ⟨i1, i2, i3, i4⟩ := HF.out.2 hb
        obtain ⟨f3, j2, j3⟩ := HQ.out
        rw [if_neg (by omega), ← i3, ← i4, ← i1] at j3
        exact ⟨i1, i2, f3, by omega, j3⟩
      clear hM1 hW1 hD1 k2 f1 g1 f2 g2 hM2 HF HQ HI
      by_cases hk : v2 = 0
      · have e0 : ((v2 : Int) == 0) = true := by simp; omega
        go_wp2
        go_step3
        try simp only [Exit.jump]
        exact ⟨_, (by rw [HNn.out]; cases bd2 with
          | true => simp; omega
          | false => have := (HP2.out rfl).1; have := (HP2.out rfl).2.1; simp; omega : (if bd2 = true then 3 else 4 * (8 * s.size + 1 - p2) + 2) < n), v1, p2, o, bd2, _, mkF rfl, ⟨rfl, l1⟩, HM2.out, hW2, q2, hm, ⟨HB2.out, .inr (.inl ⟨rfl, rfl, fun hb => (by obtain ⟨_, _, f1, hf1, hf2⟩ := HP2.out hb; rw [hk] at hf2; exact ⟨f1, hf1, hf2⟩)⟩)⟩⟩
      · have e0 : ((v2 : Int) == 0) = false := by rw [beq_eq_false_iff_ne]; omega
        clear hk
        by_cases hk : v2 = 1
        · have e1 : ((v2 : Int) == 1) = true := by simp; omega
          go_wp2
          go_step3
          try simp only [Exit.jump]
          exact ⟨_, (by rw [HNn.out]; cases bd2 with
            | true => simp; omega
            | false => have := (HP2.out rfl).1; have := (HP2.out rfl).2.1; simp; omega : (if bd2 = true then 3 else 4 * (8 * s.size + 1 - p2) + 2) < n), v1, p2, o, bd2, _, mkF rfl, ⟨rfl, l1⟩, HM2.out, hW2, q2, hm, ⟨HB2.out, .inr (.inr (.inl ⟨rfl, rfl, fun hb => (by obtain ⟨_, _, f1, hf1, hf2⟩ := HP2.out hb; rw [hk] at hf2; exact ⟨f1, hf1, hf2⟩)⟩))⟩⟩
        · have e1 : ((v2 : Int) == 1) = false := by rw [beq_eq_false_iff_ne]; omega
          clear hk
          by_cases hk : v2 = 2
          · have e2 : ((v2 : Int) == 2) = true := by simp; omega
            go_wp2
            go_step3
            try simp only [Exit.jump]
            exact ⟨_, (by rw [HNn.out]; cases bd2 with
              | true => simp; omega
              | false => have := (HP2.out rfl).1; have := (HP2.out rfl).2.1; simp; omega : (if bd2 = true then 3 else 4 * (8 * s.size + 1 - p2) + 2) < n), v1, p2, o, bd2, _, mkF rfl, ⟨rfl, l1⟩, HM2.out, hW2, q2, hm, ⟨HB2.out, .inr (.inr (.inr (.inl ⟨rfl, rfl, fun hb => (by obtain ⟨_, _, f1, hf1, hf2⟩ := HP2.out hb; rw [hk] at hf2; exact ⟨f1, hf1, hf2⟩)⟩)))⟩⟩
          · have e2 : ((v2 : Int) == 2) = false := by rw [beq_eq_false_iff_ne]; omega
            have HN : Hid (R = none) := by
              cases bd2 with
              | true => exact HB2.out rfl
              | false =>
                obtain ⟨_, _, f3, _, j3⟩ := HP2.out rfl
                have h0 : ¬ v2 = 0 := by intro hc; subst hc; simp at e0
                have h1 : ¬ v2 = 1 := by intro hc; subst hc; simp at e1
                rw [blockP_3 s most v2 p2 o (by omega)] at j3
                exact j3.symm
            obtain ⟨xe, hxe⟩ := hD2.kind
            clear hk
            go_wp2_with fail
            refine (fail_walk xe HM2.out).mono ?_
            rintro e w3 ⟨rfl, hM3, k3⟩
            have HM3 : Hid (MA mb base s (p2 / 8) (p2 % 8) o most true w3) := hM3
            have hK3 := hW2.kept.trans k3
            clear hM3 k3 hxe hW2 HM2 hD2
            go_wp2
            simp only [jumps]
            exact bodyPost_ret (results_none rfl _ _ _) rfl ⟨rfl, p2 / 8, p2 % 8, o, true, HM3.out, hK3, fun _ => rfl, fun p' o' h => (by rw [HN.out] at h; cases h)⟩
    · clear HI ih
      have HNn : Hid (n = (if bd = true then 3 else 4 * (8 * s.size + 1 - p) + 2)) := hn
      have HI : Hid (bd = false → ∃ f, 8 * s.size + 1 - p ≤ f ∧ aft s most f last (blockP s most 0 p o) = R) := hI
      clear hn hI
      refine ⟨_, rfl, ?_⟩
      go_wp2_with fail
      refine (stored_walk hM hs hp hm hm2 hDr hg).mono ?_
      rintro e w1 ⟨rfl, p1, o1, bd1, q1, m1, hM1, k1, f1, g1⟩
      have hW1 := hW.next k1
      have HM1 : Hid (MW mb base s p1 o1 most bd1 w1) := hM1
      have HP5 : Hid ((bd1 = true → R = none) ∧ (bd1 = false → bd = false ∧ p ≤ p1 ∧ ∃ f, 8 * s.size + 1 - p1 ≤ f ∧ (if last = 0 then runG s most f p1 o1 else some (p1, o1)) = R)) := by
        refine ⟨fun hb => ?_, fun hb => ?_⟩
        · cases bd with
          | true => exact HBad.out rfl
          | false =>
            obtain ⟨f3, _, j3⟩ := HI.out rfl
            rw [blockP_0, g1 rfl hb] at j3
            exact j3.symm
        · obtain ⟨i1, i2⟩ := (show bd = false ∧ blockP s most 0 p o = some (p1, o1) by rw [blockP_0]; exact f1 hb)
          obtain ⟨f3, j2, j3⟩ := HI.out i1
          rw [i2] at j3
          have hle := blockP_le i2
          exact ⟨i1, hle, f3, by omega, j3⟩
      clear hM hW k1 hM1 f1 g1 hDr
      go_wp2
      go_step3
      try simp only [Exit.jump]
      exact ⟨_, (by rw [HNn.out]; cases bd1 with
        | true => cases bd <;> simp; omega
        | false => obtain ⟨e1, e2, _⟩ := HP5.out.2 rfl; rw [e1]; simp; omega : (if bd1 = true then 2 else 4 * (8 * s.size + 1 - p1) + 1) < n), last, p1, o1, bd1, _, mkF rfl, ⟨rfl, hlast⟩, HM1.out, hW1, q1, m1, ⟨HP5.out.1, .inr (.inr (.inr (.inr ⟨rfl, rfl, fun hb => (HP5.out.2 hb).2.2⟩)))⟩⟩
    · clear HI ih
      have HNn : Hid (n = (if bd = true then 3 else 4 * (8 * s.size + 1 - p) + 2)) := hn
      have HI : Hid (bd = false → ∃ f, 8 * s.size + 1 - p ≤ f ∧ aft s most f last (blockP s most 1 p o) = R) := hI
      clear hn hI
      refine ⟨_, rfl, ?_⟩
      by_cases h16 : wr.cell? ⟨w.heap.size, 16, none⟩ = some (.slice none 0 0)
      · have hnil := nil_is wr
        go_wp2_with fail
        refine (fixedCodes_walk FN FD HFN HFD hM).mono ?_
        rintro e w2 ⟨C1, C2, rfl, hB2, hV1, hV2, hF1, hF2⟩
        have hM2 : MA mb base s (p / 8) (p % 8) o most bd w2 := MA.grow hM hB2
        obtain ⟨hW3, hC1, hC2, hTh, haway⟩ := hW.putF hlb hbl hB2 hV1 hV2 hF1 hF2
        obtain ⟨V, HV⟩ : ∃ V, Hid (C1 ++ C2 = V) := ⟨_, rfl⟩
        have hVl : V.length = 34 := by rw [← HV.out, List.length_append, hV1.len, hV2.len]
        have HIB : Hid ((Tryd.prog.info? 79).map (·.size) = some V.toArray.size) := by show _ = some V.length; rw [hVl]; exact codesInfo
        have HLA : Hid (V.toArray.all (·.oneCell') = true) := all_oneCell_toArray (by rw [← HV.out]; intro v hv; rcases List.mem_append.1 hv with hv | hv; exact hV1.one v hv; exact hV2.one v hv)
        have HTh : Hid (w2.there w.heap.size 0 V.toArray.size) := by show w2.there _ _ V.length; rw [hVl]; exact hTh
        rw [HV.out] at hW3 hC1 hC2 haway ⊢
        have hM3 : MA mb base s (p / 8) (p % 8) o most bd (w2.setCells w.heap.size 0 V) := hM2.away (by rw [size_setCells]; exact Nat.le_refl _) haway
        clear hM hM2 hW hB2 hV1 hV2 hF1 hF2 hTh haway h16 hnil
        go_wp2_with (refine wpList_store_mid rfl 79 _ _ rfl w.heap.size 0 V.toArray rfl rfl HTh.out HIB.out HLA.out ?_)
        generalize w2.setCells w.heap.size 0 V = w3 at *
        refine (packed_any hM3 hs hp hm hm2 (hD.kept hW3.kept hg hlb) (hT.kept hW3.kept hg hlb) hg (fun _ => ⟨hC1, hC2, by rw [HFN.out, fixN_len]; decide, by rw [HFD.out, fixD_len]; decide⟩)).mono ?_
        rintro e w1 ⟨rfl, p1, o1, bd1, q1, m1, hM1, k1, f1, g1⟩
        have hW1 := hW3.next k1
        have HM1 : Hid (MW mb base s p1 o1 most bd1 w1) := hM1
        have HP5 : Hid ((bd1 = true → R = none) ∧ (bd1 = false → bd = false ∧ p ≤ p1 ∧ ∃ f, 8 * s.size + 1 - p1 ≤ f ∧ (if last = 0 then runG s most f p1 o1 else some (p1, o1)) = R)) := by
          refine ⟨fun hb => ?_, fun hb => ?_⟩
          · cases bd with
            | true => exact HBad.out rfl
            | false =>
              obtain ⟨f3, _, j3⟩ := HI.out rfl
              rw [blockP_1, ← HFN.out, ← HFD.out, g1 rfl hb] at j3
              exact j3.symm
          · obtain ⟨i1, i2⟩ := (show bd = false ∧ blockP s most 1 p o = some (p1, o1) by rw [blockP_1, ← HFN.out, ← HFD.out]; exact f1 hb)
            obtain ⟨f3, j2, j3⟩ := HI.out i1
            rw [i2] at j3
            have hle := blockP_le i2
            exact ⟨i1, hle, f3, by omega, j3⟩
        clear hM3 hW3 hC1 hC2 k1 hM1 f1 g1 hDr HTh HIB HLA
        go_wp2
        go_step3
        try simp only [Exit.jump]
        exact ⟨_, (by rw [HNn.out]; cases bd1 with
          | true => cases bd <;> simp; omega
          | false => obtain ⟨e1, e2, _⟩ := HP5.out.2 rfl; rw [e1]; simp; omega : (if bd1 = true then 2 else 4 * (8 * s.size + 1 - p1) + 1) < n), last, p1, o1, bd1, _, mkF rfl, ⟨rfl, hlast⟩, HM1.out, hW1, q1, m1, ⟨HP5.out.1, .inr (.inr (.inr (.inr ⟨rfl, rfl, fun hb => (HP5.out.2 hb).2.2⟩)))⟩⟩
      · obtain ⟨hC1, hC2⟩ := hW.codes h16
        obtain ⟨g, cap, l, _, c16, _⟩ := hC1.syms
        rw [Nat.zero_add] at c16
        have hM3 := hM
        have hW3 := hW
        have hnil := nil_not g l.length cap wr
        clear h16 hM hW
        go_wp2_with fail
        refine (packed_any hM3 hs hp hm hm2 (hD.kept hW3.kept hg hlb) (hT.kept hW3.kept hg hlb) hg (fun _ => ⟨hC1, hC2, by rw [HFN.out, fixN_len]; decide, by rw [HFD.out, fixD_len]; decide⟩)).mono ?_
        rintro e w1 ⟨rfl, p1, o1, bd1, q1, m1, hM1, k1, f1, g1⟩
        have hW1 := hW3.next k1
        have HM1 : Hid (MW mb base s p1 o1 most bd1 w1) := hM1
        have HP5 : Hid ((bd1 = true → R = none) ∧ (bd1 = false → bd = false ∧ p ≤ p1 ∧ ∃ f, 8 * s.size + 1 - p1 ≤ f ∧ (if last = 0 then runG s most f p1 o1 else some (p1, o1)) = R)) := by
          refine ⟨fun hb => ?_, fun hb => ?_⟩
          · cases bd with
            | true => exact HBad.out rfl
            | false =>
              obtain ⟨f3, _, j3⟩ := HI.out rfl
              rw [blockP_1, ← HFN.out, ← HFD.out, g1 rfl hb] at j3
              exact j3.symm
          · obtain ⟨i1, i2⟩ := (show bd = false ∧ blockP s most 1 p o = some (p1, o1) by rw [blockP_1, ← HFN.out, ← HFD.out]; exact f1 hb)
            obtain ⟨f3, j2, j3⟩ := HI.out i1
            rw [i2] at j3
            have hle := blockP_le i2
            exact ⟨i1, hle, f3, by omega, j3⟩
        clear hM3 hW3 hC1 hC2 k1 hM1 f1 g1 hDr c16 hnil
        go_wp2
        go_step3
        try simp only [Exit.jump]
        exact ⟨_, (by rw [HNn.out]; cases bd1 with
          | true => cases bd <;> simp; omega
          | false => obtain ⟨e1, e2, _⟩ := HP5.out.2 rfl; rw [e1]; simp; omega : (if bd1 = true then 2 else 4 * (8 * s.size + 1 - p1) + 1) < n), last, p1, o1, bd1, _, mkF rfl, ⟨rfl, hlast⟩, HM1.out, hW1, q1, m1, ⟨HP5.out.1, .inr (.inr (.inr (.inr ⟨rfl, rfl, fun hb => (HP5.out.2 hb).2.2⟩)))⟩⟩
    · clear HI
      have HNn : Hid (n = (if bd = true then 3 else 4 * (8 * s.size + 1 - p) + 2)) := hn
      have HI : Hid (bd = false → ∃ f, 8 * s.size + 1 - p ≤ f ∧ aft s most f last (blockP s most 2 p o) = R) := hI
      clear hn hI
      refine ⟨_, rfl, ?_⟩
      go_wp2_with fail
      refine (ownCodes_walk hM hs hp hDr (hT.kept hW.kept hg hlb) hg).mono ?_
      rintro e w2 ⟨V, rfl, p2, bd2, hVl, hVo, hp2, hM2, k2, f2, g2⟩
      have hW2 := hW.next k2
      obtain ⟨hW3, haway⟩ := hW2.putO hlb hbl V
      have hM3 : MA mb base s (p2 / 8) (p2 % 8) o most bd2 (w2.setCells (w.heap.size + 1) 0 V) := MA.away hM2 (by rw [size_setCells]; exact Nat.le_refl _) haway
      have HTh : Hid (w2.there (w.heap.size + 1) 0 V.toArray.size) := by show w2.there _ _ V.length; rw [hVl]; exact hW2.to
      have HIB : Hid ((Tryd.prog.info? 79).map (·.size) = some V.toArray.size) := by show _ = some V.length; rw [hVl]; exact codesInfo
      have HLA : Hid (V.toArray.all (·.oneCell') = true) := all_oneCell_toArray hVo
      obtain ⟨near, far, HC⟩ : ∃ near far, Hid (bd2 = false → bd = false ∧ ownP s p = some (near, far, p2) ∧ CodeK mb (w2.setCells (w.heap.size + 1) 0 V) (w.heap.size + 1) 0 near ∧ CodeK mb (w2.setCells (w.heap.size + 1) 0 V) (w.heap.size + 1) 17 far ∧ near.length ≤ 1000 ∧ far.length ≤ 1000) := by
        cases bd2 with
        | true => exact ⟨[], [], by intro hc; cases hc⟩
        | false =>
          obtain ⟨i1, near, far, C1, C2, i2, i3, i4, i5, i6, i7, i8, i9⟩ := f2 rfl
          have hs1 := hW.a1.1
          have hml : mb < w2.heap.size := by have := hW2.a1.1; omega
          have v1 := i6.sets i8 hs1 (by omega) hml 0 V
          have v2 := i7.sets i9 hs1 (by omega) hml 0 V
          have hr : (w2.setCells (w.heap.size + 1) 0 V).rangeAt (w.heap.size + 1) 0 (C1 ++ C2) := by rw [i3]; exact range_put _ _ _ _ (fun j hj => (hW2.to j (by rw [List.length_append, i6.len, i7.len] at hj; exact hj)).1)
          exact ⟨near, far, fun _ => ⟨i1, i2, CodeK.of_val v1 hW3.a1 (range_left hr), CodeK.of_val v2 hW3.a1 (range_right hr i6.len), i4, i5⟩⟩
      have HO : Hid (bd = false → bd2 = true → ownP s p = none) := fun h1 h2 => Classical.byContradiction fun hn => by rw [g2 h1 hn] at h2; cases h2
      clear hM hM2 hW hW2 haway k2 f2 g2 hDr
      go_wp2_with (refine wpList_store_mid rfl 79 _ _ rfl (w.heap.size + 1) 0 V.toArray rfl rfl HTh.out HIB.out HLA.out ?_)
      generalize w2.setCells (w.heap.size + 1) 0 V = w3 at *
      refine (packed_any (near := near) (far := far) hM3 hs hp2 hm hm2 (hD.kept hW3.kept hg hlb) (hT.kept hW3.kept hg hlb) hg (fun hb => (HC.out hb).2.2)).mono ?_
      rintro e w1 ⟨rfl, p1, o1, bd1, q1, m1, hM1, k1, f1, g1⟩
      have hW1 := hW3.next k1
      have HM1 : Hid (MW mb base s p1 o1 most bd1 w1) := hM1
      have HP5 : Hid ((bd1 = true → R = none) ∧ (bd1 = false → bd = false ∧ p ≤ p1 ∧ ∃ f, 8 * s.size + 1 - p1 ≤ f ∧ (if last = 0 then runG s most f p1 o1 else some (p1, o1)) = R)) := by
        refine ⟨fun hb => ?_, fun hb => ?_⟩
        · cases bd with
          | true => exact HBad.out rfl
          | false =>
            obtain ⟨f3, _, j3⟩ := HI.out rfl
            rw [blockP_2] at j3
            cases bd2 with
            | true => rw [HO.out rfl rfl] at j3; exact j3.symm
            | false =>
              rw [(HC.out rfl).2.1] at j3
              simp only [g1 rfl hb] at j3
              exact j3.symm
        · obtain ⟨i1, i2⟩ := f1 hb
          obtain ⟨c1, c2, _⟩ := HC.out i1
          obtain ⟨f3, j2, j3⟩ := HI.out c1
          have hbk : blockP s most 2 p o = some (p1, o1) := by rw [blockP_2, c2]; exact i2
          rw [hbk] at j3
          have hle := blockP_le hbk
          exact ⟨c1, hle, f3, by omega, j3⟩
      clear hM3 hW3 k1 hM1 f1 g1 HTh HIB HLA HC HO
      go_wp2_with fail
      go_step3
      rename_i hKK
      exact hKK _ _ (fall2 (ih (if bd1 = true then 2 else 4 * (8 * s.size + 1 - p1) + 1) 4 _ _ (by rw [HNn.out]; cases bd1 with
        | true => cases bd <;> simp; omega
        | false => obtain ⟨e1, e2, _⟩ := HP5.out.2 rfl; rw [e1]; simp; omega) ⟨last, p1, o1, bd1, _, mkF rfl, ⟨rfl, hlast⟩, HM1.out, hW1, q1, m1, ⟨HP5.out.1, .inr (.inr (.inr (.inr ⟨rfl, rfl, fun hb => (HP5.out.2 hb).2.2⟩)))⟩⟩) rfl fun k l' a' w' hk hJ => ⟨k, (by refine Nat.lt_trans hk ?_; rw [HNn.out]; cases bd1 with
        | true => cases bd <;> simp; omega
        | false => obtain ⟨e1, e2, _⟩ := HP5.out.2 rfl; rw [e1]; simp; omega), hJ⟩)
    · clear HI ih
      have HNn : Hid (n = (if bd = true then 2 else 4 * (8 * s.size + 1 - p) + 1)) := hn
      have HI : Hid (bd = false → ∃ f, 8 * s.size + 1 - p ≤ f ∧ (if last = 0 then runG s most f p o else some (p, o)) = R) := hI
      clear hn hI
      refine ⟨_, rfl, ?_⟩
      have hMA : MA mb base s (p / 8) (p % 8) o most bd wr := hM
      obtain ⟨ev, c5, he⟩ := hMA.c5
      have hK := hW.kept
      cases bd with
      | true =>
        obtain ⟨x, rfl⟩ := he
        have HM : Hid (MA mb base s (p / 8) (p % 8) o most true wr) := hM
        clear hM hMA hW
        go_wp2
        simp only [jumps]
        exact bodyPost_ret (results_none rfl _ _ _) rfl ⟨rfl, p / 8, p % 8, o, true, HM.out, hK, (fun _ => rfl), fun p' o' h => (by rw [HBad.out (by first | rfl | trivial)] at h; cases h)⟩
      | false =>
        cases he
        by_cases hl0 : last = 0
        · have hl0' : ((last : Int) == 0) = true := by simp; omega
          have HM : Hid (MW mb base s p o most false wr) := hM
          have HR0 : Hid (∃ f, 8 * s.size + 1 - p ≤ f ∧ runG s most f p o = R) := by
            obtain ⟨f3, j2, j3⟩ := HI.out rfl
            rw [if_pos hl0] at j3
            exact ⟨f3, j2, j3⟩
          clear hM hMA hl0
          go_wp2
          go_step3
          try simp only [Exit.jump]
          exact ⟨_, (by rw [HNn.out]; simp : 4 * (8 * s.size + 1 - p) < n), last, p, o, false, _, mkF rfl, ⟨rfl, hlast⟩, HM.out, hW, hp, hm, ⟨(by intro hc; cases hc), .inl ⟨rfl, rfl, rfl, HR0.out⟩⟩⟩
        · have hl0' : ((last : Int) == 0) = false := by simp; omega
          have HR0 : Hid (R = some (p, o)) := by
            obtain ⟨f3, j2, j3⟩ := HI.out rfl
            rw [if_neg hl0] at j3
            exact j3.symm
          clear hMA
          go_wp2_with fail
          refine (end_walk hM hs hp hDr hg).mono ?_
          rintro e w1 ⟨rfl, a1, b1, bd1, HM1, k1, HE⟩
          have K1 := hK.trans k1
          have HM1 : Hid (MA mb base s a1 b1 o most bd1 w1) := HM1
          have HE : Hid (bd1 = false ↔ endP s p) := HE
          clear hM hK k1 hW
          go_wp2
          simp only [jumps]
          exact bodyPost_end (results_none rfl _ _ _) rfl ⟨rfl, a1, b1, o, bd1, HM1.out, K1, (fun h => (by rw [HR0.out] at h; cases h)), fun p' o' h => (by rw [HR0.out] at h; cases h; exact ⟨rfl, HE.out⟩)⟩
  · intro all
    go_wp2_with fail
    go_step3
    rename_i hKK
    exact hKK _ _ (fall2 (all (4 * (8 * s.size + 1 - pos)) 0 _ _ ⟨0, pos, out, false, _, mkF rfl, ⟨rfl, by decide⟩, (run_start (FN := FN) (FD := FD) h _ _).1, (run_start h _ _).2, hp, hm, ⟨(by intro hc; cases hc), .inl ⟨rfl, rfl, rfl, 8 * s.size + 1 - pos, Nat.le_refl _, HR0.out⟩⟩⟩) rfl fun k l' a' w' _ hJ => ⟨k, hJ⟩)
end
end Go.Proofs.YtjilhneefbakhaaDoor.Inf
