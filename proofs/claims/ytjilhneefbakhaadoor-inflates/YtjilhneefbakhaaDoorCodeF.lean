/- The code in which the other codes' lengths are told. -/
import Derived.Test.YtjilhneefbakhaaDoorCodeE
namespace Go.Proofs.YtjilhneefbakhaaDoor.Inf
open Go.RowKit Go.Proofs.YtjilhneefbakhaaDoor.Sha

/-- The program's tables. -/
structure Tabs (w : World) : Prop where
  ord : ∀ j x, ordL[j]? = some x → w.cell? ⟨31, j, none⟩ = some (.int .i64 ((x : Nat) : Int))
  lbase : ∀ j x, lenBase[j]? = some x → w.cell? ⟨20, j, none⟩ = some (.int .i64 ((x : Nat) : Int))
  lbits : ∀ j x, lenBits[j]? = some x → w.cell? ⟨21, j, none⟩ = some (.int .i64 ((x : Nat) : Int))
  dbase : ∀ j x, disBase[j]? = some x → w.cell? ⟨22, j, none⟩ = some (.int .i64 ((x : Nat) : Int))
  dbits : ∀ j x, disBits[j]? = some x → w.cell? ⟨23, j, none⟩ = some (.int .i64 ((x : Nat) : Int))
theorem Kept.tab {mb base : Nat} {w w' : World} (h : Kept mb base w w') (hg : 33 ≤ mb) (hlt : mb < base) (g j : Nat) (hgg : g < 33) : w'.cell? ⟨g, j, none⟩ = w.cell? ⟨g, j, none⟩ :=
  h.cell (p := ⟨g, j, none⟩) (show g < base by omega) (show g ≠ mb by omega)
theorem Tabs.kept {mb base : Nat} {w w' : World} (h : Tabs w) (hk : Kept mb base w w') (hg : 33 ≤ mb) (hlt : mb < base) : Tabs w' :=
  ⟨fun j x hj => by rw [hk.tab hg hlt _ j (by decide)]; exact h.ord j x hj, fun j x hj => by rw [hk.tab hg hlt _ j (by decide)]; exact h.lbase j x hj, fun j x hj => by rw [hk.tab hg hlt _ j (by decide)]; exact h.lbits j x hj, fun j x hj => by rw [hk.tab hg hlt _ j (by decide)]; exact h.dbase j x hj, fun j x hj => by rw [hk.tab hg hlt _ j (by decide)]; exact h.dbits j x hj⟩
theorem Tabs.below {w w' : World} (h : Tabs w) (hb : Below w.heap.size w w') : Tabs w' :=
  ⟨fun j x hj => cell_below hb (h.ord j x hj), fun j x hj => cell_below hb (h.lbase j x hj), fun j x hj => cell_below hb (h.lbits j x hj), fun j x hj => cell_below hb (h.dbase j x hj), fun j x hj => cell_below hb (h.dbits j x hj)⟩
/-- A set of codes by value: its cells, and its symbols in memory. -/
def CodeVal (mb : Nat) (w : World) (lens : List Nat) (V : List Value) : Prop :=
  ∃ g cp l, V = codeV lens (.slice (some ⟨g, 0, none⟩) l.length cp) ∧ Apart mb w g ∧ Sorted lens l ∧ ∀ j x, l[j]? = some x → w.cell? ⟨g, j, none⟩ = some (.int .i64 ((x : Nat) : Int))
theorem CodeVal.len {mb : Nat} {w : World} {lens : List Nat} {V : List Value} (h : CodeVal mb w lens V) : V.length = 17 := by
  obtain ⟨g, cp, l, rfl, _⟩ := h
  simp [codeV, cntL_len]
theorem CodeVal.one {mb : Nat} {w : World} {lens : List Nat} {V : List Value} (h : CodeVal mb w lens V) : ∀ v ∈ V, v.oneCell' = true := by
  obtain ⟨g, cp, l, rfl, _⟩ := h
  intro v hv
  rcases List.mem_append.1 hv with hv | hv
  · obtain ⟨n, _, rfl⟩ := List.mem_map.1 hv
    rfl
  · simp at hv; subst hv; rfl
theorem CodeVal.kept {mb base : Nat} {w w' : World} {lens : List Nat} {V : List Value} (h : CodeVal mb w lens V) (hk : Kept mb base w w') : CodeVal mb w' lens V := by
  obtain ⟨g, cp, l, e, ag, hs, hl⟩ := h
  obtain ⟨a2, e2⟩ := hk.apart ag
  exact ⟨g, cp, l, e, a2, hs, fun j x hj => by rw [World.cell?_of_block (a := ⟨g, j, none⟩) (w := w) e2]; exact hl j x hj⟩
/-- Behind what leaves the machine's own cells and the old blocks but one. -/
theorem CodeVal.other {mb : Nat} {w w' : World} {lens : List Nat} {V : List Value} (h : CodeVal mb w lens V) (hs : w.heap.size ≤ w'.heap.size) (b : Nat) (hb : ∀ k, k < w.heap.size → k ≠ b → w'.heap[k]? = w.heap[k]?) (hm : mb ≠ b) (hml : mb < w.heap.size) (hg : ∀ l' v, V = codeV l' v → ∀ g n c, v = .slice (some ⟨g, 0, none⟩) n c → g ≠ b) : CodeVal mb w' lens V := by
  obtain ⟨g, cp, l, e, ag, hso, hl⟩ := h
  have hgb := hg _ _ e g _ _ rfl
  have e2 := hb g ag.1 hgb
  exact ⟨g, cp, l, e, ag.same hs (World.cell?_of_block (a := ⟨mb, 3, none⟩) (w := w) (hb mb hml hm)), hso, fun j x hj => by rw [World.cell?_of_block (a := ⟨g, j, none⟩) (w := w) e2]; exact hl j x hj⟩
theorem CodeVal.step {mb : Nat} {w w' : World} {lens : List Nat} {V : List Value} (h : CodeVal mb w lens V) (hb : Below w.heap.size w w') (hml : mb < w.heap.size) : CodeVal mb w' lens V := by
  obtain ⟨g, cp, l, e, ag, hso, hl⟩ := h
  exact ⟨g, cp, l, e, ag.same hb.size (hb.cell (p := ⟨mb, 3, none⟩) hml), hso, fun j x hj => by rw [hb.cell (p := ⟨g, j, none⟩) ag.1]; exact hl j x hj⟩
theorem CodeK.of_val {mb : Nat} {w : World} {lens : List Nat} {V : List Value} {cb o : Nat} (h : CodeVal mb w lens V) (ha : Apart mb w cb) (hr : w.rangeAt cb o V) : CodeK mb w cb o lens := by
  obtain ⟨g, cp, l, e, ag, hs, hl⟩ := h
  subst e
  refine ⟨ha, fun n hn => ?_, g, cp, l, ag, ?_, hs, hl⟩
  · exact hr n _ (by rw [codeV, List.getElem?_append_left (by rw [cntL_len]; omega), cntL_get lens n (by omega)])
  · exact hr 16 _ (by rw [codeV, List.getElem?_append_right (by rw [cntL_len]; omega), cntL_len]; rfl)
/-- makeCode, beside the machine. -/
theorem makeCode_val {mb base : Nat} {s : ByteArray} {a b : Nat} {out : List UInt8} {most : Nat} {bad : Bool} {w : World} {lb lo cap : Nat} {lens : List Nat} (h : MA mb base s a b out most bad w) (hL : LensAt w lb lo lens) (hne : 0 < lens.length) (hl : lens.length ≤ 1000) (h15 : ∀ x ∈ lens, x ≤ 15) (n : Nat) (hn : n = lens.length) :
    Calls Tryd.prog 46 #[.slice (some ⟨lb, lo, none⟩) n cap] w fun e w' => ∃ V, e = .returned (.agg V.toArray) ∧ Below w.heap.size w w' ∧ CodeVal mb w' lens V ∧ Hid (∀ l' v, V = codeV l' v → ∀ g n c, v = .slice (some ⟨g, 0, none⟩) n c → w.heap.size ≤ g) := by
  subst hn
  refine (makeCode_walk hL hne hl h15).mono ?_
  rintro e w' ⟨l, cp, rfl, hb, h3, hs, hc⟩
  refine ⟨_, rfl, hb, ⟨w.heap.size + 3, cp, l, rfl, Apart.fresh h hb (by omega) h3, hs, hc⟩, fun l' v he g n c hv => ?_⟩
  have := List.append_inj_right he (by rw [cntL_len, cntL_len])
  simp at this
  rw [← this] at hv
  injection hv with hv; injection hv with hv; injection hv with hv; omega
theorem clens_len (s : ByteArray) (p : Nat) : ∀ i, (clens s p i).length = 19
  | 0 => by simp [clens]
  | i + 1 => by rw [clens, List.length_set]; exact clens_len s p i
theorem ordL_get (i : Nat) (hi : i < 19) : ∃ o, ordL[i]? = some o ∧ ordL.getD i 0 = o ∧ o < 19 := by
  have h : ordL.length = 19 := rfl
  refine ⟨ordL[i], List.getElem?_eq_getElem _, by rw [List.getD_eq_getElem?_getD, List.getElem?_eq_getElem (by omega)]; rfl, ?_⟩
  have : ∀ x ∈ ordL, x < 19 := by decide
  exact this _ (List.getElem_mem _)
def FL (s : ByteArray) (pos : Nat) : Nat := 4 + bitsVal s pos 4
/-- What codeForLengths leaves. -/
def ForPost (mb base : Nat) (s : ByteArray) (pos : Nat) (out : List UInt8) (most : Nat) (bad : Bool) (V : List Value) (w w' : World) : Prop :=
  ∃ (ls : List Nat) (p : Nat) (bd : Bool), ls.length = 19 ∧ (∀ x ∈ ls, x ≤ 15) ∧ CodeVal mb w' ls V ∧ (∀ l' v, V = codeV l' v → ∀ g n c, v = .slice (some ⟨g, 0, none⟩) n c → w.heap.size ≤ g) ∧ p ≤ 8 * s.size ∧ MW mb base s p out most bd w' ∧ Kept mb base w w' ∧
    (bd = false → bad = false ∧ pos + 4 + 3 * FL s pos ≤ 8 * s.size ∧ p = pos + 4 + 3 * FL s pos ∧ ls = clens s (pos + 4) (FL s pos) ∧ full ls) ∧
    (bad = false → pos + 4 + 3 * FL s pos ≤ 8 * s.size → full (clens s (pos + 4) (FL s pos)) → bd = false)
/-- Blocks that are laid. -/
theorem there_alloc (w : World) (a : Array Value) (t : TypeId) (n : Nat) (hn : n = a.size) : (w.alloc (.cells a t)).there w.heap.size 0 n := by
  intro j hj
  subst hn
  rw [World.cell?_alloc_at _ _ _ _ rfl, Nat.zero_add]
  exact ⟨by simp [hj], by simp⟩
theorem there_block {w w' : World} {b o n : Nat} (h : w.there b o n) (e : w'.heap[b]? = w.heap[b]?) : w'.there b o n := by
  intro j hj
  obtain ⟨h1, h2⟩ := h j hj
  refine ⟨?_, ?_⟩
  · rw [World.cell?_of_block (a := ⟨b, o + j, none⟩) (w := w) e]; exact h1
  · have : w'.frozen? ⟨b, o + j, none⟩ = w.frozen? ⟨b, o + j, none⟩ := by unfold World.frozen?; rw [e]
    rw [this]; exact h2
theorem blk_alloc (w : World) (xs : List Nat) (a : Array Value) (t : TypeId) (ha : a = (xs.map fun x => Value.int .i64 ((x : Nat) : Int)).toArray) : Blk (w.alloc (.cells a t)) w.heap.size xs := by
  subst ha
  refine ⟨fun j x hj => ?_, fun j _ => by simp⟩
  rw [World.cell?_alloc_at _ _ _ _ rfl]
  simp [hj]
/-- What lies in memory while the code for lengths is read. -/
structure FoW (mb base : Nat) (w : World) (ls : List Nat) (wr : World) : Prop where
  blk : Blk wr (w.heap.size + 1) ls
  a0 : Apart mb wr w.heap.size
  a1 : Apart mb wr (w.heap.size + 1)
  res : wr.there w.heap.size 0 17
  kept : Kept mb base w wr
section
variable {mb base : Nat} {s : ByteArray} {a b : Nat} {out : List UInt8} {most : Nat} {bad : Bool} {w wr w2 : World} {ls : List Nat}
theorem FoW.next (h : FoW mb base w ls wr) (k : Kept mb base wr w2) : FoW mb base w ls w2 :=
  ⟨h.blk.kept k h.a1, (k.apart h.a0).1, (k.apart h.a1).1, there_block h.res (k.apart h.a0).2, h.kept.trans k⟩
theorem FoW.put (h : FoW mb base w ls wr) (hlb : mb < base) (hbl : base ≤ w.heap.size) (i y : Nat) (hi : i < ls.length) : FoW mb base w (ls.set i y) (wr.setCell ⟨w.heap.size + 1, i, none⟩ (.int .i64 (y : Int))) := by
  have hc : (wr.setCell ⟨w.heap.size + 1, i, none⟩ (.int .i64 (y : Int))).cell? ⟨mb, 3, none⟩ = wr.cell? ⟨mb, 3, none⟩ := World.cell?_setCell_other _ _ _ _ (by intro e; injection e with e1; omega)
  exact ⟨h.blk.set i y hi, h.a0.same (by simp) hc, h.a1.same (by simp) hc, there_set h.res _ _, h.kept.below ((Below.refl _ _).setCell (p := ⟨w.heap.size + 1, i, none⟩) (show w.heap.size ≤ w.heap.size + 1 by omega) _) hlb hbl⟩
theorem FoW.step (h : FoW mb base w ls wr) (hlb : mb < base) (hbl : base ≤ w.heap.size) (hb : Below wr.heap.size wr w2) : FoW mb base w ls w2 := by
  have hl := h.a1.1
  have hc : w2.cell? ⟨mb, 3, none⟩ = wr.cell? ⟨mb, 3, none⟩ := hb.cell (p := ⟨mb, 3, none⟩) (show mb < wr.heap.size by omega)
  exact ⟨h.blk.step hb hl, h.a0.same hb.size hc, h.a1.same hb.size hc, there_block h.res (hb.block _ (by omega)), h.kept.below (hb.mono (by omega)) hlb hbl⟩
theorem for_start (h : MA mb base s a b out most bad w) (t t2 : TypeId) : MA mb base s a b out most bad ((w.alloc (.cells #[.int .i64 0, .int .i64 0, .int .i64 0, .int .i64 0, .int .i64 0, .int .i64 0, .int .i64 0, .int .i64 0, .int .i64 0, .int .i64 0, .int .i64 0, .int .i64 0, .int .i64 0, .int .i64 0, .int .i64 0, .int .i64 0, .slice none 0 0] t)).alloc (.cells #[.int .i64 0, .int .i64 0, .int .i64 0, .int .i64 0, .int .i64 0, .int .i64 0, .int .i64 0, .int .i64 0, .int .i64 0, .int .i64 0, .int .i64 0, .int .i64 0, .int .i64 0, .int .i64 0, .int .i64 0, .int .i64 0, .int .i64 0, .int .i64 0, .int .i64 0] t2)) ∧ FoW mb base w (List.replicate 19 0) ((w.alloc (.cells #[.int .i64 0, .int .i64 0, .int .i64 0, .int .i64 0, .int .i64 0, .int .i64 0, .int .i64 0, .int .i64 0, .int .i64 0, .int .i64 0, .int .i64 0, .int .i64 0, .int .i64 0, .int .i64 0, .int .i64 0, .int .i64 0, .slice none 0 0] t)).alloc (.cells #[.int .i64 0, .int .i64 0, .int .i64 0, .int .i64 0, .int .i64 0, .int .i64 0, .int .i64 0, .int .i64 0, .int .i64 0, .int .i64 0, .int .i64 0, .int .i64 0, .int .i64 0, .int .i64 0, .int .i64 0, .int .i64 0, .int .i64 0, .int .i64 0, .int .i64 0] t2)) := by
  have hlb := h.lt
  have hbl := h.bl
  have hB : Below w.heap.size w ((w.alloc (.cells #[.int .i64 0, .int .i64 0, .int .i64 0, .int .i64 0, .int .i64 0, .int .i64 0, .int .i64 0, .int .i64 0, .int .i64 0, .int .i64 0, .int .i64 0, .int .i64 0, .int .i64 0, .int .i64 0, .int .i64 0, .int .i64 0, .slice none 0 0] t)).alloc (.cells #[.int .i64 0, .int .i64 0, .int .i64 0, .int .i64 0, .int .i64 0, .int .i64 0, .int .i64 0, .int .i64 0, .int .i64 0, .int .i64 0, .int .i64 0, .int .i64 0, .int .i64 0, .int .i64 0, .int .i64 0, .int .i64 0, .int .i64 0, .int .i64 0, .int .i64 0] t2)) := (below_one w _).trans ((below_one _ _).mono (by simp))
  have hs : (w.alloc (.cells #[.int .i64 0, .int .i64 0, .int .i64 0, .int .i64 0, .int .i64 0, .int .i64 0, .int .i64 0, .int .i64 0, .int .i64 0, .int .i64 0, .int .i64 0, .int .i64 0, .int .i64 0, .int .i64 0, .int .i64 0, .int .i64 0, .slice none 0 0] t)).heap.size = w.heap.size + 1 := by simp
  have hs2 : ((w.alloc (.cells #[.int .i64 0, .int .i64 0, .int .i64 0, .int .i64 0, .int .i64 0, .int .i64 0, .int .i64 0, .int .i64 0, .int .i64 0, .int .i64 0, .int .i64 0, .int .i64 0, .int .i64 0, .int .i64 0, .int .i64 0, .int .i64 0, .slice none 0 0] t)).alloc (.cells #[.int .i64 0, .int .i64 0, .int .i64 0, .int .i64 0, .int .i64 0, .int .i64 0, .int .i64 0, .int .i64 0, .int .i64 0, .int .i64 0, .int .i64 0, .int .i64 0, .int .i64 0, .int .i64 0, .int .i64 0, .int .i64 0, .int .i64 0, .int .i64 0, .int .i64 0] t2)).heap.size = w.heap.size + 2 := by simp
  refine ⟨h.grow hB, ?_, Apart.fresh h hB (Nat.le_refl _) (by omega), Apart.fresh h hB (by omega) (by omega), ?_, (Kept.refl _ _ _).below hB hlb hbl⟩
  · have := blk_alloc (w.alloc (.cells #[.int .i64 0, .int .i64 0, .int .i64 0, .int .i64 0, .int .i64 0, .int .i64 0, .int .i64 0, .int .i64 0, .int .i64 0, .int .i64 0, .int .i64 0, .int .i64 0, .int .i64 0, .int .i64 0, .int .i64 0, .int .i64 0, .slice none 0 0] t)) (List.replicate 19 0) #[.int .i64 0, .int .i64 0, .int .i64 0, .int .i64 0, .int .i64 0, .int .i64 0, .int .i64 0, .int .i64 0, .int .i64 0, .int .i64 0, .int .i64 0, .int .i64 0, .int .i64 0, .int .i64 0, .int .i64 0, .int .i64 0, .int .i64 0, .int .i64 0, .int .i64 0] t2 rfl
    rw [hs] at this; exact this
  · exact there_block (there_alloc w #[.int .i64 0, .int .i64 0, .int .i64 0, .int .i64 0, .int .i64 0, .int .i64 0, .int .i64 0, .int .i64 0, .int .i64 0, .int .i64 0, .int .i64 0, .int .i64 0, .int .i64 0, .int .i64 0, .int .i64 0, .int .i64 0, .slice none 0 0] t 17 rfl) ((below_one _ _).block _ (by omega))
/-- A set of codes is laid into a block of its own. -/
theorem code_laid {lens : List Nat} {V : List Value} (h : MA mb base s a b out most bad w) (hV : CodeVal mb w lens V) (Z : Array Value) (hZ : Z.size = 17) (t : TypeId) :
    MA mb base s a b out most bad ((w.alloc (.cells Z t)).setCells w.heap.size 0 V) ∧ CodeK mb ((w.alloc (.cells Z t)).setCells w.heap.size 0 V) w.heap.size 0 lens ∧ Below w.heap.size w ((w.alloc (.cells Z t)).setCells w.heap.size 0 V) ∧ CodeVal mb ((w.alloc (.cells Z t)).setCells w.heap.size 0 V) lens V ∧ ((w.alloc (.cells Z t)).setCells w.heap.size 0 V).rangeAt w.heap.size 0 V := by
  have hB : Below w.heap.size w ((w.alloc (.cells Z t)).setCells w.heap.size 0 V) := below_setCells _ (Nat.le_refl _) _ _ _ (below_one w _)
  have hml : mb < w.heap.size := Nat.lt_of_lt_of_le h.lt h.bl
  have hV2 := hV.step hB hml
  have hr : ((w.alloc (.cells Z t)).setCells w.heap.size 0 V).rangeAt w.heap.size 0 V := rangeAt_put _ _ _ (there_alloc w Z t _ (by rw [hV.len, hZ]))
  exact ⟨h.grow hB, CodeK.of_val hV2 (Apart.fresh h hB (Nat.le_refl _) (by rw [size_setCells]; simp)) hr, hB, hV2, hr⟩
end
theorem mem_set_le {l : List Nat} {n i y : Nat} (h : ∀ x ∈ l, x ≤ n) (hy : y ≤ n) : ∀ x ∈ l.set i y, x ≤ n := fun x hx => by
  rcases List.mem_or_eq_of_mem_set hx with h1 | h1
  · exact h x h1
  · rw [h1]; exact hy
section
variable {mb base : Nat} {s : ByteArray} {pos : Nat} {out : List UInt8} {most : Nat} {bad : Bool} {w : World}
set_option maxRecDepth 100000 in
set_option maxHeartbeats 4000000 in
theorem codeForLengths_walk (h : MW mb base s pos out most bad w) (hs : s.size ≤ 140737488355328) (hp : pos ≤ 8 * s.size) (hD : DefW w) (hT : Tabs w) (hg : 33 ≤ mb) :
    Calls Tryd.prog 49 #[.pointer (some ⟨mb, 0, none⟩)] w fun e w' => ∃ V, e = .returned (.agg V.toArray) ∧ ForPost mb base s pos out most bad V w w' := by
  have hlb : mb < base := MA.lt h
  have hbl : base ≤ w.heap.size := MA.bl h
  go_enter Tryd.func49, Tryd.ntmps49
  go_wp2_with fail
  refine (take_any 4 (for_start h _ _).1 hs hp (by decide) (hD.kept (for_start h 77 130).2.kept hg hlb) hg).mono ?_
  rintro e w1 ⟨v, p1, bd1, rfl, hv, hp1, hM1, k1, f1, g1⟩
  have hF1 := (for_start h _ _).2.next k1
  clear h k1
  have hv16 : v < 16 := hv
  go_wp2
  go_loopw [4, 9] (fun _ i wr => ∃ (k p : Nat) (bd : Bool) (ls : List Nat), k ≤ 4 + v ∧ i = .int .i64 k ∧ MW mb base s p out most bd wr ∧ FoW mb base w ls wr ∧ Hid (p ≤ 8 * s.size ∧ ls.length = 19 ∧ (∀ x ∈ ls, x ≤ 15) ∧ (bd = false → bad = false ∧ pos + 4 + 3 * k ≤ 8 * s.size ∧ v = bitsVal s pos 4 ∧ p = pos + 4 + 3 * k ∧ ls = clens s (pos + 4) k) ∧ (bad = false → pos + 4 + 3 * k ≤ 8 * s.size → bd = false))) (fun _ i _ => 4 + v - (intOf i).toNat)
  case atStart => exact ⟨0, p1, bd1, List.replicate 19 0, by omega, rfl, hM1, hF1, ⟨hp1, rfl, fun x hx => (by rw [List.eq_of_mem_replicate hx]; omega), fun hb => (by obtain ⟨i1, i2, i3, i4⟩ := f1 hb; exact ⟨i1, by omega, i4, by omega, rfl⟩), fun hb hl => g1 hb (by omega)⟩⟩
  case round =>
    clear hM1 hF1
    obtain ⟨k, p, bd, ls, hk, rfl, hM, hF, HI⟩ := hrel
    by_cases hlt : k < 4 + v
    · have hlt' : (k : Int) < 4 + (v : Int) := by omega
      obtain ⟨o, HO⟩ : ∃ o, Hid (ordL[k]? = some o ∧ ordL.getD k 0 = o ∧ o < 19) := ordL_get k (by omega)
      have hk19 : (k : Int) < 19 := by omega
      have ho19 : (o : Int) < 19 := by have := HO.out.2.2; omega
      have hTr := hT.kept hF.kept hg hlb
      have hco : wr.cell? ⟨31, k, none⟩ = some (.int .i64 (o : Int)) := hTr.ord k o HO.out.1
      have hMd : MA mb base s (p / 8) (p % 8) out most bd wr.drew := MA.drew hM 1
      have hFd : FoW mb base w ls wr.drew := hF.next (Kept.drew 1)
      have hDd : DefW wr.drew := hD.kept hFd.kept hg hlb
      have hol : o < ls.length := by rw [HI.out.2.1]; exact HO.out.2.2
      obtain ⟨y0, HY0⟩ : ∃ y0, Hid (ls[o]? = some y0) := ⟨_, List.getElem?_eq_getElem hol⟩
      clear hM hF hTr
      go_wp2_with fail
      go_region_held3 (fun w' => w'.cell? ⟨31, k, none⟩ = some (.int .i64 (o : Int)))
        (first | go_keep | (rw [k3.tab hg hlb _ _ (by decide)]; assumption) | (rw [World.cell?_setCell_other _ _ _ _ (by intro e; injection e with e1; omega)]; assumption))
        ((refine (take_any 3 hMd hs HI.out.1 (by decide) hDd hg).mono ?_; rintro e w2 ⟨v3, p3, bd3, rfl, hv3, hp3, hM3, k3, f3, g3⟩; have hF3 := hFd.next k3; obtain ⟨c3, fr3⟩ := hF3.blk.at o y0 HY0.out))
      have hM4 := MA.set hM3 hF3.a1 o (.int .i64 (v3 : Int))
      have hF4 := hF3.put hlb hbl o v3 hol
      have HI4 : Hid (p3 ≤ 8 * s.size ∧ (ls.set o v3).length = 19 ∧ (∀ x ∈ ls.set o v3, x ≤ 15) ∧ (bd3 = false → bad = false ∧ pos + 4 + 3 * (k + 1) ≤ 8 * s.size ∧ v = bitsVal s pos 4 ∧ p3 = pos + 4 + 3 * (k + 1) ∧ ls.set o v3 = clens s (pos + 4) (k + 1)) ∧ (bad = false → pos + 4 + 3 * (k + 1) ≤ 8 * s.size → bd3 = false)) := by
        obtain ⟨j1, j2, j3, j4, j5⟩ := HI.out
        have hv8 : v3 < 8 := hv3
        refine ⟨hp3, by rw [List.length_set]; exact j2, mem_set_le j3 (by omega), fun hb => ?_, fun hb hl => ?_⟩
        · obtain ⟨i1, i2, i3, i4⟩ := f3 hb
          obtain ⟨q1, q2, q3, q4, q5⟩ := j4 i1
          refine ⟨q1, by omega, q3, by omega, ?_⟩
          rw [clens, HO.out.2.1, ← q5, i4, q4]
        · have hbd := j5 hb (by omega)
          have := (j4 hbd).2.2.2.1
          exact g3 hbd (by omega)
      clear hM3 hF3 c3 fr3 hMd hFd hDd hco k3 f3 g3
      go_wp2
      go_roundw
      case rel => exact ⟨k + 1, p3, bd3, ls.set o v3, by omega, by go_num, hM4, hF4, HI4⟩
      case measure => simp [intOf]; omega
    · have hlt' : ¬ (k : Int) < 4 + (v : Int) := by omega
      have hk4 : k = 4 + v := by omega
      have HK : Hid (k = 4 + v) := hk4
      clear hk4 hk hlt
      go_wp2_with fail
      refine (makeCode_val hM (lb := w.heap.size + 1) (lo := 0) (lens := ls) (fun j x hj => by rw [Nat.zero_add]; exact hF.blk.cell j x hj) (by rw [HI.out.2.1]; decide) (by rw [HI.out.2.1]; decide) HI.out.2.2.1 19 HI.out.2.1.symm).mono ?_
      rintro e w2 ⟨V, rfl, hB2, hV, HG⟩
      have hM2 : MA mb base s (p / 8) (p % 8) out most bd w2 := MA.grow hM hB2
      have hF2 := hF.step hlb hbl hB2
      have hVl := hV.len
      have HIA : Hid ((Tryd.prog.info? 77).map (·.size) = some V.length) := by show _ = _; rw [hVl]; exact codeInfo
      have HIB : Hid ((Tryd.prog.info? 77).map (·.size) = some V.toArray.size) := HIA.out
      have HLA : Hid (V.toArray.all (·.oneCell') = true) := all_oneCell_toArray hV.one
      have HTh : Hid (∀ t, (w2.alloc (.cells #[.int .i64 0, .int .i64 0, .int .i64 0, .int .i64 0, .int .i64 0, .int .i64 0, .int .i64 0, .int .i64 0, .int .i64 0, .int .i64 0, .int .i64 0, .int .i64 0, .int .i64 0, .int .i64 0, .int .i64 0, .int .i64 0, .slice none 0 0] t)).there w2.heap.size 0 V.toArray.size) := fun t => there_alloc w2 _ t _ (by show V.length = _; rw [hVl]; rfl)
      obtain ⟨hM3, hC3, hB3, hV3, hr3⟩ := code_laid hM2 hV #[.int .i64 0, .int .i64 0, .int .i64 0, .int .i64 0, .int .i64 0, .int .i64 0, .int .i64 0, .int .i64 0, .int .i64 0, .int .i64 0, .int .i64 0, .int .i64 0, .int .i64 0, .int .i64 0, .int .i64 0, .int .i64 0, .slice none 0 0] rfl 77
      have hF3 := hF2.step hlb hbl hB3
      clear hB2 hM2 hF2 hV
      go_wp2_with (refine wpList_store_mid rfl 77 (.tmp 5) (.tmp 20) rfl w2.heap.size 0 V.toArray rfl rfl (HTh.out _) HIB.out HLA.out ?_)
      refine (complete_walk hC3 (by rw [HI.out.2.1]; decide)).mono ?_
      rintro e w4 ⟨rfl, rfl⟩
      obtain ⟨cb, Hcb⟩ : ∃ cb, Hid (w2.heap.size = cb) := ⟨_, rfl⟩
      rw [Hcb.out] at hM3 hC3 hB3 hV3 hr3 hF3 ⊢
      generalize (w2.alloc (.cells #[.int .i64 0, .int .i64 0, .int .i64 0, .int .i64 0, .int .i64 0, .int .i64 0, .int .i64 0, .int .i64 0, .int .i64 0, .int .i64 0, .int .i64 0, .int .i64 0, .int .i64 0, .int .i64 0, .int .i64 0, .int .i64 0, .slice none 0 0] 77)).setCells cb 0 V = W3 at *
      by_cases hfull : full ls
      · simp only [decide_eq_true hfull]
        obtain ⟨w5, hw5⟩ : ∃ w5, w5 = W3 := ⟨_, rfl⟩
        have hK5 : Kept mb base W3 w5 := by rw [hw5]; exact Kept.refl _ _ _
        obtain ⟨bd5, hbd5⟩ : ∃ bd5, bd5 = bd := ⟨_, rfl⟩
        have hM5 : MA mb base s (p / 8) (p % 8) out most bd5 w5 := by rw [hw5, hbd5]; exact hM3
        have HJ : Hid ((bd5 = false → bd = false ∧ full ls) ∧ (bd = false → full ls → bd5 = false)) := ⟨fun hb => ⟨by rw [← hbd5]; exact hb, hfull⟩, fun hb _ => by rw [hbd5]; exact hb⟩
        rw [← hw5]
        clear hw5 hbd5
        have e5 := hK5.apart hC3.ap
        have HR5 : Hid (w5.rangeAt cb 0 V) := fun j v hj => by rw [World.cell?_of_block (a := ⟨cb, 0 + j, none⟩) (w := W3) e5.2]; exact hr3 j v hj
        have HTh5 : Hid (w5.there w.heap.size 0 V.toArray.size) := by show w5.there _ _ V.length; rw [hVl]; exact (hF3.next hK5).res
        have HP : Hid (ForPost mb base s pos out most bad V w (w5.setCells w.heap.size 0 V)) := by
          refine ⟨ls, p, bd5, HI.out.2.1, HI.out.2.2.1, (hV3.kept hK5).other (by rw [size_setCells]; exact Nat.le_refl _) w.heap.size (fun k _ hk => heap_setCells _ _ hk _ _ _) (by omega) (Nat.lt_of_lt_of_le hlb (MA.bl hM5)) (fun l' v hv g n c hg => by have := HG.out l' v hv g n c hg; have := hF.a1.1; omega), (fun l' v hv g n c hg => by have := HG.out l' v hv g n c hg; have := hF.a1.1; omega), HI.out.1, MA.sets hM5 (hF3.next hK5).a0 0 V, Kept.below (hF3.next hK5).kept (below_setCells _ (Nat.le_refl _) _ _ _ (Below.refl _ _)) hlb hbl, ?_, ?_⟩
          · intro hb
            obtain ⟨i1, i2⟩ := HJ.out.1 hb
            obtain ⟨j1, j2, j3, j4, j5⟩ := HI.out.2.2.2.1 i1
            have e : k = FL s pos := by have := HK.out; unfold FL; omega
            rw [e] at j2 j4 j5
            exact ⟨j1, j2, j4, j5, i2⟩
          · intro hb hl hf
            have h14 : pos + 4 ≤ 8 * s.size := by omega
            have hv := (f1 (g1 hb h14)).2.2.2
            have e : k = FL s pos := by have := HK.out; unfold FL; omega
            have hbd := HI.out.2.2.2.2 hb (by rw [e]; exact hl)
            refine HJ.out.2 hbd ?_
            rw [(HI.out.2.2.2.1 hbd).2.2.2.2, e]; exact hf
        clear hM5 hK5 e5 HJ hF3 hV3 hC3 hr3 hM3
        go_wp2_with (first | refine wpList_load_mid rfl 77 (.tmp 5) rfl cb 0 rfl V _ HR5.out Tryd.underlying77 rfl HIA.out ?_ | refine wpList_store_mid rfl 77 (.tmp 2) (.tmp 26) rfl w.heap.size 0 V.toArray rfl rfl HTh5.out HIB.out HLA.out ?_)
        exact bodyPost_ret (v := .agg V.toArray) (results_cell_mid rfl _ _ w.heap.size V _ rfl (rangeAt_put _ _ _ HTh5.out) Tryd.underlying77 rfl HIA.out) rfl ⟨V, rfl, HP.out⟩
      · simp only [decide_eq_false hfull]
        obtain ⟨x, hx⟩ := (hD.kept hF3.kept hg hlb).lengths
        go_wp2_with fail
        refine (fail_walk x hM3).mono ?_
        rintro e w5 ⟨rfl, hM5, hK5⟩
        obtain ⟨bd5, hbd5⟩ : ∃ bd5, bd5 = true := ⟨_, rfl⟩
        rw [← hbd5] at hM5
        have HJ : Hid ((bd5 = false → bd = false ∧ full ls) ∧ (bd = false → full ls → bd5 = false)) := ⟨fun hb => (by rw [hb] at hbd5; cases hbd5), fun _ hf => absurd hf hfull⟩
        clear hbd5 hx
        have e5 := hK5.apart hC3.ap
        have HR5 : Hid (w5.rangeAt cb 0 V) := fun j v hj => by rw [World.cell?_of_block (a := ⟨cb, 0 + j, none⟩) (w := W3) e5.2]; exact hr3 j v hj
        have HTh5 : Hid (w5.there w.heap.size 0 V.toArray.size) := by show w5.there _ _ V.length; rw [hVl]; exact (hF3.next hK5).res
        have HP : Hid (ForPost mb base s pos out most bad V w (w5.setCells w.heap.size 0 V)) := by
          refine ⟨ls, p, bd5, HI.out.2.1, HI.out.2.2.1, (hV3.kept hK5).other (by rw [size_setCells]; exact Nat.le_refl _) w.heap.size (fun k _ hk => heap_setCells _ _ hk _ _ _) (by omega) (Nat.lt_of_lt_of_le hlb (MA.bl hM5)) (fun l' v hv g n c hg => by have := HG.out l' v hv g n c hg; have := hF.a1.1; omega), (fun l' v hv g n c hg => by have := HG.out l' v hv g n c hg; have := hF.a1.1; omega), HI.out.1, MA.sets hM5 (hF3.next hK5).a0 0 V, Kept.below (hF3.next hK5).kept (below_setCells _ (Nat.le_refl _) _ _ _ (Below.refl _ _)) hlb hbl, ?_, ?_⟩
          · intro hb
            obtain ⟨i1, i2⟩ := HJ.out.1 hb
            obtain ⟨j1, j2, j3, j4, j5⟩ := HI.out.2.2.2.1 i1
            have e : k = FL s pos := by have := HK.out; unfold FL; omega
            rw [e] at j2 j4 j5
            exact ⟨j1, j2, j4, j5, i2⟩
          · intro hb hl hf
            have h14 : pos + 4 ≤ 8 * s.size := by omega
            have hv := (f1 (g1 hb h14)).2.2.2
            have e : k = FL s pos := by have := HK.out; unfold FL; omega
            have hbd := HI.out.2.2.2.2 hb (by rw [e]; exact hl)
            refine HJ.out.2 hbd ?_
            rw [(HI.out.2.2.2.1 hbd).2.2.2.2, e]; exact hf
        clear hM5 hK5 e5 HJ hF3 hV3 hC3 hr3 hM3
        go_wp2_with (first | refine wpList_load_mid rfl 77 (.tmp 5) rfl cb 0 rfl V _ HR5.out Tryd.underlying77 rfl HIA.out ?_ | refine wpList_store_mid rfl 77 (.tmp 2) (.tmp 26) rfl w.heap.size 0 V.toArray rfl rfl HTh5.out HIB.out HLA.out ?_)
        exact bodyPost_ret (v := .agg V.toArray) (results_cell_mid rfl _ _ w.heap.size V _ rfl (rangeAt_put _ _ _ HTh5.out) Tryd.underlying77 rfl HIA.out) rfl ⟨V, rfl, HP.out⟩
end
end Go.Proofs.YtjilhneefbakhaaDoor.Inf
